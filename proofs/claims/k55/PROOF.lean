import PyProof.Rows.All
import Wide.All
import OpenK.AllK
import Wide.FinOn
import Lean
import PyProof.EqAt
import PyProof.EqKinds
import PyProof.TupleCall
import PyProof.Rows.CatFin
import PyProof.StrLawsIn
import KE.IntTextLaws
import KE.IntTextText
import PyProof.StrLawsTight
import PyProof.StrLawsChain
import PyProof.Rows.StrLawsPart
import PyProof.Rows.StrFirst
import PyProof.Rows.ReprOcc
import PyProof.Rows.StrItems
import PyProof.SumAny
import PyProof.SeqI3
import PyProof.WalkInts
import PyProof.NeKinds
import KE.KDictLaws
import PyProof.DictIter
import PyProof.DictWalks
import PyProof.Rows.DictUnroll
import KE.KSortTup
import KE.KSortKey
import KE.KDictSum
import PyProof.Rows.SortRuns
import PySem.Challenge.RW_jumpfield_k55_whole_jump_is_plain_steps
set_option compiler.extract_closed false
set_option bootstrap.genMatcherCode false
set_option Elab.async false
set_option linter.all false
set_option genSizeOfSpec false
set_option maxRecDepth 100000
set_option maxHeartbeats 8000000
open Option renaming some->o3,none->o4
open Bool renaming true->o5,false->o6
theorem Z{α:Sort u}{a:α}:a=a:=rfl
abbrev A_:=List (PySem.Addr×PySem.Obj)
abbrev B_:=PySem.Value->PySem.Shared->Prop
abbrev C_:=PySem.Str->Option PySem.Value
abbrev D_:=Int->Int->Nat
abbrev E_:=PySem.FuncData
abbrev F_:=List PySem.Value
abbrev H_:=List PySem.Addr
abbrev I_:=List Int
abbrev J_:=List Nat
abbrev K_:=List PySem.Str
abbrev L_:=Nat->Nat
abbrev M_:=Array PySem.Value
abbrev N_:=PySem.Program
abbrev O_:=PySem.W.Frag
abbrev P_:=PySem.Shared
abbrev Q_:=PySem.World
abbrev R_:=PySem.Addr
abbrev S_:=PySem.Value
abbrev T_:=PySem.Heap
theorem xa{p q g:Prop}(h:p/\q)(k:p->q->g):g:=k h.1 h.2
theorem xe{p:α->Prop}{g:Prop}(h:∃x,p x)(k:∀x,p x->g):g:=h.elim k
theorem xa2{p q r g:Prop}(h:p/\q/\r)(k:p->q->r->g):g:=xa h.2 (k h.1)
theorem xea{p q:α->Prop}{g:Prop}(h:∃x,p x/\q x)(k:∀x,p x->q x->g):g:=h.elim λa h=>xa h (k a)
theorem xe2{p:α->β->Prop}{g:Prop}(h:∃x y,p x y)(k:∀x y,p x y->g):g:=h.elim λa h=>xe h (k a)
theorem xa3{p q r P g:Prop}(h:p/\q/\r/\P)(k:p->q->r->P->g):g:=xa2 h.2 (k h.1)
theorem Jy{p g:Prop}{q r:α->Prop}(h:p/\∃x,q x/\r x)(k:p->∀x,q x->r x->g):g:=xea h.2 (k h.1)
theorem AS{p q r:α->Prop}{g:Prop}(h:∃x,p x/\q x/\r x)(k:∀x,p x->q x->r x->g):g:=h.elim λa h=>xa2 h (k a)
theorem BJ{p q:α->β->Prop}{g:Prop}(h:∃x y,p x y/\q x y)(k:∀x y,p x y->q x y->g):g:=h.elim λa h=>xea h (k a)
theorem xe3{p:α->β->γ->Prop}{g:Prop}(h:∃x y z,p x y z)(k:∀x y z,p x y z->g):g:=h.elim λa h=>xe2 h (k a)
theorem xa4{p q r P Q g:Prop}(h:p/\q/\r/\P/\Q)(k:p->q->r->P->Q->g):g:=xa3 h.2 (k h.1)
theorem CU{p q g:Prop}{r P:α->Prop}(h:p/\q/\∃x,r x/\P x)(k:p->q->∀x,r x->P x->g):g:=Jy h.2 (k h.1)
theorem NZ{p g:Prop}{q r:α->β->Prop}(h:p/\∃x y,q x y/\r x y)(k:p->∀x y,q x y->r x y->g):g:=BJ h.2 (k h.1)
theorem Dh{p q r P:α->Prop}{g:Prop}(h:∃x,p x/\q x/\r x/\P x)(k:∀x,p x->q x->r x->P x->g):g:=h.elim λa h=>xa3 h (k a)
theorem AN{p q r:α->β->Prop}{g:Prop}(h:∃x y,p x y/\q x y/\r x y)(k:∀x y,p x y->q x y->r x y->g):g:=h.elim λa h=>AS h (k a)
theorem xe4{p:α->β->γ->δ->Prop}{g:Prop}(h:∃x y z w,p x y z w)(k:∀x y z w,p x y z w->g):g:=h.elim λa h=>xe3 h (k a)
theorem xa5{p q r P Q R g:Prop}(h:p/\q/\r/\P/\Q/\R)(k:p->q->r->P->Q->R->g):g:=xa4 h.2 (k h.1)
theorem DC{p g:Prop}{q r P:α->β->Prop}(h:p/\∃x y,q x y/\r x y/\P x y)(k:p->∀x y,q x y->r x y->P x y->g):g:=AN h.2 (k h.1)
theorem CC{p q r P:α->β->Prop}{g:Prop}(h:∃x y,p x y/\q x y/\r x y/\P x y)(k:∀x y,p x y->q x y->r x y->P x y->g):g:=h.elim λa h=>Dh h (k a)
theorem CL{p q r:α->β->γ->Prop}{g:Prop}(h:∃x y z,p x y z/\q x y z/\r x y z)(k:∀x y z,p x y z->q x y z->r x y z->g):g:=h.elim λa h=>AN h (k a)
theorem xe5{p:α->β->γ->δ->ε->Prop}{g:Prop}(h:∃x y z w u,p x y z w u)(k:∀x y z w u,p x y z w u->g):g:=h.elim λa h=>xe4 h (k a)
theorem CB{p q r P Q:α->β->Prop}{g:Prop}(h:∃x y,p x y/\q x y/\r x y/\P x y/\Q x y)(k:∀x y,p x y->q x y->r x y->P x y->Q x y->g):g:=h.elim λa h=>h.elim λb h=>xa4 h (k a b)
theorem Fz{p q r P:α->β->γ->Prop}{g:Prop}(h:∃x y z,p x y z/\q x y z/\r x y z/\P x y z)(k:∀x y z,p x y z->q x y z->r x y z->P x y z->g):g:=h.elim λa h=>CC h (k a)
theorem BV{p q r P Q:α->β->γ->Prop}{g:Prop}(h:∃x y z,p x y z/\q x y z/\r x y z/\P x y z/\Q x y z)(k:∀x y z,p x y z->q x y z->r x y z->P x y z->Q x y z->g):g:=h.elim λa h=>CB h (k a)
theorem Cm{p q r P Q:α->β->γ->δ->Prop}{g:Prop}(h:∃x y z w,p x y z w/\q x y z w/\r x y z w/\P x y z w/\Q x y z w)(k:∀x y z w,p x y z w->q x y z w->r x y z w->P x y z w->Q x y z w->g):g:=h.elim λa h=>BV h (k a)
theorem O_9{α:Sort u}{a:α}{q:Prop}:a=a∨q:=Or.inl Z
theorem R_9{α:Sort u}{β:Sort v}{γ:Sort w}{f:α->β->γ}:∀a b,f a b=f a b:=λ_ _=>Z
theorem S_4{p:Prop}(h:p:=by show 4<=PySem.sizeLine;decide):p:=h
theorem S_0{p:Prop}(h:p:=by show 0<=PySem.sizeLine;decide):p:=h
theorem S_1{p:Prop}(h:p:=by show 1<=PySem.sizeLine;decide):p:=h
theorem S_2{p:Prop}(h:p:=by show 2<=PySem.sizeLine;decide):p:=h
theorem S_3{p:Prop}(h:p:=by show 3<=PySem.sizeLine;decide):p:=h
theorem D_9{p:Prop}(h:p:=by intro _ _ _ _ h;rcases h;subst_vars;rfl):p:=h
theorem A0{p:Prop}(h:p:=by lia):p:=h
theorem A3{p:Prop}(h:p:=by decide +kernel):p:=h
theorem A4{p:Prop}(h:p:=by intro z; cases z):p:=h
theorem A6{p:Prop}(h:p:=by decide):p:=h
theorem B0{p:Prop}(h:p:=by simp):p:=h
theorem B1{p:Prop}(h:p:=by omega):p:=h
theorem B2{p:Prop}(h:p:=by intro _ z; cases z):p:=h
theorem B3{p:Prop}(h:p:=by show (0:Int) < 3; decide):p:=h
theorem B4{p:Prop}(h:p:=by show 0 < 1000; decide):p:=h
theorem B5{p:Prop}(h:p:=by show (0:Int) < 8; decide):p:=h
theorem B6{p:Prop}(h:p:=by show (0:Int) < 4; decide):p:=h
theorem B7{p:Prop}(h:p:=by show 1 < 1000; decide):p:=h
open List renaming length_map->B8,getElem?_eq_some_iff->B9,getElem?_map->C1,mem_cons->C4,getElem?_eq_getElem->C5,length_append->C6,map_append->C7,mem_cons_self->C8,mem_cons_of_mem->C9,getD_eq_getElem?_getD->D3,mem_singleton->D4,mem_of_getElem?->D5,length_cons->D8,mem_map->F1,size_toArray->F3,take_add_one->F4,map_cons->F5,not_mem_nil->F6,take_length->F8,getElem?_append_right->J0,length_take->J3,mem_append->J7,getElem?_of_mem->L7,mem_append_right->M0,getElem?_append_left->M5,map_map->M9,mem_range->N2,nodup_iff_pairwise_ne->N6,append_assoc->N7,nodup_cons->O0,getElem_mem->O3,length_range->O4,pairwise_map->P1,range_succ->P2,sum_cons->P4,lookup_cons->P9,length_replicate->Q6,drop_eq_getElem_cons->Q8,map_eq_nil_iff->R3,getElem?_range->R4,nodup_nil->R6,length_nil->R8,find?_cons->R9,append_nil->S0,length_singleton->S3,getElem?_eq_none->S4,nodup_append->S5,flatten_cons->S6,all_eq_true->S9,replicate_succ->T1,foldl_cons->T3,findIdx?_eq_some_iff_getElem->T6,flatMap_cons->T8,mem_flatMap->U4,any_cons->U5,pairwise_append->U7,mem_append_left->U8,length_pos_iff->V1,filterMap_cons->V2,pairwise_iff_getElem->W0,getElem?_zip_eq_some->W1,findIdx?_eq_none_iff->W2,getElem?_take_of_lt->W7,mem_reverse->Y5,getElem_map->Y6,getElem?_replicate->Y7,getElem?_cons_succ->Y9,countP_cons->Z0,any_eq_true->Z1,map_nil->Z3,getElem?_set_self->Z4,mem_filter->Z8,length_zip->Z9,take_append_drop->X5,mem_iff_getElem->X8,pairwise_cons->K4,getElem?_drop->K5
open Nat renaming le_refl->C0,le_trans->D0,lt_of_le_of_lt->F7,lt_of_lt_of_le->F9,ne_of_lt->J8,zero_le->J9,pow_succ->L9,mod_lt->M8,mul_le_mul_left->N4,not_lt_zero->N5,le_of_lt->N8,div_add_mod->N9,zero_add->O2,div_eq_of_lt->O6,pow_le_pow_right->O7,add_mul_div_left->O8,succ_le_succ->P5,mod_eq_of_lt->P6,min_le_right->P7,le_of_not_lt->P8,add_mul_mod_self_left->Q7,lt_irrefl->R0,le_succ->S7,sub_add_cancel->T4,lt_one_iff->T7,lt_succ_self->U3,add_le_add_right->U6,sub_self->V3,ne_of_gt->V4,lt_trans->V5,pow_pos->W3,lt_succ_of_lt->W4,lt_succ_iff_lt_or_eq->W6,lt_of_not_le->W8,le_add_right->W9,add_sub_cancel_left->Y4,mul_comm->Z2,div_lt_iff_lt_mul->X4,pow_lt_pow_right->X7,pos_of_ne_zero->K3,le_of_eq->K7,add_zero->K8
open PySem.Heap renaming get?_push_of_some->C2,get?_push_size->F0,lt_size->F2,size_push->O9,get?_none_of_le->P0,get?_update_ne->P3,get?_update_other->Z6,get?_update_self->X6
open Array renaming getElem?_eq_getElem->C3,length_toList->D6,getElem?_toList->M4,getElem?_eq_some_iff->M6,toList_push->M7,append_empty->Q5,getElem_toList->Q9,extract_eq_empty_of_le->S2,toList_extract->S8,size_extract->T5,getElem?_extract->U0,getElem?_eq_none->U1,reverse_reverse->U2,toList_reverse->U9,reverse_append->V0,getD_eq_getD_getElem?->V6,perm_iff_toList_perm->V9,append_push->W5
open Option renaming map_eq_some_iff->D7,toList_some->Q4,map_some->Z7
open Bool renaming false_ne_true->D9,false_eq_true->N3,and_eq_true->Q0,eq_iff_iff->S1,not_true->K2,eq_false_iff->A0a
open Int renaming eq_ofNat_of_zero_le->J6,toNat_natCast->L8,natCast_pow->N1,natCast_add->O1,natCast_mul->O5,toNat_of_nonneg->R5,add_sub_cancel->R7,zero_add->T0,add_zero->T9,fdiv_eq_ediv_of_nonneg->V7,emod_lt_of_pos->V8,pow_succ->Z5,mul_add->X9,mul_assoc->K0,add_assoc->K1,natCast_nonneg->K6,mul_comm->K9
open PySem renaming wpAny_bind->A0b,wpAny_pure->A0h,boot_len->A2g,wpAny_truthy_bool->A3d,wpAny_mono->A3e,mem_of_lookup->A3h,wpAny_field->A4f,wpAny_call_entry->A5b,wpAny_seqItems->A5c,wpAny_typeNameOfWhole_keyiter->A5e,wpAny_Call_Name_kw->A5f,wpAny_setField_rec->A5g,wpAny_passesOwn->A5h,wpAny_holding->A6b,wpAny_attempt->A6c,wpAny_pyIter_list->A6d,wpAny_newObj_type->A6e,wpAny_rule->A6g,wpAny_typeNameOf_keyiter->A7b,call_meets->A7c,tupleKind_room_in1->A7d,wpAny_dictEntries->A9a,codeAny_mono->A9c,typeIs_str->A9d,wpAny_execs_nil->A9f,wpAny_setField->B0c,wpAny_updateSeq_pair->B0d,wpAny_standAt->B0e,wpAny_onRaise->B0f
open PyProof.Rows renaming wpS_bind->A0g,wpS_pure->A1a,boot_isinstance->A2c,wpS_forRange->A3a,boot_tuple->A3b,boot_min->A3g,wpS_mono->A4a,callWith_type1->A4b,boot_int->A4d,boot_max->A4e,wpS_modify->A5a,boot_str->A5d,wpS_get->A8e,boot_bool->A8g,boot_list->A8h
open Ne renaming symm->A1b
open PySem.PassesOwn renaming never->A1c
open Option.some renaming inj->A1d
open PySem.Paired renaming length->A1e,snoc->A4g
open Int.ofNat renaming inj->A1f
open PySem.F renaming plainAttrs_list->A1g,slot_list_append->A1h,type_list_append->A2a,plainAttrs_str->A3f,slot_dict_get->A4c,slot_dict_keyiterator_next->A6a,slot_tuple_iterator_next->A6f,entry_dict_get->A7a,slot_str_join->A7e,type_str_join->A7f,slot_zip_next->A9g,args_str_split_2->B0g
open PySem.W renaming mg_of->A2d,kia_one->A3c,plainGet_of->A9b,callWith_K->A9h
open Classical renaming byContradiction->A2e
open List.Perm renaming refl->A7g
open PySem.Heap.SameBut renaming update->A8a
open PySem.Calls renaming spliced_cons->A8c,callWith_builtin->A9e,evalArgs_plain->B0b
open PySem.Obj renaming data_mapFields->A8d
abbrev A0c:=@if_neg
abbrev A0d:=@decide_eq_true
abbrev A0e:=@if_pos
abbrev A0f:=@decide_eq_false
abbrev A2b:=@of_decide_eq_true
abbrev A2f:=@congrArg
abbrev A2h:=@or_false
abbrev A4h:=@if_false
abbrev A6h:=@not_false_eq_true
abbrev A7h:=@if_true
abbrev A8b:=@decide_eq_true_eq
abbrev A8f:=@not_or
abbrev B0a:=@beq_iff_eq
open PySem.W (instObj methodObj lookIn plainGet hasDictIn findIn handedIn isFn plainOver takerIn any_some makesIn emptyDict keepIn specialIn takesIn mroIn kitOne kitx_list kitx_dict notCls clsIn)
namespace L2
open PySem PySem.Spec PyProof.Rows
abbrev Key:=Sum Int Str
noncomputable def Rh:Key->Value->Bool
|.inl k,v=>Value.isInt k v
|.inr x,v=>Value.isStrOf x v
noncomputable def keyH(w:Q_):Key->Int
|.inl k=>hashInt k
|.inr x=>hashStr w x
theorem Cv:∀{k:Key}{v:S_},Rh k v=o5->(∃i t,k=Sum.inl i/\v=Value.int i t)\/(∃x t,k=Sum.inr x/\v=Value.str x t)
|.inl i,v,h=>by
 obtain⟨t,e⟩:=Value.isInt_shape (k:=i) (v:=v) h;exact .inl ⟨i,t,Z,e⟩
|.inr x,v,h=>by
 obtain⟨t,e⟩:=Value.isStrOf_shape (x:=x) (v:=v) h;exact .inr ⟨x,t,Z,e⟩
theorem YM(i:Int)(t:Tok):Rh (.inl i) (.int i t)=o5:=by simp[Rh,Value.isInt]
theorem YL(x:Str)(t:Tok):Rh (.inr x) (.str x t)=o5:=by simp[Rh,Value.isStrOf]
theorem aEF(a b:Int):decide ((Sum.inl a:Key)=Sum.inl b)=(a==b):=by
 by_cases e:a=b
 .subst e;simp
 .have h:¬(Sum.inl a:Key)=Sum.inl b:=λq=>e (Sum.inl.inj q);rw[A0f h];exact(beq_eq_false_iff_ne.mpr e).symm
theorem aEI(a b:Str):decide ((Sum.inr a:Key)=Sum.inr b)=decide (a=b):=by
 by_cases e:a=b
 .subst e;simp
 .have h:¬(Sum.inr a:Key)=Sum.inr b:=λq=>e (Sum.inr.inj q);rw[A0f h,A0f e]
theorem aEG(a:Int)(b:Str):decide ((Sum.inl a:Key)=Sum.inr b)=o6:=A0f (λq=>nomatch q)
theorem aEH(a:Str)(b:Int):decide ((Sum.inr a:Key)=Sum.inl b)=o6:=A0f (λq=>nomatch q)
noncomputable def Ck(prog:N_)(w:Q_):PySem.KeyKind prog w Key where
 is:=Rh
 hash:=keyH w
 inj:=λv a b ha hb=>by
  rcases Cv ha with ⟨i,t,rfl,rfl⟩|⟨x,t,rfl,rfl⟩
  .rcases Cv hb with ⟨j,u,rfl,e⟩|⟨y,u,rfl,e⟩
   .injection e with e1 _;rw[e1]
   .exact nomatch e
  .rcases Cv hb with ⟨j,u,rfl,e⟩|⟨y,u,rfl,e⟩
   .exact nomatch e
   .injection e with e1 _;rw[e1]
 byValue:=λk v h=>by
  rcases Cv h with ⟨i,t,rfl,rfl⟩|⟨x,t,rfl,rfl⟩<;>rfl
 pyHash:=λhv h=>by
  rcases Cv hv with ⟨i,t,rfl,rfl⟩|⟨x,t,rfl,rfl⟩
  .exact wpAny_pyHash_int h
  .exact wpAny_pyHash_str h
 eqBool:=λhu hv h=>by
  rcases Cv hu with ⟨i,t,rfl,rfl⟩|⟨x,t,rfl,rfl⟩
  .rcases Cv hv with ⟨j,u,rfl,rfl⟩|⟨y,u,rfl,rfl⟩
   .rw[aEF]at h;exact wpAny_eqBool_int h
   .rw[aEG]at h;exact SeqAt.EqAt.int_str i t y u _ _ _ _ h
  .rcases Cv hv with ⟨j,u,rfl,rfl⟩|⟨y,u,rfl,rfl⟩
   .rw[aEH]at h;exact SeqAt.EqAt.str_int x t j u _ _ _ _ h
   .rw[aEI]at h;exact wpAny_eqBool_str h
 «strs»:=λk x t v h=>by
  rcases Cv h with ⟨i,u,rfl,e⟩|⟨y,u,rfl,e⟩
  .exact nomatch e
  .injection e with e1 _
   subst e1;cases v<;>rfl
theorem Ud(prog:N_)(w:Q_)(i:Int)(t:Tok):(Ck prog w).is (.inl i) (.int i t)=o5:=YM i t
theorem Uc(prog:N_)(w:Q_)(x:Str)(t:Tok):(Ck prog w).is (.inr x) (.str x t)=o5:=YL x t
inductive V where
 |non|bl (b:Bool)|int (i:Int)|str (x:Str)|byt (b:Array UInt8)|flt (b:UInt64)|ref (a:R_)|ty (n:String)
 deriving DecidableEq
def Bf:V->Value->Prop
|.non,u=>u=Value.none
|.bl b,u=>u=Value.bool b
|.int i,u=>∃t,u=Value.int i t
|.str x,u=>∃t,u=Value.str x t
|.byt b,u=>∃t,u=Value.bytes b t
|.flt b,u=>∃t,u=Value.float b t
|.ref a,u=>u=Value.ref a
|.ty n,u=>u=Value.type n
abbrev AR:List V->List Value->Prop:=Paired Bf
theorem AR.length(r:AR xs us):xs.length=us.length:=A1e r
theorem AR.get:∀{xs:List V}{us:F_}{i:Nat}{x:V},AR xs us->xs[i]?=o3 x->∃u,us[i]?=o3 u/\Bf x u
|_,_,_,_,.nil,e=>by simp at e
|_,_,0,_,.cons r _,e=>by simp at e;subst e;exact⟨_,Z,r⟩
|_,_,i+1,x,.cons _ t,e=>by
 exact xea (AR.get (i:=i) (x:=x) t (by simpa using e)) λu a b=>⟨u,by simpa using a,b⟩
theorem AR.set(r:Bf x u):∀{xs:List V}{us:F_}(i:Nat),AR xs us->AR (xs.set i x) (us.set i u)
|_,_,_,.nil=>.nil
|_,_,0,.cons _ t=>.cons r t
|_,_,i+1,.cons q t=>.cons q (AR.set r i t)
theorem AR.append:∀{xs ys:List V}{us a:F_},AR xs us->AR ys a->AR (xs++ys) (us++a)
|_,_,_,_,.nil,s=>s
|_,_,_,_,.cons r t,s=>.cons r (AR.append t s)
theorem AR.take:∀{xs:List V}{us:F_}(n:Nat),AR xs us->AR (xs.take n) (us.take n)
|_,_,0,_=>.nil
|_,_,_+1,.nil=>.nil
|_,_,n+1,.cons r t=>.cons r (AR.take n t)
theorem AR.drop:∀{xs:List V}{us:F_}(n:Nat),AR xs us->AR (xs.drop n) (us.drop n)
|_,_,0,r=>r
|_,_,_+1,.nil=>.nil
|_,_,n+1,.cons _ t=>AR.drop n t
theorem AR.none_of:∀{xs:List V}{us:F_}{i:Nat},AR xs us->xs[i]?=o4->us[i]?=o4:=λ{xs us i} r e=>by
 have a:=r.length;have b:=List.getElem?_eq_none_iff.mp e;exact List.getElem?_eq_none_iff.mpr A0
def JC:Option V->Option Value->Prop
|some v,o3 u=>Bf v u
|none,o4=>True
|_,_=>False
def KV{κ:Type}:List (κ×V)->List (κ×Value)->Prop:=Paired λ(p:κ×V)(q:κ×Value)=>p.1=q.1/\Bf p.2 q.2
noncomputable def kV:Key->V
|.inl i=>.int i
|.inr x=>.str x
inductive HO where
|lst (xs:List V)
|tup (xs:List V)
|dK (kvs:List (Key×V))|dT (kvs:List (List Key×V))
|set (S:Int->Bool) (n:Nat)
|ins (C dx:R_) (fs:List (Str×V))
|own (x:R_)
|xd (fs:List (Str×V))
|met (f x:R_)
|rng (lo hi:Int)
|frz (o:Obj) (u:HO)
|tbl (ps:M_)
|ext (φ:Heap->Prop)
abbrev Hp:=Addr->Option HO
noncomputable def upd(H:Hp)(a:R_)(o:HO):Hp:=λb=>if b=a then o3 o else H b
theorem Af:upd H a o a=o3 o:=by unfold upd;rw[A0e rfl]
theorem Av{H:Hp}{a b:R_}{o:HO}(h:b≠a):upd H a o b=H b:=by unfold upd;rw[A0c h]
theorem GD:upd (upd H a o) a u=upd H a u:=by
 funext b;unfold upd;split<;>rfl
theorem AE{H:Hp}{a b:R_}{o u:HO}(h:H a=o3 o)(h':H b=o3 u)(d:o≠u):a≠b:=by
 intro e;subst e;rw[h]at h';exact d (A1d h')
theorem As{H:Hp}{a b:R_}{o:HO}(h:H a=o3 o)(h':H b=o4):a≠b:=by
 intro e;subst e;rw[h]at h';cases h'
section
variable(P:N_)(w:Q_)
def BQ(H:Hp)(h:T_)(a:R_):HO->Prop
|.lst xs=>xs.length<=sizeLine/\∃(its:F_)(n:Nat),AR xs its/\h.get? a=o3 {cls:=.type "list",data:=.seq its.toArray n}
|.tup xs=>xs.length<=sizeLine/\∃its:List Value,AR xs its/\IsTup h a its.toArray
|.dK kvs=>kvs.length<=sizeLine/\(a==sysModules)=o6/\∃vs,KV kvs vs/\h.DictOf (Ck P w) a vs
|.dT kvs=>kvs.length<=sizeLine/\(a==sysModules)=o6/\∃xs:List (List Key×Addr×Value),
  Paired (λ(p:List Key×V)(q:List Key×Addr×Value)=>p.1=q.1/\H q.2.1=o3 (.tup (p.1.map kV))/\Bf p.2 q.2.2) kvs xs /\
  ∃o es ep,h.get? a=o3 o/\o.ExactDict/\o.data=.dict es ep/\es.toList=xs.map (entryOfKey (tupleKind (Ck P w)))/\(xs.map (·.1)).Nodup
|.set S n=>h.SetOf (intKind P w) a S n
|.ins C dx fs=>H dx=o3 (.own a)/\fs.length<=1000/\dx≠a/\h.get? a=o3 (instObj C dx) /\
  ∃mA,h.Ns1 dx mA/\(∀f,JC (fs.lookup f) (mA f))/\PySem.Within mA (fs.map (·.1))
|.own _=>∃o,h.get? a=o3 o
|.xd fs=>∃mA,h.Ns1 a mA/\∀f,JC (fs.lookup f) (mA f)
|.rng lo hi=>∃t u v,h.get? a=o3 {cls:=.type "range",data:=.fields #[.int lo t,.int hi u,.int 1 v]}
|.frz o u=>h.get? a=o3 o/\BQ H h a u
|.tbl ps=>h.get? a=o3 {cls:=.none,data:=.fields ps}
|.met f x=>h.get? a=o3 (methodObj (.ref f) (.ref x))
|.ext φ=>φ h/\(∃o,h.get? a=o3 o)/\∀h1 h2:Heap,φ h1->(∀o,h1.get? a=o3 o->h2.get? a=o3 o)->φ h2
def HOk(H:Hp)(h:T_):Prop:=∀a o,H a=o3 o->BQ P w H h a o
end
section
variable{P:N_}{w:Q_}{H H':Hp}{h h':T_}{a:R_}{o:HO}
theorem BQ.lt(x:BQ P w H h a o):a<h.objs.size:=by
 cases o with
 |lst xs=>refine NZ x λ_ _ _ _ e=>?_;exact F2 e
 |tup xs=>refine Jy x λ_ _ _ p=>?_;exact p.lt
 |dK kvs=>refine CU x λ_ _ _ _ b=>?_;refine xe3 b λo _ _ c=>?_;refine xa c λe _=>?_;exact F2 e
 |dT kvs=>refine CU x λ_ _ _ _ b=>?_;refine xe3 b λo _ _ c=>?_;refine xa c λe _=>?_;exact F2 e
 |set S n=>refine xe4 x λo _ _ _ b=>?_;refine xa b λe _=>?_;exact F2 e
 |ins C d fs=>refine xa4 x λ_ _ _ e _=>?_;exact F2 e
 |own y=>obtain⟨_,e⟩:=x;exact F2 e
 |xd fs=>obtain⟨_,⟨_,_,_,e,_⟩,_⟩:=x;exact F2 e
 |rng lo hi=>obtain⟨_,_,_,e⟩:=x;exact F2 e
 |frz g u=>obtain⟨e,_⟩:=x;exact F2 e
 |tbl i=>exact F2 (show h.get? a=o3 _ from x)
 |met f y=>exact F2 (show h.get? a=o3 _ from x)
 |ext φ=>obtain⟨_,⟨_,e⟩,_⟩:=x;exact F2 e
theorem Paired.mapP{α β:Type}{F G:α->β->Prop}:∀{c:List α}{d:List β},Paired F c d->(∀a b,F a b->G a b)->Paired G c d
|_,_,.nil,_=>.nil
|_,_,.cons r t,f=>.cons (f _ _ r) (Paired.mapP t f)
theorem BQ.stay(x:BQ P w H h a o)(k:∀b u,(b=a\/H b=o3 (.own a))->h.get? b=o3 u->h'.get? b=o3 u)
  (E:∀b,H b=o3 (.own a)->H' b=o3 (.own a)) (F:∀b xs,H b=o3 (.tup xs)->H' b=o3 (.tup xs)):BQ P w H' h' a o:=by
 induction o with
 |lst xs=>refine NZ x λz m n r e=>?_;exact⟨z,m,n,r,k _ _ (.inl Z) e⟩
 |tup xs=>obtain⟨z,m,r,i,e,c⟩:=x;exact⟨z,m,r,i,k _ _ (.inl Z) e,c⟩
 |dK kvs=>refine CU x λz y vs r g=>?_;refine xe3 g λi l j s=>?_;refine xa s λe c=>?_;exact⟨z,y,vs,r,i,l,j,k _ _ (.inl Z) e,c⟩
 |dT kvs =>
  refine CU x λz y xs r g=>?_;refine xe3 g λi l j s=>?_;refine xa s λe c=>?_;exact⟨z,y,xs,Paired.mapP r λp q z=>⟨z.1,F _ _ z.2.1,z.2.2⟩,i,l,j,k _ _ (.inl Z) e,c⟩
 |set S n=>refine xe4 x λi l j t g=>?_;refine xa g λe c=>?_;exact⟨i,l,j,t,k _ _ (.inl Z) e,c⟩
 |ins C L fs =>
  obtain⟨d,z,I,e,A,⟨B,l,j,D,c⟩,r⟩:=x;exact⟨E _ d,z,I,k _ _ (.inl Z) e,A,⟨B,l,j,k _ _ (.inr d) D,c⟩,r⟩
 |own y=>obtain⟨i,e⟩:=x;exact⟨i,k _ _ (.inl Z) e⟩
 |xd fs=>obtain⟨A,⟨B,l,j,e,c⟩,r⟩:=x;exact⟨A,⟨B,l,j,k _ _ (.inl Z) e,c⟩,r⟩
 |rng lo hi=>obtain⟨t,u,v,e⟩:=x;exact⟨t,u,v,k _ _ (.inl Z) e⟩
 |frz i u G=>obtain⟨e,q⟩:=x;exact⟨k _ _ (.inl Z) e,G q⟩
 |tbl K =>
  have e:=x;show h'.get? a=o3 {cls:=.none,data:=.fields K};exact k a _ (.inl Z) e
 |met f y =>
  have e:=x;show h'.get? a=o3 (methodObj (.ref f) (.ref y));exact k a _ (.inl Z) e
 |ext φ=>obtain⟨p,⟨o,e⟩,st⟩:=x;exact⟨st _ _ p λo q=>k _ _ (.inl Z) q,⟨o,k _ _ (.inl Z) e⟩,st⟩
theorem HOk.lt(x:HOk P w H h)(e:H a=o3 o):a<h.objs.size:=(x a o e).lt
theorem HOk.fresh(x:HOk P w H h)(e:h.objs.size<=a):H a=o4:=by
 cases q:H a with
 |none=>rfl
 |some u=>exact absurd (F9 (x.lt q) e) (R0 _)
theorem HOk.kept(x:HOk P w H h)(k:∀b u,h.get? b=o3 u->h'.get? b=o3 u):HOk P w H h':=λa o e =>
 (x a o e).stay (λb u _ q=>k b u q) (λ_ q=>q) λ_ _ q=>q
theorem HOk.laid(x:HOk P w H h)(k:∀b u,h.get? b=o3 u->h'.get? b=o3 u)(g:h.objs.size<=a)(new:BQ P w (upd H a o) h' a o):HOk P w (upd H a o) h':=λb u e=>by
 have f:=x.fresh g;by_cases d:b=a
 .subst d;rw[Af]at e;cases e;exact new
 .rw[Av d]at e;exact(x b u e).stay (λc v _ q=>k c v q) (λc q=>by rw[Av (As q f)];exact q) λc xs q=>by rw[Av (As q f)];exact q
end
def Rd(H:Hp)(a:R_)(u:HO):Prop:=H a=o3 u\/∃o,H a=o3 (.frz o u)
theorem Rd.ok{P:N_}{w:Q_}{H:Hp}{h:T_}{a:R_}{u:HO}(r:Rd H a u)(x:HOk P w H h):BQ P w H h a u:=by
 rcases r with r|⟨o,r⟩
 .exact x a u r
 .obtain⟨_,q⟩:=x a _ r;exact q
def Mut:Option HO->Prop
|some (.lst _)=>True
|some (.dK _)=>True
|some (.dT _)=>True
|some (.set _ _)=>True
|some (.ins _ _ _)=>True
|some (.ext _)=>True
|_=>False
section
variable{P:N_}{w:Q_}{H:Hp}{h h':T_}{x e:R_}{o':HO}
theorem HOk.write(ok:HOk P w H h)(j:Mut (H x))(m:e=x\/H e=o3 (.own x))(k:∀b u,b≠e->h.get? b=o3 u->h'.get? b=o3 u)(l:∃u,h'.get? e=o3 u)
  (new:BQ P w (upd H x o') h' x o'):HOk P w (upd H x o') h':=λb u q=>by
 have d:∀c y,H c=o3 (.own y)->c≠x:=λc y r z=>by subst z;rw[r]at j;exact j
 have f:∀c xs,H c=o3 (.tup xs)->c≠x:=λc xs r z=>by subst z;rw[r]at j;exact j
 by_cases g:b=x
 .subst g;rw[Af]at q;cases q;exact new
 .rw[Av g]at q;by_cases a:b=e
  .have n:H b=o3 (.own x):=by
    rcases m with z|z
    .exact absurd (a.trans z) g
    .rw[a];exact z
   rw[q]at n;cases n;obtain⟨v,o⟩:=l;exact⟨v,by rw[a];exact o⟩
  .refine(ok b u q).stay (λc v i r=>k c v ?_ r) (λc r=>by rw[Av (d c b r)];exact r) λc xs r=>by rw[Av (f c xs r)];exact r
   rcases i with rfl|i
   .exact a
   .rintro rfl;rcases m with z|z
    .exact d c b i z
    .rw[i]at z;cases z;exact g Z
end
structure Un(fs ex:H_)(H H':Hp)(h h':T_):Prop where
keep:∀b o,h.get? b=o3 o->H b=o4->b∉fs->b∉ex->h'.get? b=o3 o
slot:∀b o,h.get? b=o3 o->H b=o4->b∈fs->b∉ex->∃sl,h'.get? b=o3 {o with slots:=sl}
free:∀b o,h.get? b=o3 o->H b=o4->b∉ex->H' b=o4
there:∀b o,h.get? b=o3 o->b∉ex->∃o',h'.get? b=o3 o'
tups:∀b xs,H b=o3 (.tup xs)->H' b=o3 (.tup xs)
frzs:∀b o u,H b=o3 (.frz o u)->H' b=o3 (.frz o u)
tbls:∀b ps,H b=o3 (.tbl ps)->∃more,H' b=o3 (.tbl (ps++more))
section
variable{fs fs' ex ex':H_}{H H1 H2:Hp}{h h1 h2 h':T_}{a x e:R_}{o:HO}
theorem Un.any(u:Un fs ex H H1 h h1){c:Obj}(q:h.get? b=o3 c)(n:H b=o4)(f:b∉ex):∃g,h1.get? b=o3 {c with slots:=g}:=by
 by_cases d:b∈fs
 .exact u.slot b c q n d f
 .exact⟨c.slots,u.keep b c q n d f⟩
theorem Un.kept(k:∀b u,h.get? b=o3 u->h'.get? b=o3 u):Un fs ex H H h h' :=
 ⟨λb c q _ _ _=>k b c q,λb c q _ _ _=>⟨c.slots,k b c q⟩,λ_ _ _ n _=>n,λb c q _=>⟨c,k b c q⟩,λ_ _ q=>q,λ_ _ _ q=>q,λ_ d q=>⟨#[],by rw[q];simp⟩⟩
theorem Un.refl:Un fs ex H H h h:=Un.kept λ_ _ q=>q
theorem Un.laid(k:∀b u,h.get? b=o3 u->h'.get? b=o3 u)(d:h.objs.size<=a)(c:H a=o4):Un fs ex H (upd H a o) h h' where
 keep:=λb u q _ _ _=>k b u q
 slot:=λb u q _ _ _=>⟨u.slots,k b u q⟩
 free:=λb u q n _=>by rw[Av (J8 (F9 (F2 q) d))];exact n
 there:=λb u q _=>⟨u,k b u q⟩
 tups:=λb xs q=>by rw[Av (As q c)];exact q
 frzs:=λb u xs q=>by rw[Av (As q c)];exact q
 tbls:=λb f q=>⟨#[],by rw[Av (As q c),q];simp⟩
theorem Un.write(d:Mut (H x))(l:e=x\/H e=o3 (.own x))(k:∀b u,b≠e->h.get? b=o3 u->h'.get? b=o3 u)(f:∃u,h'.get? e=o3 u):Un fs ex H (upd H x o) h h':=by
 have j:∀b,H b=o4->b≠x:=λb n z=>by subst z;rw[n]at d;exact d
 have i:∀b,H b=o4->b≠e:=λb n z=>by
  subst z;rcases l with r|r
  .exact j b n r
  .rw[n]at r;cases r
 have g:∀b u,H b=o3 u->¬Mut (o3 u)->b≠x:=λb u q nm z=>by subst z;rw[q]at d;exact nm d
 refine⟨λb u q n _ _=>k b u (i b n) q,λb u q n _ _=>⟨u.slots,k b u (i b n) q⟩,λb u q n _=>by rw[Av (j b n)];exact n,λb u q _=>?_,
  λb xs q=>by rw[Av (g b _ q λz=>z)];exact q,λb u xs q=>by rw[Av (g b _ q λz=>z)];exact q,λb m q=>⟨#[],by rw[Av (g b _ q λz=>z),q];simp⟩⟩
 by_cases c:b=e
 .subst c;exact f
 .exact⟨u,k b u c q⟩
end
noncomputable def trk(h:T_)(H:Hp):List Addr:=(List.range h.objs.size).filter λa=>(H a).isSome
noncomputable def SD(h:T_)(H:Hp):Heap:=W.hideAll h (trk h H)
theorem YQ(h:T_)(H:Hp):(SD h H).objs.size=h.objs.size:=W.hideAll_size _ _
theorem aBF(e:h.get? b=o3 o)(n:H b=o4):(SD h H).get? b=o3 o :=
 W.hideAll_get _ e λa=>by
  have q:=(Z8.mp a).2;rw[n]at q;simp at q
theorem aCW(e:(SD h H).get? b=o3 o):h.get? b=o3 o/\H b=o4:=by
 have a:=W.of_hideAll (trk h H) e;refine⟨a,?_⟩;cases q:H b with
 |none=>rfl
 |some x =>
  have c:b∈trk h H:=Z8.mpr ⟨N2.mpr (F2 a),by simp[q]⟩;have z:(SD h H).get? b=o4:=W.hideAll_none (trk h H) c;rw[z]at e;cases e
structure Mod(K:O_)(mg:C_)(n9:T_):Prop where
kin:K.In n9
glob:n9.Ns mainGlobals mg
blt:∃mb,n9.Ns builtinsNs mb/\∀x:Str,x≠"__name__" -> mb x=bootBuiltins x
nolimit:n9.NoLimit
structure Cx where
prog:Program
w:World
K:W.Frag
mg:Str->Option Value
n9:Heap
A:Around
N:List Str
s₀:Shared
H₀:Hp
env:Env
outer:List Env
stack:List Env
ex:List Addr
fn:Str->Bool
calm:Bool
pn:List (Addr×Obj)
xe:Value->Shared->Prop
noncomputable def frs(l:List Env):List Addr:=l.filterMap (·.frame)
noncomputable abbrev Cx.fs(X:Cx):List Addr:=frs X.outer
def Vis(sc:Scope)(x:Str):Prop:=sc.names.lookup x=o3 .local\/sc.names.lookup x=o3 .cell\/sc.names.lookup x=o3 .free
def Loc(sc:Scope)(x:Str):Prop:=sc.names.lookup x=o3 .local\/sc.names.lookup x=o3 .cell
def Look(env:Env)(h:T_)(m:C_)(x:Str)(u:S_):Prop :=
 (env.kindOf x=o3 .local/\m x=o3 u)\/((env.kindOf x=o3 .cell\/env.kindOf x=o3 .free)/\∃c,env.cells.lookup x=o3 c/\h.IsCell c (o3 u))
structure Cx.Ok(X:Cx):Prop where
mod:Mod X.K X.mg X.n9
kind:X.env.scope.kind=.function
glob:X.env.globals=mainGlobals
blt:X.env.builtins=builtinsNs
above:X.s₀.heap.objs.size<=X.env.locals
inj:∀x y c,X.env.cells.lookup x=o3 c->X.env.cells.lookup y=o3 c->x=y
has:∀x,(X.env.kindOf x=o3 .cell\/X.env.kindOf x=o3 .free)->∃c,X.env.cells.lookup x=o3 c
cab:∀x c,X.fn x=o5->X.env.cells.lookup x=o3 c->X.s₀.heap.objs.size<=c
hd:X.calm=o5->X.A.handled=o4
frames:X.A.frames=o3 X.stack
stk:X.stack=X.outer\/(X.stack=X.env::X.outer/\X.env.frame=o3 X.env.locals)
exf:∀b∈X.ex,b≠X.env.locals/\∀x c,X.env.cells.lookup x=o3 c->c≠b
bs:∀b o,X.n9.get? b=o3 o->X.s₀.heap.get? b=o3 o/\X.H₀ b=o4
bsz:X.n9.objs.size<=X.s₀.heap.objs.size
noex:∀b o,X.n9.get? b=o3 o->b∉X.ex
exfs:∀b∈X.ex,b∉X.fs
funs:X.s₀.heap.FunFrames X.n9 X.outer
frf:∀b∈X.fs,X.H₀ b=o4
structure Inv(X:Cx)(o0:A_)(σ:List (Option V))(H:Hp)(s:P_):Prop where
ok:X.Ok
os:s.os=X.s₀.os
bare:AllBare s.gens
n9:Un X.fs X.ex X.H₀ H X.s₀.heap s.heap
loc:∃m,s.heap.Ns X.env.locals m/\∀(i:Nat)(x:Str)(v:V),X.N[i]?=o3 x->σ[i]?=o3 (o3 v)->Vis X.env.scope x->∃u,Bf v u/\Look X.env s.heap m x u
cell:∀x c,X.env.cells.lookup x=o3 c->∃v,s.heap.IsCell c v
free:H X.env.locals=o4
freeC:∀x c,X.env.cells.lookup x=o3 c->H c=o4
pin:∀p∈X.pn++o0,s.heap.get? p.1=o3 p.2/\H p.1=o4/\p.1≠X.env.locals/\p.1∉X.fs/\∀v,p.2.data≠.cell v
hok:HOk X.prog X.w H s.heap
len:σ.length=X.N.length
section
variable{X:Cx}{o0:A_}{σ:List (Option V)}{H H':Hp}{s:P_}{h':T_}
theorem Cx.Ok.nofr(ok:X.Ok)(e:X.n9.get? b=o3 o):b∉X.fs:=λa=>by
 have:=(ok.funs.mem a).1;rw[e]at this;cases this
theorem Inv.bs(I:Inv X o0 σ H s):∀b o,X.n9.get? b=o3 o->s.heap.get? b=o3 o/\H b=o4:=λb o e =>
 ⟨I.n9.keep b o (I.ok.bs b o e).1 (I.ok.bs b o e).2 (I.ok.nofr e) (I.ok.noex b o e),I.n9.free b o (I.ok.bs b o e).1 (I.ok.bs b o e).2 (I.ok.noex b o e)⟩
theorem Inv.bk(I:Inv X o0 σ H s):∀b o,X.n9.get? b=o3 o->s.heap.get? b=o3 o:=λb o e=>(I.bs b o e).1
theorem Inv.mod(I:Inv X o0 σ H s):Mod X.K X.mg X.n9:=I.ok.mod
theorem Inv.kIn(I:Inv X o0 σ H s):X.K.In s.heap:=I.ok.mod.kin.keeps I.bk
theorem Inv.lt(I:Inv X o0 σ H s):X.env.locals<s.heap.objs.size:=let ⟨_,hn,_⟩:=I.loc;hn.lt
theorem Inv.sz(I:Inv X o0 σ H s):X.s₀.heap.objs.size<=s.heap.objs.size:=D0 I.ok.above (N8 I.lt)
theorem Inv.nofs(I:Inv X o0 σ H s)(h:s.heap.objs.size<=a):a∉X.fs:=λb=>by
 exact Jy (I.ok.funs.mem b) λ_ o c _=>absurd (F9 (F2 c) (D0 I.sz h)) (R0 _)
theorem Inv.cne(I:Inv X o0 σ H s):∀x c,X.env.cells.lookup x=o3 c->c≠X.env.locals:=λx c e z=>by
 refine BJ (I.cell x c e) λv o f d=>?_;obtain⟨m,⟨i,h,g,b,a,_⟩,_⟩:=I.loc;rw[z,b]at f;cases f;rw[a]at d;cases d
theorem Inv.funs (I:Inv X o0 σ H s):s.heap.FunFrames X.n9 X.outer:=by
 have all:∀(l:List Env),(∀b∈frs l,b∈X.fs)->X.s₀.heap.FunFrames X.n9 l->s.heap.FunFrames X.n9 l:=by
  intro l;induction l with
  |nil=>intro _ _;trivial
  |cons g r p =>
   intro f j;obtain⟨i,⟨L,o,d,k,m,h⟩,n⟩:=j;have a:=f L (by unfold frs;rw[V2,d];exact C8);obtain⟨q,e⟩:=I.n9.slot L o m (I.ok.frf L a) a λz=>I.ok.exfs L z a;exact⟨i,⟨L,_,d,k,e,h⟩,p (λb c=>f b (by unfold frs;rw[V2,d];exact C9 _ c)) n⟩
 exact all X.outer (λ_ c=>c) I.ok.funs
theorem Inv.stack(I:Inv X o0 σ H s):s.heap.FunFrames X.n9 X.stack:=by
 rcases I.ok.stk with e|⟨e,a⟩
 .rw[e];exact I.funs
 .rw[e];refine xea I.loc λm b _=>.cons (by rw[I.ok.kind];decide) a b ?_ I.funs;exact P0 (D0 I.ok.bsz I.ok.above)
theorem Inv.stkSub(I:Inv X o0 σ H s):∀b∈frs X.stack,b∈X.env.locals::X.fs:=λb a=>by
 rcases I.ok.stk with e|⟨e,c⟩
 .rw[e]at a;exact C9 _ a
 .rw[e]at a;unfold frs at a;rw[V2,c]at a;exact a
theorem Inv.stkFree(I:Inv X o0 σ H s):∀b∈frs X.stack,H b=o4:=λb a=>by
 rcases C4.mp (I.stkSub b a)with e|a
 .rw[e];exact I.free
 .exact Jy (I.ok.funs.mem a) λ_ o c _=>I.n9.free b o c (I.ok.frf b a) λz=>I.ok.exfs b z a
theorem Inv.step{g':Array GenState}{t':Nat}{d':Drawn}{ch:H_}(I:Inv X o0 σ H s)
  (h:∀b∈ch,(b∈X.ex\/X.s₀.heap.objs.size<=b)/\b≠X.env.locals/\(∀x c,X.env.cells.lookup x=o3 c->c≠b)/\∀p∈X.pn++o0,p.1≠b)
  (keep:∀b o,b≠X.env.locals->b∉X.fs->b∉ch->s.heap.get? b=o3 o->H b=o4->h'.get? b=o3 o)
  (t:∀b o,b≠X.env.locals->b∈X.fs->b∉ch->s.heap.get? b=o3 o->H b=o4->∃Q,h'.get? b=o3 {o with slots:=Q}) (a:∀b o,b∉ch->s.heap.get? b=o3 o->H b=o4->H' b=o4)
  (there:∀b o,b∉ch->s.heap.get? b=o3 o->∃M,h'.get? b=o3 M)
  (D:∀b xs,H b=o3 (.tup xs)->H' b=o3 (.tup xs)) (B:∀b o u,H b=o3 (.frz o u)->H' b=o3 (.frz o u)) (C:∀b N,H b=o3 (.tbl N)->∃K,H' b=o3 (.tbl (N++K)))
  (ns:∀m,s.heap.Ns X.env.locals m->h'.Ns X.env.locals m) (P:HOk X.prog X.w H' h') (Y:AllBare g') :
  Inv X o0 σ H' {s with heap:=h',gens:=g',drawn:=d',toks:=t'}:=by
 have L:∀b o,X.s₀.heap.get? b=o3 o->b≠X.env.locals:=λb o e=>J8 (F9 (F2 e) I.ok.above);have A:∀b o,X.s₀.heap.get? b=o3 o->b∉X.ex->b∉ch:=λb o e f E=>by
  rcases(h b E).1 with z|z
  .exact f z
  .exact absurd (F9 (F2 e) z) (R0 _)
 have g:∀x c,X.env.cells.lookup x=o3 c->∀v,s.heap.IsCell c v->h'.IsCell c v:=λx c e v ⟨o,F,O⟩=>by
  have j:c∉ch:=λz=>(h c z).2.2.1 x c e Z;by_cases S:c∈X.fs
  .obtain⟨Q,q⟩:=t c o (I.cne x c e) S j F (I.freeC x c e);exact⟨_,q,O⟩
  .exact⟨o,keep c o (I.cne x c e) S j F (I.freeC x c e),O⟩
 refine⟨I.ok,I.os,Y,⟨λb o e n E f=>?_,λb o e n E f=>?_,λb o e n f=>?_,λb o e f=>?_,λb xs e=>D b xs (I.n9.tups b xs e),λb o xs e=>B b o xs (I.n9.frzs b o xs e),λb N e=>?_⟩,?_,λx c e=>?_,?_,λx c e=>?_,λp T=>?_,P,I.len⟩
 .exact keep b o (L b o e) E (A b o e f) (I.n9.keep b o e n E f) (I.n9.free b o e n f)
 .obtain⟨Q,y⟩:=I.n9.slot b o e n E f;obtain⟨R,G⟩:=t b _ (L b o e) E (A b o e f) y (I.n9.free b o e n f);exact⟨R,G⟩
 .obtain⟨M,y⟩:=I.n9.there b o e f;exact a b M (A b o e f) y (I.n9.free b o e n f)
 .obtain⟨M,y⟩:=I.n9.there b o e f;exact there b M (A b o e f) y
 .obtain⟨m1,y⟩:=I.n9.tbls b N e;obtain⟨m2,G⟩:=C b _ y;exact⟨m1++m2,by rw[G,Array.append_assoc]⟩
 .refine xea I.loc λm hn hl=>⟨m,ns m hn,λi x v y G W=>?_⟩
  refine xea (hl i x v y G W) λu r l=>⟨u,r,?_⟩
  rcases l with l|⟨k,c,e,z⟩
  .exact .inl l
  .exact .inr ⟨k,c,e,g x c e _ z⟩
 .obtain⟨v,z⟩:=I.cell x c e;exact⟨v,g x c e v z⟩
 .obtain⟨m,⟨o,_,_,F,_⟩,_⟩:=I.loc;exact a _ o (λz=>(h _ z).2.1 Z) F I.free
 .exact BJ (I.cell x c e) λv o F O=>a c o (λz=>(h c z).2.2.1 x c e Z) F (I.freeC x c e)
 .refine xa4 (I.pin p T) λe n U V d=>?_;have j:p.1∉ch:=λz=>(h p.1 z).2.2.2 p T Z;exact⟨keep p.1 p.2 U V j e n,a p.1 p.2 j e n,U,V,d⟩
theorem Inv.un{t':Nat}(I:Inv X o0 σ H s)(u:Un X.fs [] H H' s.heap h')(g:HOk X.prog X.w H' h'):Inv X o0 σ H' {s with heap:=h',toks:=t'}:=by
 obtain⟨m,⟨o,q,p,i,r⟩,_⟩:=id I.loc;obtain⟨x,j⟩:=u.any i I.free B0;exact I.step (g':=s.gens) (d':=s.drawn) (ch:=[]) (λ_ z=>nomatch z) (λb o _ f _ e n=>u.keep b o e n f B0) (λb o _ f _ e n=>u.slot b o e n f B0) (λb o _ e n=>u.free b o e n B0) (λb o _ e=>u.there b o e B0) u.tups u.frzs u.tbls (λt k=>by
  refine xe3 k λv d c h=>?_;refine xa h λa l=>?_;rw[i]at a;cases a;exact⟨_,d,c,j,l⟩) g I.bare
theorem Inv.call{g':Array GenState}{t':Nat}{d':Drawn}{ch:H_}(I:Inv X o0 σ H s)(u:Un (frs X.stack) ch H H' s.heap h')(j:HOk X.prog X.w H' h')(t:AllBare g')
  (d:∀b∈ch,(b∈X.ex\/X.s₀.heap.objs.size<=b)/\b≠X.env.locals/\(∀x c,X.env.cells.lookup x=o3 c->c≠b)/\∀p∈X.pn++o0,p.1≠b) :
  Inv X o0 σ H' {s with heap:=h',gens:=g',drawn:=d',toks:=t'}:=by
 obtain⟨m,⟨o,B,A,l,r⟩,_⟩:=id I.loc;obtain⟨E,i⟩:=u.any l I.free λz=>(d _ z).2.1 Z;exact I.step (ch:=ch) d (λb o i q a e n=>u.keep b o e n (λz=>(C4.mp (I.stkSub b z)).elim i q) a) (λb o _ _ a e n=>u.any e n a) (λb o a e n=>u.free b o e n a) (λb o a e=>u.there b o e a) u.tups u.frzs u.tbls (λC v=>by
  refine xe3 v λD h g k=>?_;refine xa k λf y=>?_;rw[l]at f;cases f;exact⟨_,h,g,i,y⟩) j t
theorem Inv.turned{t':Nat}{it:R_}(I:Inv X o0 σ H s)(k:∀b o,b≠it->s.heap.get? b=o3 o->h'.get? b=o3 o)(A:H it=o4)(g:it≠X.env.locals)
  (j:it∈X.ex\/X.s₀.heap.objs.size<=it) (l:∀x c,X.env.cells.lookup x=o3 c->c≠it) (t:∀p∈X.pn++o0,p.1≠it):Inv X o0 σ H {s with heap:=h',toks:=t'}:=by
 have d:∀b u,H b=o3 u->b≠it:=λb u e z=>by rw[z,A]at e;cases e
 refine I.step (g':=s.gens) (d':=s.drawn) (ch:=[it]) (λb w=>?_) (λb o _ _ a e _=>k b o (λz=>a (by simp[z])) e) (λb o _ _ a e _=>⟨o.slots,k b o (λz=>a (by simp[z])) e⟩) (λ_ _ _ _ n=>n)
  (λb o a e=>⟨o,k b o (λz=>a (by simp[z])) e⟩) (λ_ _ e=>e) (λ_ _ _ e=>e) (λb C e=>⟨#[],by rw[e];simp⟩) (λm y=>?_) (λb u e=>?_) I.bare
 .have e:b=it:=by simpa using w
  subst e;exact⟨j,g,l,t⟩
 .refine xe3 y λo i h f=>?_;refine xa f λB r=>?_;exact⟨o,i,h,k _ o (A1b g) B,r⟩
 .refine(I.hok b u e).stay (λc v a q=>k c v ?_ q) (λ_ q=>q) λ_ _ q=>q;rcases a with z|z
  .rw[z];exact d b u e
  .exact d c _ z
theorem Inv.tok(I:Inv X o0 σ H s)(t:Nat):Inv X o0 σ H {s with toks:=t}:=I.un (h':=s.heap) (t':=t) Un.refl I.hok
theorem Inv.kept(I:Inv X o0 σ H s)(k:∀b u,s.heap.get? b=o3 u->h'.get? b=o3 u):Inv X o0 σ H {s with heap:=h',toks:=t'}:=I.un (Un.kept k) (I.hok.kept k)
theorem Inv.laid(I:Inv X o0 σ H s)(k:∀b u,s.heap.get? b=o3 u->h'.get? b=o3 u)(c:s.heap.objs.size<=a)(new:BQ X.prog X.w (upd H a o) h' a o) :
 Inv X o0 σ (upd H a o) {s with heap:=h',toks:=t'}:=I.un (Un.laid k c (I.hok.fresh c)) (I.hok.laid k c new)
theorem Inv.write(I:Inv X o0 σ H s)(d:Mut (H x))(c:e=x\/H e=o3 (.own x))(k:∀b u,b≠e->s.heap.get? b=o3 u->h'.get? b=o3 u)(a:∃u,h'.get? e=o3 u)
 (new:BQ X.prog X.w (upd H x o) h' x o):Inv X o0 σ (upd H x o) {s with heap:=h',toks:=t'}:=I.un (Un.write d c k a) (I.hok.write d c k a new)
theorem Inv.weak(I:Inv X o0 σ H s)(d:σ'.length=σ.length)(w:∀(i:Nat) v,σ'[i]?=o3 (o3 v)->σ[i]?=o3 (o3 v)):Inv X o0 σ' H s :=
 ⟨I.ok,I.os,I.bare,I.n9,let ⟨m,hn,hl'⟩:=I.loc;⟨m,hn,λi x v a b c=>hl' i x v a (w i v b) c⟩,I.cell,I.free,I.freeC,I.pin,I.hok,d.trans I.len⟩
theorem Inv.pins_of(I:Inv X o0 σ H s)(h:∀p∈a,s.heap.get? p.1=o3 p.2/\H p.1=o4/\p.1≠X.env.locals/\p.1∉X.fs/\∀v,p.2.data≠.cell v):Inv X a σ H s :=
 ⟨I.ok,I.os,I.bare,I.n9,I.loc,I.cell,I.free,I.freeC,λp b=>(J7.mp b).elim (λz=>I.pin p (U8 _ z)) (h p),I.hok,I.len⟩
theorem TR{N:K_}(e:N.Nodup){i j:Nat}{x:Str}(a:N[i]?=o3 x)(b:N[j]?=o3 x):i=j:=by
 obtain⟨f,c⟩:=B9.mp a;obtain⟨g,d⟩:=B9.mp b;exact(List.getElem_inj e).mp (c.trans d.symm)
theorem QU{M:Model}{A:Around}{E:B_}{i:Nat}{x:Str}{v:V}{u:S_}{Q:Unit->Shared->Prop}(I:Inv X o0 σ H s)(hN:X.N.Nodup)(hi:X.N[i]?=o3 x)(B:Loc X.env.scope x)(r:Bf v u)
  (h:∀s',Inv X o0 (σ.set i (o3 v)) H s'->(∃a,Heap.SameBut a s.heap s'.heap/\(a=X.env.locals\/X.env.cells.lookup x=o3 a))->Q () s') (hf:X.fn x=o5\/X.env.scope.names.lookup x=o3 .local:=by first|exact .inl rfl|exact .inr rfl|assumption):wpAny M A (storeName X.env x u) Q E s:=by
 refine xea (id I.loc) λm hn hl=>?_;have S:(X.env.scope.kind==.class || (X.env.scope.kind==.module && X.env.locals != X.env.globals))=o6:=by rw[I.ok.kind];rfl
 have F:i<σ.length:=by rw[I.len];exact(B9.mp hi).1
 have cne:=I.cne;have l:∀{a:R_}{h':T_},(∃o,s.heap.get? a=o3 o/\H a=o4)->Heap.SameBut a s.heap h'->HOk X.prog X.w H h':=λ{a h'} ha f b ob e=>by
  refine xea ha λ_ _ C=>(I.hok b ob e).stay (λc w' t q=>(f.2 c ?_).trans q) (λ_ q=>q) λ_ _ q=>q;rintro rfl;rcases t with rfl|t
  .rw[C]at e;cases e
  .rw[C]at t;cases t
 rcases B with G|G
 .refine wpAny_storeName_local G hn (λh' aa f=>?_) S;refine xe3 (id hn) λoL _ _ ac=>?_;refine xa ac λab _=>?_;refine h _ ⟨I.ok,I.os,I.bare,⟨λb o e n K B=>?_,λb o e n K B=>?_,I.n9.free,λb o e B=>?_,I.n9.tups,I.n9.frzs,I.n9.tbls⟩,⟨_,aa,λj y v' g D e3=>?_⟩,λy c e=>?_,I.free,I.freeC,λp hp=>?_,l ⟨oL,ab,I.free⟩ f,by simpa using I.len⟩ ⟨_,f,.inl Z⟩
  .exact(f.2 b (J8 (F9 (F2 e) I.ok.above))).trans (I.n9.keep b o e n K B)
  .obtain⟨sl,g⟩:=I.n9.slot b o e n K B;exact⟨sl,(f.2 b (J8 (F9 (F2 e) I.ok.above))).trans g⟩
  .obtain⟨o',g⟩:=I.n9.there b o e B;exact⟨o',(f.2 b (J8 (F9 (F2 e) I.ok.above))).trans g⟩
  .by_cases O:j=i
   .subst O;rw[hi]at g;cases g;rw[Z4 F]at D;cases D;exact⟨u,r,.inl ⟨G,by simp⟩⟩
   .rw[List.getElem?_set_ne (A1b O)]at D;refine xea (hl j y v' g D e3) λu' r' q=>⟨u',r',?_⟩
    rcases q with ⟨k,e⟩|⟨k,c,e,z⟩
    .refine .inl ⟨k,?_⟩;have:y≠x:=λe=>O (TR hN g (e▸hi));simp[this,e]
    .exact .inr ⟨k,c,e,z.sameBut f (cne y c e)⟩
  .obtain⟨w',z⟩:=I.cell y c e;exact⟨w',z.sameBut f (cne y c e)⟩
  .exact xa4 (I.pin p hp) λe n Y nf d=>⟨(f.2 p.1 Y).trans e,n,Y,nf,d⟩
 .have L:X.fn x=o5:=by
   rcases hf with z|z
   .exact z
   .rw[z]at G;cases G
  obtain⟨c,t⟩:=I.ok.has x (.inl G);obtain⟨w',z⟩:=I.cell x c t;refine wpAny_storeName_cell I.ok.kind G t z (λh' P f=>?_);refine xea (id z) λoc T U=>h {s with heap:=h'} ⟨I.ok,I.os,I.bare,⟨λb o e n K B=>?_,λb o e n K B=>?_,I.n9.free,λb o e B=>?_,I.n9.tups,I.n9.frzs,I.n9.tbls⟩,⟨m,hn.sameBut f (A1b (cne x c t)),λj y v' g D e3=>?_⟩,λy W e=>?_,I.free,I.freeC,λp hp=>?_,l ⟨oc,T,I.freeC x c t⟩ f,by simpa using I.len⟩ ⟨c,f,.inr t⟩
  .exact(f.2 b (J8 (F9 (F2 e) (I.ok.cab x c L t)))).trans (I.n9.keep b o e n K B)
  .obtain⟨sl,g⟩:=I.n9.slot b o e n K B;exact⟨sl,(f.2 b (J8 (F9 (F2 e) (I.ok.cab x c L t)))).trans g⟩
  .obtain⟨o',g⟩:=I.n9.there b o e B;exact⟨o',(f.2 b (J8 (F9 (F2 e) (I.ok.cab x c L t)))).trans g⟩
  .by_cases O:j=i
   .subst O;rw[hi]at g;cases g;rw[Z4 F]at D;cases D;exact⟨u,r,.inr ⟨.inl G,c,t,P⟩⟩
   .rw[List.getElem?_set_ne (A1b O)]at D;refine xea (hl j y v' g D e3) λu' r' q=>⟨u',r',?_⟩
    rcases q with q|⟨k,W,e,z'⟩
    .exact .inl q
    .refine .inr ⟨k,W,e,z'.sameBut f ?_⟩;rintro rfl;exact O (TR hN g (I.ok.inj _ _ _ e t▸hi))
  .by_cases R:W=c
   .subst R;exact⟨_,P⟩
   .obtain⟨w2,z2⟩:=I.cell y W e;exact⟨w2,z2.sameBut f R⟩
  .refine xa4 (I.pin p hp) λe n Y nf d=>⟨(f.2 p.1 ?_).trans e,n,Y,nf,d⟩
   intro q;rw[q,T]at e;have q':=A1d e;exact d w' (by rw[<-q'];exact U)
theorem Tf(I:Inv X o0 σ H s)(c:X.N.Nodup)(hi:X.N[i]?=o3 x)(e:Loc X.env.scope x)(r:Bf v u)
  (h:∀a,Inv X o0 (σ.set i (o3 v)) H a->Q () a) (d:X.fn x=o5\/X.env.scope.names.lookup x=o3 .local:=by first|exact .inl rfl|exact .inr rfl|assumption):wpAny M A (storeName X.env x u) Q E s :=
 QU I c hi e r (λa b _=>h a b) d
theorem Inv.call'(I:Inv X o0 σ H s)(h:a.os=s.os)(u:Un (frs X.stack) ch H H' s.heap a.heap)(f:HOk X.prog X.w H' a.heap)(g:AllBare a.gens)
  (d:∀b∈ch,(b∈X.ex\/X.s₀.heap.objs.size<=b)/\b≠X.env.locals/\(∀x c,X.env.cells.lookup x=o3 c->c≠b)/\∀p∈X.pn++o0,p.1≠b):Inv X o0 σ H' a:=by
 obtain⟨h',g',d',t',i⟩:=a;have e:=h;subst e;exact I.call (g':=g') (t':=t') (d':=d') u f g d
end
abbrev XK:=Value->Option Addr->Hp->Prop
abbrev St:=List (Option V)
abbrev VK:=V->Hp->Prop
abbrev TE:=St->Hp->VK->Prop
abbrev TT:=St->Hp->(Bool->Hp->Prop)->Prop
abbrev TA:=St->Hp->(List V->Hp->Prop)->Prop
structure IE where
nx:St->Hp->Prop
rt:VK
bk:St->Hp->Prop:=λ_ _=>False
ct:St->Hp->Prop:=λ_ _=>False
abbrev TS:=IE->St->Hp->Prop
def EP(X:Cx)(o0:A_)(σ:St)(Q:VK)(u:S_)(s':P_):Prop:=∃v H',Inv X o0 σ H' s'/\Bf v u/\Q v H'
def TP(X:Cx)(o0:A_)(σ:St)(Q:Bool->Hp->Prop)(b:Bool)(s':P_):Prop:=∃H',Inv X o0 σ H' s'/\Q b H'
def AP(X:Cx)(o0:A_)(σ:St)(Q:List V->Hp->Prop)(us:F_)(s':P_):Prop:=∃vs H',Inv X o0 σ H' s'/\AR vs us/\Q vs H'
def SP(X:Cx)(o0:A_)(D:IE)(f:Flow)(s':P_):Prop :=
 match f with
 |.next=>∃σ' H',Inv X o0 σ' H' s'/\D.nx σ' H'
 |.brk=>∃σ' H',Inv X o0 σ' H' s'/\D.bk σ' H'
 |.cont=>∃σ' H',Inv X o0 σ' H' s'/\D.ct σ' H'
 |.ret u=>∃v σ' H',Inv X o0 σ' H' s'/\Bf v u/\D.rt v H'
def PE(X:Cx)(e:Expr)(t:TE):Prop :=
 ∀(o0:A_)(s:P_)(σ:St)(H:Hp)(Q:VK),Inv X o0 σ H s->t σ H Q->wpAny (model X.prog X.w) X.A (eval e X.env) (EP X o0 σ Q) X.xe s
def PT(X:Cx)(e:Expr)(t:TT):Prop :=
 ∀(o0:A_)(s:P_)(σ:St)(H:Hp)(Q:Bool->Hp->Prop),Inv X o0 σ H s->t σ H Q->wpAny (model X.prog X.w) X.A (isTrue e X.env (eval e X.env)) (TP X o0 σ Q) X.xe s
def PW(X:Cx)(e:Expr)(t:TT):Prop :=
 ∀(whole:Sem Value)(o0:A_)(s:P_)(σ:St)(H:Hp)(Q:Bool->Hp->Prop),Inv X o0 σ H s->t σ H Q->wpAny (model X.prog X.w) X.A (isTrue e X.env whole) (TP X o0 σ Q) X.xe s
theorem PW.pt{t:TT}(h:PW X e t):PT X e t:=h _
def PA(X:Cx)(es:List Expr)(t:TA):Prop :=
 ∀(pos:Pos)(o0:A_)(s:P_)(σ:St)(H:Hp)(Q:List V->Hp->Prop),Inv X o0 σ H s->t σ H Q->wpAny (model X.prog X.w) X.A (spliced (backTo pos (starEach es X.env))) (AP X o0 σ Q) X.xe s
def PS(X:Cx)(st:Stmt)(t:TS):Prop :=
 ∀(o0:A_)(s:P_)(σ:St)(H:Hp)(D:IE),Inv X o0 σ H s->t D σ H->wpAny (model X.prog X.w) X.A (exec st X.env) (SP X o0 D) X.xe s
def PSs(X:Cx)(st:List Stmt)(t:TS):Prop :=
 ∀(o0:A_)(s:P_)(σ:St)(H:Hp)(D:IE),Inv X o0 σ H s->t D σ H->wpAny (model X.prog X.w) X.A (execs st X.env) (SP X o0 D) X.xe s
theorem thn{α:Type}{t:Sem α}{Q b:α->Shared->Prop}{M:Model}{A:Around}{E:B_}{s:P_}(h:wpAny M A t Q E s)(c:∀a s,Q a s->b a s):wpAny M A t b E s:=A3e h c λ_ _ x=>x
section
variable{X:Cx}
def GS(i:Nat):TE:=fun σ H Q=>∃v,σ[i]?=o3 (o3 v)/\Q v H
def tC(v:V):TE:=λ_ H Q=>Q v H
theorem aEw(k:X.N[i]?=o3 x)(q:Vis X.env.scope x)(g:(x==("__debug__" : Str))=o6:=by decide)(f:(x==("__classdict__" : Str))=o6:=by decide):PE X (.Name x pos) (GS i):=by
 intro d s σ H Q I h;refine xea h λv e h=>xea I.loc λm p n=>xea (n i x v k e q) λu r l=>?_;have fin:EP X d σ Q u s:=⟨v,H,I,r,h⟩
 rcases l with ⟨b,o⟩|⟨b,c,j,a⟩
 .exact wpAny_Name (wpAny_loadName_local I.ok.kind b p o fin) g
 .rcases b with b|b
  .exact wpAny_Name (wpAny_loadName_cell I.ok.kind b j a fin) g
  .exact wpAny_Name (wpAny_loadName_free I.ok.kind b j a fin f) g
theorem Ae{i j pos}:PE X (.Constant (.int i) j pos) (tC (.int i)):=λ_ _ _ H _ I h=>wpAny_Constant_int ⟨.int i,H,I.tok _,⟨_,Z⟩,h⟩
theorem Jw{b j pos}:PE X (.Constant (.bool b) j pos) (tC (.bl b)):=λ_ _ _ H _ I h=>Constant_bool ⟨.bl b,H,I,Z,h⟩
theorem DE{j pos}:PE X (.Constant .none j pos) (tC .non):=λ_ _ _ H _ I h=>Constant_none ⟨.non,H,I,Z,h⟩
theorem Fs{x j pos}:PE X (.Constant (.str x) j pos) (tC (.str x)):=λ_ _ _ H _ I h=>Calls.Constant_str ⟨.str x,H,I.tok _,⟨_,Z⟩,h⟩
def Gl(X:Cx)(x:Str):Prop:=X.env.kindOf x=o3 .globalImplicit
theorem OL(I:Inv X a σ H s)(c:Gl X x)(d:X.mg x=o3 u)(h:Q u s)
  (b:(x==("__debug__" : Str))=o6:=by decide):wpAny (model X.prog X.w) X.A (eval (.Name x pos) X.env) Q E s :=
 Calls.Name_function_global I.ok.kind c (Calls.loadGlobal_global (by rw[I.ok.glob];exact I.mod.glob.keeps I.bk) d h) b
theorem Lh(I:Inv X a σ H s)(e:Gl X x)(f:X.mg x=o4)(i:bootBuiltins x=o3 u)(h:Q u s)
  (g:x≠"__name__" := by decide) (d:(x==("__debug__" : Str))=o6:=by decide):wpAny (model X.prog X.w) X.A (eval (.Name x pos) X.env) Q E s:=by
 exact xea I.mod.blt λj b c=>Calls.Name_function_global I.ok.kind e (Calls.loadGlobal_builtin (by rw[I.ok.glob];exact I.mod.glob.keeps I.bk) f (by rw[I.ok.blt];exact b.keeps I.bk) ((c x g).trans i) h) d
theorem RW(b:Gl X x)(c:X.mg x=o3 u)(r:Bf v u)(a:(x==("__debug__" : Str))=o6:=by decide):PE X (.Name x pos) (tC v) :=
 λ_ _ _ H _ I h=>OL I b c ⟨v,H,I,r,h⟩ a
theorem EV(b:Gl X x)(c:X.mg x=o4)(e:bootBuiltins x=o3 u)(r:Bf v u)(d:x≠"__name__" := by decide)(a:(x==("__debug__" : Str))=o6:=by decide):PE X (.Name x pos) (tC v) :=
 λ_ _ _ H _ I h=>Lh I b c e ⟨v,H,I,r,h⟩ d a
variable{a b:Expr}{ta tb:TE}{pos:Pos}
def PC(X:Cx)(op:CmpOp)(a b:Expr)(t:TE):Prop :=
 ∀(o0:A_)(s:P_)(σ:St)(H:Hp)(Q:VK),Inv X o0 σ H s->t σ H Q ->
  wpAny (model X.prog X.w) X.A (eval a X.env) (λv s₁=>wpAny (model X.prog X.w) X.A (eval b X.env) (λu s₂=>wpAny (model X.prog X.w) X.A (compareOp op v u) (EP X o0 σ Q) X.xe s₂) X.xe s₁) X.xe s
def tB(t:TE):TT:=fun σ H Q=>t σ H λx H1=>∃c,x=.bl c/\Q c H1
theorem aE2{t:TE}(h:PC X i a b t)(g:behindInMarks i b=o6:=by first|exact nobehind _ A6 A6|rfl):PT X (.Compare a [i] [b] pos) (tB t):=by
 intro e s σ H Q I o;refine wpAny_isTrue_Compare1 (thn (h e s σ H _ I o) λv r g=>thn g λu w m=>thn m λc y n=>?_) g;refine AN n λx k l p j=>?_;refine xea j λd f q=>?_;clear j;subst f;cases p;exact A3d ⟨k,l,q⟩
theorem Cf{e:Expr}{t:TE}(h:PE X e t)(l:∀whole,isTrue e X.env whole=(do let v <-whole;standAt e.pos;holding [v] (truthy v)):=by intro _;rfl):PT X e (tB t):=by
 intro c s σ H Q I m;refine isTrue_plain (thn (h c s σ H _ I m) λv o k=>?_) (l _);refine AN k λx i j n g=>?_;refine xea g λd f q=>?_;clear g;subst f;cases n;exact A3d ⟨i,j,q⟩
variable{tA tB':TT}{rest:List Expr}
def tAnd(t u:TT):TT:=fun σ H Q=>t σ H λc H1=>if c=o5 then u σ H1 Q else Q o6 H1
def tOr(t u:TT):TT:=fun σ H Q=>t σ H λc H1=>if c=o5 then Q o5 H1 else u σ H1 Q
def tNot(t:TT):TT:=fun σ H Q=>t σ H λc H1=>Q (!c) H1
theorem IW(f:PT X a tA):PW X (.BoolOp .And [a] pos) tA:=by
 intro i d s σ H Q I h;refine isTrue_and (thn (f d s σ H Q I h) λc g e=>?_);cases c with
 |true=>exact isTrue_and_nil e
 |false=>exact e
theorem Gd(f:PT X a tA):PW X (.BoolOp .Or [a] pos) tA:=by
 intro i d s σ H Q I h;refine isTrue_or (thn (f d s σ H Q I h) λc g e=>?_);cases c with
 |false=>exact isTrue_or_nil e
 |true=>exact e
theorem Mb(j:PT X a tA)(k:PW X (.BoolOp .And (b::rest) pos) tB'):PW X (.BoolOp .And (a::b::rest) pos) (tAnd tA tB'):=by
 intro m d s σ H Q I h;refine isTrue_and (thn (j d s σ H _ I h) λc l i=>?_);refine xea i λe f g=>?_;cases c with
 |true=>exact k m d l σ e Q f g
 |false=>exact⟨e,f,g⟩
theorem Jv(j:PT X a tA)(k:PW X (.BoolOp .Or (b::rest) pos) tB'):PW X (.BoolOp .Or (a::b::rest) pos) (tOr tA tB'):=by
 intro m d s σ H Q I h;refine isTrue_or (thn (j d s σ H _ I h) λc l i=>?_);refine xea i λe f g=>?_;cases c with
 |true=>exact⟨e,f,g⟩
 |false=>exact k m d l σ e Q f g
theorem Cy(f:PT X a tA):PT X (.UnaryOp .Not a pos) (tNot tA):=by
 intro d s σ H Q I h;exact isTrue_not (f d s σ H (λc e=>Q (!c) e) I h)
def aG8(ta tb:TE):TE:=fun σ H Q=>ta σ H λx H1=>∃c,x=.bl c/\if c=o5 then tb σ H1 Q else Q (.bl o6) H1
def tOrV(ta tb:TE):TE:=fun σ H Q=>ta σ H λx H1=>∃c,x=.bl c/\if c=o5 then Q (.bl o5) H1 else tb σ H1 Q
def aHD(ta:TE):TE:=fun σ H Q=>ta σ H λx H1=>∃c,x=.bl c/\Q (.bl (!c)) H1
theorem Nt{op}{t:TE}(h:PE X a t):PE X (.BoolOp op [a] pos) t:=λc s σ H Q I d=>BoolOp_one (h c s σ H Q I d)
theorem Md(j:PE X a ta)(k:PE X (.BoolOp .And (b::rest) pos) tb):PE X (.BoolOp .And (a::b::rest) pos) (aG8 ta tb):=by
 intro d s σ H Q I h;refine BoolOp_and (thn (j d s σ H _ I h) λv m i=>?_);refine AN i λx f g l e=>?_;obtain⟨c,rfl,e⟩:=e;cases l;refine A3d ?_;cases c with
 |true=>exact k d m σ f Q g e
 |false=>exact⟨.bl o6,f,g,Z,e⟩
theorem aGk(j:PE X a ta)(k:PE X (.BoolOp .Or (b::rest) pos) tb):PE X (.BoolOp .Or (a::b::rest) pos) (tOrV ta tb):=by
 intro d s σ H Q I h;refine BoolOp_or (thn (j d s σ H _ I h) λv m i=>?_);refine AN i λx f g l e=>?_;obtain⟨c,rfl,e⟩:=e;cases l;refine A3d ?_;cases c with
 |false=>exact k d m σ f Q g e
 |true=>exact⟨.bl o5,f,g,Z,e⟩
theorem aEv(j:PE X a ta):PE X (.UnaryOp .Not a pos) (aHD ta):=by
 intro d s σ H Q I h;refine UnaryOp_ (thn (j d s σ H _ I h) λv l i=>?_);refine AN i λx f g k e=>?_;obtain⟨c,rfl,e⟩:=e;cases k;exact not_of (A3d ⟨.bl (!c),f,g,Z,e⟩)
end
def SqL(K:O_)(H:Hp)(a:R_)(xs:List V):Prop :=
 Rd H a (.lst xs) \/
  ∃(o:Obj)(its:M_)(n:Nat),K.lookup a=o3 o/\o.cls=.type "list" /\ o.dict=o4/\o.data=.seq its n/\its.size<=sizeLine/\AR xs its.toList
def SqT(K:O_)(H:Hp)(a:R_)(xs:List V):Prop :=
 Rd H a (.tup xs) \/
  ∃(o:Obj)(its:M_)(n:Nat),K.lookup a=o3 o/\o.cls=.type "tuple" /\ o.data=.seq its n/\its.size<=sizeLine/\AR xs its.toList
noncomputable def absV:Value->Option V
|.none=>o3 .non
|.bool b=>o3 (.bl b)
|.int i _=>o3 (.int i)
|.str x _=>o3 (.str x)
|.bytes b _=>o3 (.byt b)
|.float b _=>o3 (.flt b)
|.ref a=>o3 (.ref a)
|.type n=>o3 (.ty n)
|_=>o4
theorem Bf.abs(r:Bf x u):absV u=o3 x:=by
 cases x with
 |non=>cases r;rfl
 |bl _=>cases r;rfl
 |int _=>obtain⟨t,rfl⟩:=r;rfl
 |str _=>obtain⟨t,rfl⟩:=r;rfl
 |byt _=>obtain⟨t,rfl⟩:=r;rfl
 |flt _=>obtain⟨t,rfl⟩:=r;rfl
 |ref _=>cases r;rfl
 |ty _=>cases r;rfl
theorem Bf.inj(r:Bf x u)(q:Bf y u):x=y:=A1d (r.abs.symm.trans q.abs)
theorem AR.inj:∀{xs ys:List V}{us:F_},AR xs us->AR ys us->xs=ys
|_,_,_,.nil,.nil=>rfl
|_,_,_,.cons r t,.cons r' t'=>by rw[r.inj r',AR.inj t t']
section
variable{X:Cx}{o0:A_}{σ:St}{H:Hp}{s:P_}{a:R_}{xs ys:List V}
theorem SqL.of{K:O_}(h:H a=o3 (.lst xs)):SqL K H a xs:=.inl (.inl h)
theorem SqT.of{K:O_}(h:H a=o3 (.tup xs)):SqT K H a xs:=.inl (.inl h)
theorem Inv.list(I:Inv X o0 σ H s)(h:SqL X.K H a xs):∃b:List Value,AR xs b/\PlainL s.heap a b.toArray/\xs.length<=sizeLine:=by
 rcases h with h|⟨o,b,n,f,c,d,g,i,r⟩
 .exact NZ (h.ok I.hok) λz b n r e=>⟨b,r,⟨_,n,e,Z,Z,Z⟩,z⟩
 .refine⟨b.toList,r,⟨o,n,I.kIn a o f,c,d,by simpa using g⟩,?_⟩;have e:=r.length;simp only[D6]at e;lia
theorem Inv.tuple(I:Inv X o0 σ H s)(h:SqT X.K H a xs):∃b:List Value,AR xs b/\IsTup s.heap a b.toArray/\xs.length<=sizeLine:=by
 rcases h with h|⟨o,b,n,d,c,f,g,r⟩
 .exact Jy (h.ok I.hok) λz b r p=>⟨b,r,p,z⟩
 .refine⟨b.toList,r,⟨o,I.kIn a o d,c,n,by simpa using f⟩,?_⟩;have e:=r.length;simp only[D6]at e;lia
theorem Inv.list_inj(I:Inv X o0 σ H s)(h:SqL X.K H a xs)(h':SqL X.K H a ys):xs=ys:=by
 obtain⟨b,r,⟨o,n,e,_,_,d⟩,_⟩:=I.list h;obtain⟨its',f,⟨i,g,c,_,_,d'⟩,_⟩:=I.list h';rw[e]at c;cases c;rw[d]at d';injection d' with d1 _
 have:b=its':=by simpa using A2f Array.toList d1
 subst this;exact r.inj f
theorem Inv.tuple_inj(I:Inv X o0 σ H s)(h:SqT X.K H a xs)(h':SqT X.K H a ys):xs=ys:=by
 obtain⟨b,r,⟨o,e,_,n,d⟩,_⟩:=I.tuple h;obtain⟨its',f,⟨i,c,_,g,d'⟩,_⟩:=I.tuple h';rw[e]at c;cases c;rw[d]at d';injection d' with d1 _
 have:b=its':=by simpa using A2f Array.toList d1
 subst this;exact r.inj f
end
noncomputable abbrev Cx.wish(X:Cx)(E:B_):Cx:={X with xe:=E}
noncomputable abbrev Cx.nox(X:Cx):Cx:=X.wish λ_ _=>False
theorem Cx.Ok.wish{X:Cx}(ok:X.Ok)(E:B_):(X.wish E).Ok :=
 ⟨ok.mod,ok.kind,ok.glob,ok.blt,ok.above,ok.inj,ok.has,ok.cab,ok.hd,ok.frames,ok.stk,ok.exf,ok.bs,ok.bsz,ok.noex,ok.exfs,ok.funs,ok.frf⟩
theorem Cx.Ok.unwish{X:Cx}{E:B_}(ok:(X.wish E).Ok):X.Ok :=
 ⟨ok.mod,ok.kind,ok.glob,ok.blt,ok.above,ok.inj,ok.has,ok.cab,ok.hd,ok.frames,ok.stk,ok.exf,ok.bs,ok.bsz,ok.noex,ok.exfs,ok.funs,ok.frf⟩
section
variable{X:Cx}{o0:A_}{σ:St}{H:Hp}{s:P_}{E:B_}
theorem Inv.wish(I:Inv X o0 σ H s)(E:B_):Inv (X.wish E) o0 σ H s:=⟨I.ok.wish E,I.os,I.bare,I.n9,I.loc,I.cell,I.free,I.freeC,I.pin,I.hok,I.len⟩
theorem Inv.unwish(I:Inv (X.wish E) o0 σ H s):Inv X o0 σ H s:=⟨I.ok.unwish,I.os,I.bare,I.n9,I.loc,I.cell,I.free,I.freeC,I.pin,I.hok,I.len⟩
theorem SP.unwish{D:IE}{f:Flow}{b:P_}(h:SP (X.wish E) o0 D f b):SP X o0 D f b:=by
 cases f with
 |next=>refine BJ h fun σ' a I q=>?_;exact⟨σ',a,I.unwish,q⟩
 |brk=>refine BJ h fun σ' a I q=>?_;exact⟨σ',a,I.unwish,q⟩
 |cont=>refine BJ h fun σ' a I q=>?_;exact⟨σ',a,I.unwish,q⟩
 |ret u=>refine CL h λv σ' a I r q=>?_;exact⟨v,σ',a,I.unwish,r,q⟩
theorem PSs.nox{st:List Stmt}{t:TS}(h:PSs X.nox st t):PSs X st t:=λo0 s σ H D I a =>
 A3e (h o0 s σ H D (I.wish _) a) (λ_ _ q=>q.unwish) λ_ _ z=>False.elim z
end
section
variable{X:Cx}{st:Stmt}{rest:List Stmt}{t u:TS}{e:Expr}{te:TE}{pos:Pos}
def aHC:TS:=λD σ H=>D.nx σ H
def Zo(t u:TS):TS:=λD σ H=>t {D with nx:=u D} σ H
theorem Az:PSs X [] aHC:=λ_ _ σ H _ I h=>A9f ⟨σ,H,I,h⟩
theorem Ac(d:PS X st t)(g:PSs X rest u):PSs X (st::rest) (Zo t u):=by
 intro a s σ H D I h;refine wpAny_execs_cons (thn (d a s σ H {D with nx:=u D} I h) λf i q=>?_);cases f with
 |next =>
  exact BJ q fun σ' b c q=>g a i σ' b D c q
 |ret v=>exact q
 |brk=>exact q
 |cont=>exact q
theorem Ag(b:PS X st t):PSs X [st] t:=by
 intro a s σ H D I h;refine wpAny_execs_cons (thn (b a s σ H D I h) λf c q=>?_);cases f with
 |next=>exact A9f q
 |ret v=>exact q
 |brk=>exact q
 |cont=>exact q
theorem Inv.quiet{a:A_}{σ:St}{H:Hp}{s:P_}(I:Inv X a σ H s):interactive X.env=o6:=by simp[interactive,I.ok.kind]
def aDo(te:TE):TS:=λD σ H=>te σ H λ_ H1=>D.nx σ H1
theorem Bp(d:PE X e te)(f:swapsWith e o4 pos.line X.env=pure o6:=by rfl):PS X (.Expr e pos) (aDo te):=by
 intro a s σ H D I h;exact wpAny_Expr_any (thn (d a s σ H _ I h) λv j ⟨x,b,c,i,g⟩=>⟨σ,b,c,g⟩) I.quiet f
def aHF(te:TE):TS:=λD σ H=>te σ H D.rt
theorem Aw(d:PE X e te):PS X (.Return (o3 e) pos) (aHF te):=by
 intro a s σ H D I h;exact wpAny_Return_some (thn (d a s σ H _ I h) λv i ⟨x,b,c,g,f⟩=>⟨x,σ,b,c,g,f⟩)
def aHG:TS:=λD _ H=>D.rt .non H
theorem Wt:PS X (.Return o4 pos) aHG:=λ_ _ σ H _ I h=>wpAny_Return_none ⟨.non,σ,H,I,Z,h⟩
def tIfS(c:TT)(t u:TS):TS:=λD σ H=>c σ H λb H1=>if b=o5 then t D σ H1 else u D σ H1
theorem AO{c:Expr}{tc:TT}(o:PT X c tc)(m:PSs X a t)(n:PSs X b u):PS X (.If c a b pos) (tIfS tc t u):=by
 intro f s σ H D I h;refine wpAny_If (thn (o f s σ H _ I h) λd k l=>?_);refine xea l λg i j=>?_;cases d with
 |true=>exact m f k σ g D i j
 |false=>exact n f k σ g D i j
def aFL:TS:=λ_ _ _=>False
theorem Bk:PS X st aFL:=λ_ _ _ _ _ _ h=>h.elim
end
abbrev TG:=V->St->Hp->(St->Hp->Prop)->Prop
abbrev TGs:=List V->St->Hp->(St->Hp->Prop)->Prop
def PG(X:Cx)(target:Expr)(t:TG):Prop :=
 ∀(o0:A_)(s:P_)(σ:St)(H:Hp)(v:V)(u:S_)(Q:St->Hp->Prop),Inv X o0 σ H s->Bf v u->t v σ H Q ->
  wpAny (model X.prog X.w) X.A (assign target X.env u) (λ_ s'=>∃σ' H',Inv X o0 σ' H' s'/\Q σ' H') X.xe s
def PGs(X:Cx)(ts:List Expr)(t:TGs):Prop :=
 ∀(o0:A_)(s:P_)(σ:St)(H:Hp)(vs:List V)(us:F_)(Q:St->Hp->Prop),Inv X o0 σ H s->AR vs us->t vs σ H Q ->
  wpAny (model X.prog X.w) X.A (assignInOrder ((assignEach ts X.env).map (·.2)) us) (λ_ s'=>∃σ' H',Inv X o0 σ' H' s'/\Q σ' H') X.xe s
abbrev aDv:=V->V->V->Hp->(Hp->Prop)->Prop
def aFW(X:Cx)(t:aDv):Prop :=
 ∀(o0:A_)(s:P_)(σ:St)(H:Hp)(o i v:V)(ov iv u:S_)(Q:Hp->Prop),Inv X o0 σ H s->Bf o ov->Bf i iv->Bf v u->t o i v H Q ->
  wpAny (model X.prog X.w) X.A (setItem ov iv u) (λ_ s'=>∃H',Inv X o0 σ H' s'/\Q H') X.xe s
section
variable{X:Cx}{pos:Pos}
def LM(i:Nat):TG:=λv σ H Q=>Q (σ.set i (o3 v)) H
theorem AU(c:X.N.Nodup)(hi:X.N[i]?=o3 x)(e:Loc X.env.scope x)(d:X.fn x=o5\/X.env.scope.names.lookup x=o3 .local:=by first|exact .inl rfl|exact .inr rfl|assumption):PG X (.Name x pos) (LM i):=by
 intro a s σ H v u Q I r h;exact wpAny_assign_Name (Tf I c hi e r (λf b=>⟨_,H,b,h⟩) d)
def aD9:TGs:=λvs σ H Q=>vs=[]/\Q σ H
def Um(t:TG)(u:TGs):TGs:=λvs σ H Q=>∃v r,vs=v::r/\t v σ H fun σ' H'=>u r σ' H' Q
theorem Lp:PGs X [] aD9:=by
 intro a s σ H vs us Q I r h;obtain⟨e,h⟩:=h;subst e;cases r;exact assignInOrder_nil ⟨σ,H,I,h⟩
theorem CW{t:TG}(i:PG X e t)(j:PGs X b u)
  (l:(assignEach (e::b) X.env).map (·.2)=assign e X.env::(assignEach b X.env).map (·.2):=by rfl):PGs X (e::b) (Um t u):=by
 intro a s σ H vs us Q I r h;obtain⟨v,p,g,h⟩:=h;subst g;cases r with
 |cons r n =>
  rw[l];refine assignInOrder_cons (thn (i a s σ H _ _ _ I r h) λ_ o k=>?_);exact BJ k fun c d f m=>j a o c d _ _ Q f n m
def aEA(K:O_)(n:Nat)(t:TGs):TG:=λv σ H Q=>∃a xs,v=.ref a/\SqT K H a xs/\xs.length=n/\t xs σ H Q
theorem Nr{k:Nat}{t:TGs}(m:X.calm=o5)(h:PGs X d t)
  (q:(assignEach d X.env).length=n:=by rfl) (f:(assignEach d X.env).findIdx? (·.1)=o4:=by rfl):PG X (.Tuple d k pos) (aEA X.K n t):=by
 intro c s σ H v u Q I r g;obtain⟨a,xs,l,w,p,g⟩:=g;subst l;cases r;obtain⟨z,i,x,A⟩:=I.tuple w;refine assign_Tuple_tuple (I.ok.hd m) x (by simp[q,<-p,i.length]) f λh' y=>?_;have j:=I.kept (t':=s.toks) λb o e=>y b o (J8 (F2 e)) e;exact h c _ σ H xs _ Q j (by simpa using i) g
def gSub(to ti:TE)(t:aDv):TG:=λv σ H Q=>to σ H λo H1=>ti σ H1 λi H2=>t o i v H2 λH3=>Q σ H3
theorem aEx{to e:TE}{t:aDv}(p:PE X o to)(hi:PE X i e)(q:aFW X t)
  (n:∀v,assign (.Subscript o i pos) X.env v=(do
   let b <-holding [v] (eval o X.env);let d <-holding [v,b] (eval i X.env)
   standAt pos
   holding [v,b,d] (setItem b d v)
   release [v,b,d] []):=by intro _;rfl):PG X (.Subscript o i pos) (gSub to e t):=by
 intro a s σ H v u Q I r h;rw[n];refine A0b (A6b (thn (p a s σ H _ I h) λb D c=>?_));refine AN c λx f k B w=>A0b (A6b (thn (hi a D σ f _ k w) λd E c=>?_));refine AN c λy g l C z=>A0b (B0e (A0b (A6b (thn (q a E σ g x y v b d u _ l B C r z) λ_ F c=>?_))));exact xea c λj m A=>wpAny_release ⟨σ,j,m,A⟩
def aFF(te:TE)(g:TG):TS:=λD σ H=>te σ H λx H1=>g x σ H1 D.nx
theorem aE0{c:TE}(k:PE X e c)(l:PG X b g)(m:swapsWithSole [b] e pos.line X.env=pure o6:=by rfl)(n:swappedStores [b] e X.env=pure o4:=by rfl)
  (i:(assignEach [b] X.env).map (·.2)=[assign b X.env]:=by rfl):PS X (.Assign [b] e pos) (aFF c g):=by
 intro a s σ H D I h;refine wpAny_Assign_stores (thn (k a s σ H _ I h) λv r j=>?_) m n;refine AN j λx d f p o=>?_;rw[i];exact thn (l a r σ d x v _ f p o) λ_ t q=>q
theorem Ao{c:TE}(j:X.N.Nodup)(hi:X.N[i]?=o3 x)(o:Loc X.env.scope x)(l:PE X e c)(n:swapsWith e (o3 (.Name x a)) pos.line X.env=pure o6:=by rfl)(m:X.fn x=o5\/X.env.scope.names.lookup x=o3 .local:=by first|exact .inl rfl|exact .inr rfl|assumption) :
  PS X (.Assign [.Name x a] e pos) (aFF c (LM i)):=by
 intro b s σ H D I h;refine wpAny_Assign_Name (thn (l b s σ H _ I h) λv r k=>?_) n;exact AN k λy d f q p=>Tf f j hi o q (λt g=>⟨_,d,g,p⟩) m
def aFN(c:TT)(tb:TS):TS:=λD σ H=>∃W:Nat->St->Hp->Prop,(∃m,W m σ H)/\∀m σ H,W m σ H ->
 c σ H λb H1=>if b=o5 then ∃N:St->Hp->Prop,(∀σ' H',N σ' H'->∃m',m'<m/\W m' σ' H')/\tb {D with nx:=N,ct:=N,bk:=D.nx} σ H1 else D.nx σ H1
theorem JM{c:Expr}{tc:TT}(B:PassesOwn (model X.prog X.w) X.A X.env X.xe)(K:PT X c tc)(G:PSs X g C):PS X (.While c g [] pos) (aFN tc C):=by
 intro a s σ H D I h;obtain⟨W,⟨L,Q⟩,turn⟩:=h;refine wpAny_While (codeAny_whileLoop (λn M=>∃σ' t,Inv X a σ' t M/\W n σ' t) ?_ L ⟨σ,H,I,Q⟩);intro n O r;refine BJ r fun e u E R=>?_;refine A5h B (thn (K a O e u _ E (turn n e u R)) λb P F=>?_);refine xea F λx y j=>?_;cases b with
 |true =>
  refine xea j λN z j=>?_;rw[A0e rfl];refine A5h B (thn (G a P e x _ y j) λf S k=>?_);cases f with
  |next =>
   exact BJ k fun d i l p=>xea (z d i p) λo m q=>⟨o,m,d,i,l,q⟩
  |cont =>
   exact BJ k fun d i l p=>xea (z d i p) λo m q=>⟨o,m,d,i,l,q⟩
  |brk=>exact k
  |ret v=>exact k
 |false =>
  rw[A0c D9];exact A9f ⟨e,x,y,j⟩
end
structure It where
go:Nat->Hp->Prop
yld:Nat->Hp->V->Hp->Prop
stop:Nat->Hp->Prop
def DX(X:Cx)(o0:A_)(H:Hp)(b:R_):Prop :=
 H b=o4/\b≠X.env.locals/\b∉X.fs/\(b∈X.ex\/X.s₀.heap.objs.size<=b)/\(∀x c,X.env.cells.lookup x=o3 c->c≠b)/\∀p∈X.pn++o0,p.1≠b
theorem Inv.fpOk(I:Inv X a σ H s)(d:s.heap.objs.size<=b)(g:f b=o4):DX X a f b:=by
 refine⟨g,V4 (F9 I.lt d),I.nofs d,.inr (D0 I.sz d),λx c e z=>?_,λp h z=>?_⟩
 .obtain⟨v,q⟩:=I.cell x c e;exact absurd (F9 q.lt (by rw[z];exact d)) (R0 _)
 .exact absurd (F9 (F2 (I.pin p h).1) (by rw[z];exact d)) (R0 _)
structure QM(P:N_)(w:Q_)(K:O_)(tg:Expr)(J:It)(fp:H_)(it:R_)(tn:Nat->Heap->Prop):Prop where
mem:it∈fp
obj:∀i h,tn i h->∀b∈fp,∃o,h.get? b=o3 o/\∀v,o.data≠.cell v
keep:∀i h h',tn i h->(∀b∈fp,∀o,h.get? b=o3 o->h'.get? b=o3 o)->tn i h'
item:∀(X:Cx),X.prog=P->X.w=w->X.K=K->X.calm=o5->∀(i:Nat)(o0:A_)(s:P_)(σ:St)(H:Hp)(E:B_),Inv X o0 σ H s->(∀b∈fp,DX X o0 H b)->tn i s.heap->J.go i H ->
 wpAny (model P w) X.A (pyNext (.ref it)) (λr s1=>∃u,r=o3 u /\
  wpAny (model P w) X.A (letOwnedTupleGo tg (.ref it) u) (λ_ s2=>∃x H',Inv X o0 σ H' s2/\Bf x u/\J.yld i H x H'/\tn (i+1) s2.heap/\∀b∈fp,H' b=o4) E s1) E s
done:∀(X:Cx),X.prog=P->X.w=w->X.K=K->X.calm=o5->∀(i:Nat)(o0:A_)(s:P_)(σ:St)(H:Hp)(E:B_),Inv X o0 σ H s->(∀b∈fp,DX X o0 H b)->tn i s.heap->J.stop i H ->
 wpAny (model P w) X.A (pyNext (.ref it)) (λr s1=>r=o4/\Inv X o0 σ H s1) E s
self:∀(A:Around)(i:Nat)(s:P_)(Q:B_)(E:B_),tn i s.heap->Q (.ref it) s->wpAny (model P w) A (pyIter (.ref it)) Q E s
abbrev TI:=St->Hp->(It->Hp->Prop)->Prop
def PIE(X:Cx)(o0:A_)(σ:St)(tg:Expr)(R:It->Hp->Prop)(itv:S_)(s2:P_):Prop :=
 ∃(it:R_)(fp:H_)(tn:Nat->Heap->Prop)(J:It)(H':Hp),itv=.ref it/\Inv X o0 σ H' s2/\QM X.prog X.w X.K tg J fp it tn/\tn 0 s2.heap/\(∀b∈fp,DX X o0 H' b)/\R J H'
def PI(X:Cx)(tg iter:Expr)(wi:TI):Prop :=
 ∀(o0:A_)(s:P_)(σ:St)(H:Hp)(R:It->Hp->Prop),Inv X o0 σ H s->wi σ H R ->
  wpAny (model X.prog X.w) X.A (eval iter X.env) (λv s1=>wpAny (model X.prog X.w) X.A (pyIter v) (PIE X o0 σ tg R) X.xe s1) X.xe s
theorem Ul(f:s.heap.get? it=o3 o)(c:o.cls=.type n)(d:o.data=.fields vs)
   (e:["enumerate","zip","dict_itemiterator","dict_reverseitemiterator","odict_iterator","itertools.zip_longest","itertools.pairwise"].contains n=o6) (a:Q () s):wpAny M A (letOwnedTupleGo b (.ref it) u) Q E s:=by
 unfold letOwnedTupleGo;cases b<;>first
   |exact A0h a
   | (cases u<;>first
       |exact A0h a
       | (refine A0b (wpAny_load f ?_)
          rw[c,d];show wpAny M A (if(["enumerate","zip","dict_itemiterator","dict_reverseitemiterator","odict_iterator","itertools.zip_longest","itertools.pairwise"].contains n && vs[0]?==o3 (rawInt _))=o5 then _ else _) Q E s;rw[A0c (by intro h;rw[e,Bool.false_and]at h;cases h)];exact A0h a))
noncomputable def Itl(K:O_)(a:R_):It :=
 ⟨λi H=>∃xs x,SqL K H a xs/\xs[i]?=o3 x,λi H x H'=>H'=H/\∀xs,SqL K H a xs->xs[i]?=o3 x,λi H=>∃xs,SqL K H a xs/\xs.length<=i⟩
noncomputable def Itt(K:O_)(a:R_):It :=
 ⟨λi H=>∃xs x,SqT K H a xs/\xs[i]?=o3 x,λi H x H'=>H'=H/\∀xs,SqT K H a xs->xs[i]?=o3 x,λi H=>∃xs,SqT K H a xs/\xs.length<=i⟩
noncomputable def Itr(lo:Int)(n:Nat):It:=⟨λi _=>i<n,λi H x H'=>H'=H/\x=.int (lo+i),λi _=>n<=i⟩
theorem Yf{P:N_}{w:Q_}{K:O_}{V:Expr}(a it:R_):QM P w K V (Itl K a) [it] it (λi h=>h.IsListIter it a i) where
 mem:=by simp
 obj:=λi h st b f=>by
  have e:b=it:=by simpa using f
  subst e;exact AS st λo e c d=>⟨o,e,λv z=>by rw[d]at z;cases z⟩
 keep:=λi h h' st k=>st.at λo e=>k it B0 o e
 item:=by
  intro X A C y L i g s σ H E I l st B;subst A C y;refine BJ B λxs x m D=>AS (I.list m) λF G p S=>xea (G.get D) λu Q T=>xa5 (l it B0) λn q O r f4 t=>wpAny_pyNext_list_item st p.isList (x:=u) (by simpa using Q) λh' j U=>?_;have M:=I.turned (t':=s.toks) (λb o f e=>(U.2 b f).trans e) n q r f4 t;exact AS (id j) λo e c d=>⟨u,Z,Ul (s:={s with heap:=h'}) e c d A6 ⟨x,H,M,T,⟨Z,λys R=>by rw[I.list_inj R m];exact D⟩,j,λb f=>(l b f).1⟩⟩
 done:=by
  intro X A C y L i g s σ H E I l st B;subst A C y;refine xea B λxs m D=>AS (I.list m) λF G p S=>xa5 (l it B0) λn q O r f4 t=>?_;have Y:=G.length;exact wpAny_pyNext_list_end (I.ok.hd L) st p.isList (by simp;lia) λh' N=>⟨Z,I.turned (t':=s.toks) (λb o f e=>N b o f e) n q r f4 t⟩
 self:=λ_ _ _ _ _ st h=>wpAny_pyIter_listiter st h
theorem UP{P:N_}{w:Q_}{K:O_}{V:Expr}(a it:R_):QM P w K V (Itt K a) [it] it (λi h=>h.IsTupleIter it a i) where
 mem:=by simp
 obj:=λi h st b f=>by
  have e:b=it:=by simpa using f
  subst e;exact AS st λo e c d=>⟨o,e,λv z=>by rw[d]at z;cases z⟩
 keep:=λi h h' st k=>st.at λo e=>k it B0 o e
 item:=by
  intro X B D A L i j s σ H E I m st C;subst B D A;refine BJ C λxs x n F=>AS (I.tuple n) λg G p S=>xea (G.get F) λu Q T=>xa5 (m it B0) λq r O t f4 y=>wpAny_pyNext_tuple_item st (show s.heap.IsTuple a g.toArray from p) (x:=u) (by simpa using Q) λh' l U=>?_;have M:=I.turned (t':=s.toks) (λb o f e=>(U.2 b f).trans e) q r t f4 y;exact AS (id l) λo e c d=>⟨u,Z,Ul (s:={s with heap:=h'}) e c d A6 ⟨x,H,M,T,⟨Z,λys R=>by rw[I.tuple_inj R n];exact F⟩,l,λb f=>(m b f).1⟩⟩
 done:=by
  intro X B D A L i j s σ H E I m st C;subst B D A;refine xea C λxs n F=>AS (I.tuple n) λg G p S=>xa5 (m it B0) λq r O t f4 y=>?_;have Y:=G.length;exact wpAny_pyNext_tuple_end (I.ok.hd L) st (show s.heap.IsTuple a g.toArray from p) (by simp;lia) λh' N=>⟨Z,I.turned (t':=s.toks) (λb o f e=>N b o f e) q r t f4 y⟩
 self:=λ_ _ _ _ _ st h=>wpAny_pyIter_tupleiter st h
theorem UQ{P:N_}{w:Q_}{K:O_}{D:Expr}(it:R_)(lo:Int)(n:Nat):QM P w K D (Itr lo n) [it] it (λi h=>IsRangeIter h it (lo+(i:Nat)*1) ((n:Int)-(i:Nat)) 1) where
 mem:=by simp
 obj:=λi h st b c=>by
  have e:b=it:=by simpa using c
  subst e;exact⟨_,st,λv z=>by
   have F:Data.fields _=Data.cell v:=z;cases F⟩
 keep:=λi h h' st k=>k it B0 _ st
 item:=by
  intro X q x p r i a s σ H E I f st u;subst q x p;refine xa5 (f it B0) λg j B l f4 m=>?_;have W:=Walks.range (prog:=X.prog) (w:=X.w) (I.ok.hd r) it lo 1 n;refine W.item i s _ _ u st λv h' tk C d kk=>?_;obtain⟨t,rfl⟩:=C;have y:Inv X a σ H {s with heap:=h',toks:=tk}:=I.turned (λb o c e=>kk b o (by simpa using c) e) g j l f4 m;refine⟨_,Z,Ul (s:={s with heap:=h',toks:=tk}) (n:="range_iterator") d Z Z A6 ⟨.int (lo+i),H,y,⟨t,?_⟩,⟨Z,Z⟩,d,λb c=>(f b c).1⟩⟩;rw[Int.mul_one]
 done:=by
  intro X q x p r i a s σ H E I f st u;subst q x p;exact xa5 (f it B0) λg j B l f4 m=>wpAny_pyNext_range_end (I.ok.hd r) st (by have:n<=i:=u;lia) λh' A=>⟨Z,I.turned (t':=s.toks) (λb o c e=>A b o c e) g j l f4 m⟩
 self:=λ_ _ _ _ _ st h=>wpAny_pyIter_rangeiter st h
section
variable{X:Cx}{tg:Expr}
def aGG(K:O_)(tl:TE):TI:=fun σ H R=>tl σ H λx H1=>∃a,x=.ref a/\(∃xs,SqL K H1 a xs)/\R (Itl K a) H1
def iTup(K:O_)(tl:TE):TI:=fun σ H R=>tl σ H λx H1=>∃a,x=.ref a/\(∃xs,SqT K H1 a xs)/\R (Itt K a) H1
theorem BY(m:PE X l g):PI X tg l (aGG X.K g):=by
 intro c s σ H R I h;refine thn (m c s σ H _ I h) λv f j=>AN j λx i d u t=>?_;obtain⟨a,e,⟨xs,n⟩,q⟩:=t;subst e;cases u;refine AS (d.list n) λr y p w=>A6d p.isList ⟨f.heap.objs.size,[f.heap.objs.size],_,_,i,Z,d.kept (t':=f.toks) λb o e=>C2 _ e,Yf a _,⟨_,F0 _ Z,Z,Z⟩,λb k=>?_,q⟩;have e:b=f.heap.objs.size:=by simpa using k
 subst e;exact d.fpOk (C0 _) (d.hok.fresh (C0 _))
theorem Po(n:PE X l i):PI X tg l (iTup X.K i):=by
 intro c s σ H R I h;refine thn (n c s σ H _ I h) λv d k=>AN k λx j f u t=>?_;obtain⟨a,e,⟨xs,r⟩,q⟩:=t;subst e;cases u;refine AS (f.tuple r) λg y p w=>wpAny_pyIter_tuple (show d.heap.IsTuple a g.toArray from p) ⟨d.heap.objs.size,[d.heap.objs.size],_,_,j,Z,f.kept (t':=d.toks) λb o e=>C2 _ e,UP a _,⟨_,F0 _ Z,Z,Z⟩,λb m=>?_,q⟩;have e:b=d.heap.objs.size:=by simpa using m
 subst e;exact f.fpOk (C0 _) (f.hok.fresh (C0 _))
theorem TC{a:A_}{σ:St}{H:Hp}{s:P_}{R:It->Hp->Prop}{E:B_}{lo hi:Int}{t u v:Tok}{tk:Nat}(I:Inv X a σ H s)(g:-(2^62)<=lo)(h:lo<2^62)(i:-(2^62)<=hi)(j:hi<2^62)
  (q:R (Itr lo (hi-lo).toNat) H):wpAny (model X.prog X.w) X.A (pyIter (.ref s.heap.objs.size)) (PIE X a σ tg R) E {s with heap:=s.heap.push {cls:=.type "range",data:=.fields #[.int lo t,.int hi u,.int 1 v]},toks:=tk}:=by
 refine wpAny_pyIter_range (IsRange.new ..) (small_one g h i j) ?_;have c:Inv X a σ H {s with heap:=s.heap.push {cls:=.type "range",data:=.fields #[.int lo t,.int hi u,.int 1 v]},toks:=tk}:=I.kept λb o e=>C2 _ e;refine⟨(s.heap.push {cls:=.type "range",data:=.fields #[.int lo t,.int hi u,.int 1 v]}).objs.size,[(s.heap.push {cls:=.type "range",data:=.fields #[.int lo t,.int hi u,.int 1 v]}).objs.size],_,_,H,Z,
  c.kept (t':=tk) λb o e=>C2 _ e,UQ _ lo (hi-lo).toNat,?_,λb k=>?_,q⟩
 .have d:lo+((0:Nat):Int)*1=lo:=by simp
  have f:(((hi-lo).toNat:Nat):Int)-((0:Nat):Int)=Builtin.Range.rangeSize lo hi 1:=by rw[rangeSize_one];split<;>lia
  show IsRangeIter _ _ (lo+((0:Nat):Int)*1) ((((hi-lo).toNat:Nat):Int)-((0:Nat):Int)) 1;rw[d,f];exact F0 _ Z
 .have e:b=(s.heap.push {cls:=.type "range",data:=.fields #[.int lo t,.int hi u,.int 1 v]}).objs.size:=by simpa using k
  subst e;exact c.fpOk (C0 _) (c.hok.fresh (C0 _))
def aGH(ta:TA):TI:=fun σ H R=>ta σ H λvs H1=>∃j:Int,vs=[.int j]/\-(2^62)<=j/\j<2^62/\R (Itr 0 j.toNat) H1
def aGI(ta:TA):TI:=fun σ H R=>ta σ H λvs H1=>∃i j:Int,vs=[.int i,.int j]/\(-(2^62)<=i/\i<2^62/\-(2^62)<=j/\j<2^62)/\R (Itr i (j-i).toNat) H1
theorem Ca(k:Gl X "range")(l:X.mg "range" = o4)(i:PA X [a] d)(m:starEach [a] X.env=[(o6,eval a X.env)]:=by rfl):PI X tg (.Call (.Name "range" p) [a] [] pos) (aGH d):=by
 intro b s σ H R I h;refine Call_ (Lh I k l boot_range (A4b (thn (i pos b s σ H _ I h) λus w g=>?_) m Z));refine AN g λvs v f o c=>?_;obtain⟨j,e,c,n,q⟩:=c;subst e;cases o with
 |cons r u =>
  cases u;obtain⟨t,rfl⟩:=r;exact call_range_1 (TC f A0 A0 c n (by simpa using q))
theorem Nq{k:TA}(o:Gl X "range")(u:X.mg "range" = o4)(n:PA X [a,b] k)(v:starEach [a,b] X.env=[(o6,eval a X.env),(o6,eval b X.env)]:=by rfl)(c:starEach [b] X.env=[(o6,eval b X.env)]:=by rfl) :
  PI X tg (.Call (.Name "range" p) [a,b] [] pos) (aGI k):=by
 intro d s σ H R I h;refine Call_ (Lh I o u boot_range (A4b (thn (n pos d s σ H _ I h) λus C m=>?_) (by rw[v,c]) (by rw[c];rfl)));refine AN m λvs B l A f=>?_;obtain⟨i,j,e,⟨f,w,x,y⟩,q⟩:=f;subst e;cases A with
 |cons r g =>
  cases g with
  |cons z g =>
   cases g;obtain⟨t,rfl⟩:=r;obtain⟨t',rfl⟩:=z;exact call_range_2 (TC l f w x y q)
def aFK(wi:TI)(g:TG)(tb:TS):TS:=λD σ H=>wi σ H λJ H1=>∃W:Nat->Nat->St->Hp->Prop,(∃m,W 0 m σ H1)/\∀i m σ H,W i m σ H ->
 (J.stop i H/\D.nx σ H)\/(J.go i H/\∃N:St->Hp->Prop,(∀σ' H',N σ' H'->∃m',m'<m/\W (i+1) m' σ' H')/\∀x H',J.yld i H x H'->g x σ H' fun σ2 H2=>tb {D with nx:=N,ct:=N,bk:=D.nx} σ2 H2)
noncomputable def Np(fp:H_)(h:T_):List (Addr×Obj):=fp.filterMap λb=>(h.get? b).map λo=>(b,o)
theorem Jj(a:b∈fp)(e:h.get? b=o3 o):(b,o)∈Np fp h:=List.mem_filterMap.mpr ⟨b,a,by rw[e];rfl⟩
theorem QY(d:p∈Np fp h):p.1∈fp/\h.get? p.1=o3 p.2:=by
 refine xea (List.mem_filterMap.mp d) λb c e=>?_;cases q:h.get? b with
 |none=>rw[q]at e;cases e
 |some o =>
  rw[q]at e;have a:=A1d e;subst a;exact⟨c,q⟩
theorem Inv.pinned(I:Inv X a σ H s)(j:∀b∈fp,DX X a H b)(k:∀b∈fp,∃o,s.heap.get? b=o3 o/\∀v,o.data≠.cell v):Inv X (a++Np fp s.heap) σ H s :=
 I.pins_of λp l=>(J7.mp l).elim (λz=>I.pin p (M0 _ z)) λz=>by
  obtain⟨f,e⟩:=QY z;refine xa3 (j p.1 f) λg h i _=>xea (k p.1 f) λo c d=>?_;rw[e]at c;cases c;exact⟨e,g,h,i,d⟩
theorem Inv.unpinned(I:Inv X (a++pl) σ H s):Inv X a σ H s:=I.pins_of λp b=>I.pin p (M0 _ (U8 _ b))
theorem BN{q:Expr}(K:PassesOwn (model X.prog X.w) X.A X.env X.xe)(hc:X.calm=o5)(hi:PI X tg q wi)(hg:PG X tg g)(p:PSs X B tb)
  (hs:∀x,foldedSetIterable q X.env x=pure x:=by intro _;rfl):PS X (.For tg q B [] pos) (aFK wi g tb):=by
 intro a s σ H D I h;refine wpAny_For (thn (hi a s σ H _ I h) λv s1 h1=>thn h1 λab s2 h2=>?_) hs;obtain⟨it,fp,tn,J,H2,e,I2,T,V,f2,W,⟨m0,w0⟩,turn⟩:=h2;subst e;have t:∀{z:Hp},(∀b∈fp,z b=o4)->∀b∈fp,DX X a z b:=λhn b p=>⟨hn b p,(f2 b p).2⟩
 refine codeAny_forLoop_any (λn s'=>∃i σ' z,Inv X a σ' z s'/\tn i s'.heap/\(∀b∈fp,z b=o4)/\W i n σ' z) ?_ m0 ⟨0,σ,H2,I2,V,λb p=>(f2 b p).1,w0⟩;intro n s3 Y;refine Fz Y λi y P I3 M G w3=>?_;rcases turn i n y P w3 with ⟨O,qn⟩|⟨go,N,hN,step⟩
 .refine A5h K (thn (T.done X Z Z Z hc i a s3 y P X.xe I3 (t G) M O) λr s4 E=>?_);obtain⟨S,I4⟩:=E;subst S;exact A9f ⟨y,P,I4,qn⟩
 .refine A5h K (thn (T.item X Z Z Z hc i a s3 y P X.xe I3 (t G) M go) λr s4 E=>?_);refine xea E λu S h4=>?_;subst S;refine A5h K (thn h4 λ_ s5 E=>?_);refine CB E λx H5 I5 r5 y5 F R=>?_;have Q:=I5.pinned (t R) (T.obj _ _ F);refine A5h K (thn (hg _ s5 y H5 x u _ Q r5 (step x H5 y5)) λ_ s6 E=>?_);refine BJ E fun aa H6 I6 q6=>A5h K (thn (p _ s6 aa H6 _ I6 q6) λf U C=>?_);have l:∀{c:St}{j:Hp},Inv X (a++Np fp s5.heap) c j U->N c j->∃m,m<n/\∃i σ' z,Inv X a σ' z U/\tn i U.heap/\(∀b∈fp,z b=o4)/\W i m σ' z:=λ{c j} k L=>by
   refine xea (hN c j L) λm' hm w7=>⟨m',hm,i+1,c,j,k.unpinned,T.keep _ _ _ F λb p o e=>(k.pin (b,o) (M0 _ (M0 _ (Jj p e)))).1,λb p=>?_,w7⟩
   exact xea (T.obj _ _ F b p) λo e d=>(k.pin (b,o) (M0 _ (M0 _ (Jj p e)))).2.1
  cases f with
  |next=>refine BJ C fun c j k L=>?_;exact l k L
  |cont=>refine BJ C fun c j k L=>?_;exact l k L
  |brk=>refine BJ C fun c j k C=>?_;exact⟨c,j,k.unpinned,C⟩
  |ret v=>refine CL C λx7 c j k r7 C=>?_;exact⟨x7,c,j,k.unpinned,r7,C⟩
end
theorem MQ{K:O_}{a:R_}{xs:List V}{g:TG}{n:TS}{D:IE}{σ:St}{H:Hp}(b:Nat->St->Hp->Prop)(o:b 0 σ H)(s:∀i σ H,i<=xs.length->b i σ H->SqL K H a xs)
  (t:∀i x σ H,xs[i]?=o3 x->b i σ H->g x σ H fun d j=>n {D with nx:=b (i+1),ct:=b (i+1),bk:=D.nx} d j) (r:∀σ H,b xs.length σ H->D.nx σ H) :
  ∃W:Nat->Nat->St->Hp->Prop,(∃m,W 0 m σ H)/\∀i m σ H,W i m σ H ->
   ((Itl K a).stop i H/\D.nx σ H)\/((Itl K a).go i H/\∃N:St->Hp->Prop,(∀σ' c,N σ' c->∃l,l<m/\W (i+1) l σ' c)/\∀x c,(Itl K a).yld i H x c->g x σ c fun d j=>n {D with nx:=N,ct:=N,bk:=D.nx} d j):=by
 refine⟨λi m σ H=>m=xs.length-i/\i<=xs.length/\b i σ H,⟨xs.length,by simp,J9 _,o⟩,?_⟩;intro i m σ H h;refine xa2 h λk hi p=>?_;clear h;subst k;have q:=s i σ H hi p;by_cases f:i<xs.length
 .refine .inr ⟨⟨xs,xs[i],q,by simp[f]⟩,b (i+1),fun σ' c u=>⟨xs.length-(i+1),by lia,Z,f,u⟩,λx c y=>?_⟩;obtain⟨e,y⟩:=y;subst e;exact t i x σ _ (y xs q) p
 .have e:i=xs.length:=by lia
  subst e;exact .inl ⟨⟨xs,q,C0 _⟩,r σ H p⟩
theorem aCD{K:O_}{a:R_}{xs:List V}{g:TG}{n:TS}{D:IE}{σ:St}{H:Hp}(b:Nat->St->Hp->Prop)(o:b 0 σ H)(s:∀i σ H,i<=xs.length->b i σ H->SqT K H a xs)
  (t:∀i x σ H,xs[i]?=o3 x->b i σ H->g x σ H fun d j=>n {D with nx:=b (i+1),ct:=b (i+1),bk:=D.nx} d j) (r:∀σ H,b xs.length σ H->D.nx σ H) :
  ∃W:Nat->Nat->St->Hp->Prop,(∃m,W 0 m σ H)/\∀i m σ H,W i m σ H ->
   ((Itt K a).stop i H/\D.nx σ H)\/((Itt K a).go i H/\∃N:St->Hp->Prop,(∀σ' c,N σ' c->∃l,l<m/\W (i+1) l σ' c)/\∀x c,(Itt K a).yld i H x c->g x σ c fun d j=>n {D with nx:=N,ct:=N,bk:=D.nx} d j):=by
 refine⟨λi m σ H=>m=xs.length-i/\i<=xs.length/\b i σ H,⟨xs.length,by simp,J9 _,o⟩,?_⟩;intro i m σ H h;refine xa2 h λk hi p=>?_;clear h;subst k;have q:=s i σ H hi p;by_cases f:i<xs.length
 .refine .inr ⟨⟨xs,xs[i],q,by simp[f]⟩,b (i+1),fun σ' c u=>⟨xs.length-(i+1),by lia,Z,f,u⟩,λx c y=>?_⟩;obtain⟨e,y⟩:=y;subst e;exact t i x σ _ (y xs q) p
 .have e:i=xs.length:=by lia
  subst e;exact .inl ⟨⟨xs,q,C0 _⟩,r σ H p⟩
theorem Cc{lo:Int}{n:Nat}{g:TG}{l:TS}{D:IE}{σ:St}{H:Hp}(b:Nat->St->Hp->Prop)(o:b 0 σ H)
  (r:∀i σ H,i<n->b i σ H->g (.int (lo+i)) σ H fun d h=>l {D with nx:=b (i+1),ct:=b (i+1),bk:=D.nx} d h) (q:∀σ H,b n σ H->D.nx σ H) :
  ∃W:Nat->Nat->St->Hp->Prop,(∃m,W 0 m σ H)/\∀i m σ H,W i m σ H ->
   ((Itr lo n).stop i H/\D.nx σ H)\/((Itr lo n).go i H/\∃N:St->Hp->Prop,(∀σ' a,N σ' a->∃k,k<m/\W (i+1) k σ' a)/\∀x a,(Itr lo n).yld i H x a->g x σ a fun d h=>l {D with nx:=N,ct:=N,bk:=D.nx} d h):=by
 refine⟨λi m σ H=>m=n-i/\i<=n/\b i σ H,⟨n,by simp,J9 _,o⟩,?_⟩;intro i m σ H f;refine xa2 f λj hi p=>?_;clear f;subst j;by_cases c:i<n
 .refine .inr ⟨c,b (i+1),fun σ' a s=>⟨n-(i+1),by lia,Z,c,s⟩,λx a y=>?_⟩;obtain⟨e,y⟩:=y;subst e y;exact r i σ _ c p
 .have e:i=n:=by lia
  subst e;exact .inl ⟨C0 _,q σ H p⟩
abbrev R2:=V->V->Hp->VK->Prop
def OpR(X:Cx)(f:Value->Value->Sem Value)(r:R2):Prop :=
 ∀(o0:A_)(s:P_)(σ:St)(H:Hp)(x y:V)(v u:S_)(Q:VK),Inv X o0 σ H s->Bf x v->Bf y u->r x y H Q ->
  wpAny (model X.prog X.w) X.A (f v u) (EP X o0 σ Q) X.xe s
def UnR(X:Cx)(f:Value->Sem Value)(r:V->Hp->VK->Prop):Prop :=
 ∀(o0:A_)(s:P_)(σ:St)(H:Hp)(x:V)(v:S_)(Q:VK),Inv X o0 σ H s->Bf x v->r x H Q ->
  wpAny (model X.prog X.w) X.A (f v) (EP X o0 σ Q) X.xe s
def FE(X:Cx)(f:S_)(r:List V->Hp->VK->Prop):Prop :=
 ∀(o0:A_)(s:P_)(σ:St)(H:Hp)(xs:List V)(us:F_)(Q:VK),Inv X o0 σ H s->AR xs us->r xs H Q ->
  wpAny (model X.prog X.w) X.A (call f us) (EP X o0 σ Q) X.xe s
def tOp(r:R2)(ta tb:TE):TE:=fun σ H Q=>ta σ H λx H1=>tb σ H1 λy H2=>r x y H2 Q
def tUn(r:V->Hp->VK->Prop)(ta:TE):TE:=fun σ H Q=>ta σ H λx H1=>r x H1 Q
def rI(C:Int->Int->Prop)(g:Int->Int->V):R2:=λx y H Q=>∃i j,x=.int i/\y=.int j/\C i j/\Q (g i j) H
def rI0(g:Int->Int->V):R2:=λx y H Q=>∃i j,x=.int i/\y=.int j/\Q (g i j) H
def rU(g:Int->V):V->Hp->VK->Prop:=λx H Q=>∃i,x=.int i/\Q (g i) H
section
variable{X:Cx}{a b c:Expr}{ta tb tc:TE}{pos:Pos}
theorem aDx(o:PE X a ta)(p:PE X b tb){d:A_}{s:P_}{σ:St}{H:Hp}{R:V->V->Hp->Prop}(I:Inv X d σ H s)
  (h:ta σ H λx k=>tb σ k λy e=>R x y e) {Q:B_} {f:Value->Value->Sem Value}
  (q:∀v u j x y e,Inv X d σ e j->Bf x v->Bf y u->R x y e->wpAny (model X.prog X.w) X.A (f v u) Q X.xe j) :
  wpAny (model X.prog X.w) X.A (eval a X.env) (λv g=>wpAny (model X.prog X.w) X.A (eval b X.env) (λu i=>wpAny (model X.prog X.w) X.A (f v u) Q X.xe i) X.xe g) X.xe s:=by
 exact thn (o d s σ H _ I h) λv C l=>AN l λx k m z r=>thn (p d C σ k _ m r) λu j l=>AN l λy e n B t=>q v u j x y e n z B t
theorem AG(k:OpR X (binaryOp e) r)(i:PE X a ta)(j:PE X b tb):PE X (.BinOp a e b pos) (tOp r ta tb):=by
 intro d s σ H Q I h;exact wpAny_BinOp (aDx i j I h λv u n x y f g l m q=>k d n σ f x y v u Q g l m q)
theorem Fc{r:V->Hp->VK->Prop}(j:UnR X (unaryOp e) r)(i:PE X a ta):PE X (.UnaryOp e a pos) (tUn r ta):=by
 intro d s σ H Q I h;exact UnaryOp_ (thn (i d s σ H _ I h) λv m ⟨x,f,g,l,k⟩=>j d m σ f x v Q g l k)
theorem opI{f:Value->Value->Sem Value}{C:Int->Int->Prop}{g:Int->Int->Int}
  (d:∀(i j:Int)(t u:Tok)(s:P_)(Q:B_)(E:B_),C i j->Q (.int (g i j) s.toks) {s with toks:=s.toks+1}->wpAny (model X.prog X.w) X.A (f (.int i t) (.int j u)) Q E s) :
  OpR X f (rI C λi j=>.int (g i j)):=by
 intro l s σ H x y v u Q I n o h;refine CC h λi j e k m q=>?_;clear h;subst e;subst k;obtain⟨t,rfl⟩:=n;obtain⟨t',rfl⟩:=o;exact d i j t t' s _ _ m ⟨.int (g i j),H,I.tok _,⟨_,Z⟩,q⟩
theorem aEr{f:Value->Value->Sem Value}{g:Int->Int->Int}
  (d:∀(i j:Int)(t u:Tok)(s:P_)(Q:B_)(E:B_),Q (.int (g i j) s.toks) {s with toks:=s.toks+1}->wpAny (model X.prog X.w) X.A (f (.int i t) (.int j u)) Q E s) :
  OpR X f (rI0 λi j=>.int (g i j)):=by
 intro l s σ H x y v u Q I m n h;refine AN h λi j e k q=>?_;clear h;subst e;subst k;obtain⟨t,rfl⟩:=m;obtain⟨t',rfl⟩:=n;exact d i j t t' s _ _ ⟨.int (g i j),H,I.tok _,⟨_,Z⟩,q⟩
theorem aEq{f:Value->Value->Sem Value}{g:Int->Int->Bool}
  (d:∀(i j:Int)(t u:Tok)(s:P_)(Q:B_)(E:B_),Q (.bool (g i j)) s->wpAny (model X.prog X.w) X.A (f (.int i t) (.int j u)) Q E s) :
  OpR X f (rI0 λi j=>.bl (g i j)):=by
 intro l s σ H x y v u Q I m n h;refine AN h λi j e k q=>?_;clear h;subst e;subst k;obtain⟨t,rfl⟩:=m;obtain⟨t',rfl⟩:=n;exact d i j t t' s _ _ ⟨.bl (g i j),H,I,Z,q⟩
def CDiv(i j:Int):Prop:=0<j/\j<1073741824
def aDt(i j:Int):Prop:=0<=j/\j<=1000000/\i.natAbs<2^64
def CMul(i j:Int):Prop:=(-(2^64)<i/\i<2^64)\/(-(2^64)<j/\j<2^64)
theorem CMul.ok{i j:Int}(h:CMul i j):IntMulOk i j:=by
 rcases h with ⟨d,e⟩|⟨d,e⟩
 .exact .of_left (intBits_le_64 d e)
 .exact .of_right (intBits_le_64 d e)
theorem UN(k:Nat):(0:Int)<=2^k:=by
 rw[two_pow_cast];exact K6 _
theorem AQ:OpR X (binaryOp .Add) (rI0 λi j=>.int (i+j)):=aEr λ_ _ _ _ _ _ _ q=>add_int q
theorem Cg:OpR X (binaryOp .Sub) (rI0 λi j=>.int (i-j)):=aEr λ_ _ _ _ _ _ _ q=>sub_int q
theorem EK:OpR X (binaryOp .Mult) (rI CMul λi j=>.int (i*j)):=opI λ_ _ _ _ _ _ _ d q=>mul_int q d.ok
theorem CP:OpR X (binaryOp .FloorDiv) (rI CDiv λi j=>.int (i/j)):=opI λi j _ _ _ _ _ d q=>by
 have e:=d.1;have f:=d.2;exact floordiv_int A0 (by rw[V7 i A0];exact q) (.inl (PyProof.noPylong_small A0))
theorem Bm:OpR X (binaryOp .Mod) (rI (λ_ j=>0<j) λi j=>.int (i%j)):=opI λi j _ _ _ _ _ d q=>by
 have e:=d;exact mod_int' A0 (by rw[Int.fmod_eq_emod_of_nonneg i A0];exact q)
theorem ZW:OpR X (binaryOp .Pow) (rI aDt λi j=>.int (i^j.toNat)):=opI λ_ _ _ _ _ _ _ d q=>pow_int_small d.1 d.2.1 d.2.2 q
theorem NA:OpR X (binaryOp .LShift) (rI aDt λi j=>.int (i*2^j.toNat)):=opI λ_ _ _ _ _ _ _ d q=>lshift_int_small d.1 d.2.1 d.2.2 q
theorem aEu:OpR X (binaryOp .RShift) (rI (λ_ j=>0<=j) λi j=>.int (i/2^j.toNat)):=opI λi j _ _ _ _ _ d q =>
 rshift_int d (by rw[V7 i (UN _)];exact q)
theorem aEs:OpR X (binaryOp .BitAnd) (rI0 λi j=>.int (Builtin.bitAnd i j)):=aEr λ_ _ _ _ _ _ _ q=>and_int q
theorem unI{f:Value->Sem Value}{g:Int->Int}
  (d:∀(i:Int)(t:Tok)(s:P_)(Q:B_)(E:B_),Q (.int (g i) s.toks) {s with toks:=s.toks+1}->wpAny (model X.prog X.w) X.A (f (.int i t)) Q E s) :
  UnR X f (rU λi=>.int (g i)):=by
 intro j s σ H x v Q I k h;refine xea h λi e q=>?_;clear h;subst e;obtain⟨t,rfl⟩:=k;exact d i t s _ _ ⟨.int (g i),H,I.tok _,⟨_,Z⟩,q⟩
theorem Dm:UnR X (unaryOp .USub) (rU λi=>.int (-i)):=unI λ_ _ _ _ _ q=>neg_int q
end
noncomputable def aGp:V->V->Bool
|.non,.non=>o5|.non,.int _=>o5|.int _,.non=>o5|.non,.bl _=>o5|.bl _,.non=>o5|.non,.str _=>o5|.str _,.non=>o5
|.int _,.int _=>o5|.bl _,.bl _=>o5|.str _,.str _=>o5|.byt _,.byt _=>o5
|.int _,.str _=>o5|.str _,.int _=>o5|.bl _,.str _=>o5|.str _,.bl _=>o5
|_,_=>o6
def rEq:R2:=λx y H Q=>aGp x y=o5/\Q (.bl (decide (x=y))) H
def rNe:R2:=λx y H Q=>aGp x y=o5/\Q (.bl (!decide (x=y))) H
theorem Jn{i j:Int}:decide (V.int i=V.int j)=(i==j):=by
 rw[S1];simp
theorem aA0{i j:Bool}:decide (V.bl i=V.bl j)=(i==j):=by
 rw[S1];simp
theorem WK{i j:Str}:decide (V.str i=V.str j)=(i==j):=by
 rw[S1];simp
theorem WL{i j:Array UInt8}:decide (V.byt i=V.byt j)=(i.toList==j.toList):=by
 rw[S1];cases i;cases j;simp
section
variable{X:Cx}{a b c:Expr}{ta tb tc:TE}{pos:Pos}
theorem Bg{k f:Bool}(I:Inv X d σ H s)(q:Q (.bl k) H)(e:k=f):EP X d σ Q (.bool f) s:=by
 subst e;exact⟨.bl k,H,I,Z,q⟩
theorem Dj:OpR X (compareOp .Eq) rEq:=by
 intro g s σ H x y v u Q I f d h;obtain⟨e,q⟩:=h;cases x with
 |non =>
  cases f;cases y with
  |non=>cases d;exact PySem.EqNone.eq_none_none (Bg I q B0)
  |bl j=>cases d;exact PySem.EqNone.eq_none_bool (Bg I q B0)
  |int j=>obtain⟨t',rfl⟩:=d;exact PySem.EqNone.eq_none_int (Bg I q B0)
  |str j=>obtain⟨t',rfl⟩:=d;exact PySem.EqNone.eq_none_str (Bg I q B0)
  |_=>exact absurd (show o6=o5 from e) D9
 |bl i =>
  cases f;cases y with
  |non=>cases d;exact PySem.EqNone.eq_bool_none (Bg I q B0)
  |bl j=>cases d;exact eq_bool (Bg I q aA0)
  |str j=>obtain⟨t',rfl⟩:=d;exact PySem.EqMixed.eq_bool_str (Bg I q B0)
  |_=>exact absurd (show o6=o5 from e) D9
 |int i =>
  obtain⟨t,rfl⟩:=f;cases y with
  |non=>cases d;exact PySem.EqNone.eq_int_none (Bg I q B0)
  |int j=>obtain⟨t',rfl⟩:=d;exact eq_int (Bg I q Jn)
  |str j=>obtain⟨t',rfl⟩:=d;exact PySem.EqMixed.eq_int_str (Bg I q B0)
  |_=>exact absurd (show o6=o5 from e) D9
 |str i =>
  obtain⟨t,rfl⟩:=f;cases y with
  |non=>cases d;exact PySem.EqNone.eq_str_none (Bg I q B0)
  |bl j=>cases d;exact PySem.EqMixed.eq_str_bool (Bg I q B0)
  |int j=>obtain⟨t',rfl⟩:=d;exact PySem.EqMixed.eq_str_int (Bg I q B0)
  |str j=>obtain⟨t',rfl⟩:=d;exact eq_str (Bg I q WK)
  |_=>exact absurd (show o6=o5 from e) D9
 |byt i =>
  obtain⟨t,rfl⟩:=f;cases y with
  |byt j=>obtain⟨t',rfl⟩:=d;exact W.eq_bytes (Bg I q WL)
  |_=>exact absurd (show o6=o5 from e) D9
 |_=>cases y<;>exact absurd (show o6=o5 from e) D9
theorem GM:OpR X (compareOp .NotEq) rNe:=by
 intro g s σ H x y v u Q I f d h;obtain⟨e,q⟩:=h;cases x with
 |non =>
  cases f;cases y with
  |non=>cases d;exact PySem.EqNone.ne_none_none (Bg I q B0)
  |bl j=>cases d;exact PySem.EqNone.ne_none_bool (Bg I q B0)
  |int j=>obtain⟨t',rfl⟩:=d;exact PySem.EqNone.ne_none_int (Bg I q B0)
  |str j=>obtain⟨t',rfl⟩:=d;exact PySem.EqNone.ne_none_str (Bg I q B0)
  |_=>exact absurd (show o6=o5 from e) D9
 |bl i =>
  cases f;cases y with
  |non=>cases d;exact PySem.EqNone.ne_bool_none (Bg I q B0)
  |bl j=>cases d;exact ne_bool (Bg I q (A2f not aA0))
  |str j=>obtain⟨t',rfl⟩:=d;exact PySem.EqMixed.ne_bool_str (Bg I q B0)
  |_=>exact absurd (show o6=o5 from e) D9
 |int i =>
  obtain⟨t,rfl⟩:=f;cases y with
  |non=>cases d;exact PySem.EqNone.ne_int_none (Bg I q B0)
  |int j=>obtain⟨t',rfl⟩:=d;exact ne_int (Bg I q (A2f not Jn))
  |str j=>obtain⟨t',rfl⟩:=d;exact PySem.EqMixed.ne_int_str (Bg I q B0)
  |_=>exact absurd (show o6=o5 from e) D9
 |str i =>
  obtain⟨t,rfl⟩:=f;cases y with
  |non=>cases d;exact PySem.EqNone.ne_str_none (Bg I q B0)
  |bl j=>cases d;exact PySem.EqMixed.ne_str_bool (Bg I q B0)
  |int j=>obtain⟨t',rfl⟩:=d;exact PySem.EqMixed.ne_str_int (Bg I q B0)
  |str j=>obtain⟨t',rfl⟩:=d;exact ne_str (Bg I q (A2f not WK))
  |_=>exact absurd (show o6=o5 from e) D9
 |byt i =>
  obtain⟨t,rfl⟩:=f;cases y with
  |byt j=>obtain⟨t',rfl⟩:=d;exact W.ne_bytes (Bg I q (A2f not WL))
  |_=>exact absurd (show o6=o5 from e) D9
 |_=>cases y<;>exact absurd (show o6=o5 from e) D9
theorem GN:OpR X (compareOp .Lt) (rI0 λi j=>.bl (decide (i<j))):=aEq λ_ _ _ _ _ _ _ q=>lt_int q
theorem JY:OpR X (compareOp .LtE) (rI0 λi j=>.bl (decide (i<=j))):=aEq λ_ _ _ _ _ _ _ q=>le_int q
theorem TM:OpR X (compareOp .Gt) (rI0 λi j=>.bl (decide (j<i))):=aEq λ_ _ _ _ _ _ _ q=>gt_int q
theorem Yp:OpR X (compareOp .In) (λx y H Q=>∃i j,x=.str i/\y=.str j/\Q (.bl (!(Builtin.Str.occurrences j i 0 j.length 1).isEmpty)) H):=by
 intro f s σ H x y v u Q I g k h;refine AN h λi j d e q=>?_;clear h;subst d;subst e;obtain⟨t,rfl⟩:=g;obtain⟨t',rfl⟩:=k;exact in_str (Bg I q Z)
theorem Ji:OpR X (compareOp .Is) (λx y H Q=>y=.non/\Q (.bl (decide (x=.non))) H):=by
 intro d s σ H x y v u Q I e f h;obtain⟨rfl,q⟩:=h;cases f;refine is_none_gen (Bg I q ?_);cases x<;>first
  | (cases e;rfl)
  | (obtain⟨t,rfl⟩:=e;rfl)
theorem Wv:OpR X (compareOp .IsNot) (λx y H Q=>y=.non/\Q (.bl (!decide (x=.non))) H):=by
 intro d s σ H x y v u Q I e f h;obtain⟨rfl,q⟩:=h;cases f;refine isnot_none_gen (Bg I q ?_);cases x<;>first
  | (cases e;rfl)
  | (obtain⟨t,rfl⟩:=e;rfl)
theorem MC:OpR X (compareOp .NotIn) (λx y H Q=>∃i j,x=.str i/\y=.str j/\Q (.bl (!(!(Builtin.Str.occurrences j i 0 j.length 1).isEmpty))) H):=by
 intro f s σ H x y v u Q I g k h;refine AN h λi j d e q=>?_;clear h;subst d;subst e;obtain⟨t,rfl⟩:=g;obtain⟨t',rfl⟩:=k;exact notIn_str (Bg I q Z)
theorem AF(b:Expr)(h:d≠.In:=by decide)(g:d≠.NotIn:=by decide):behindInMarks d b=o6:=by
 have e:(d==CmpOp.In)=o6:=by cases d<;>first|rfl|exact absurd rfl h
 have f:(d==CmpOp.NotIn)=o6:=by cases d<;>first|rfl|exact absurd rfl g
 cases b<;>first|rfl|(unfold behindInMarks;dsimp only;rw[e,f,Bool.or_self,Bool.and_false,Bool.false_and])
theorem EU(l:OpR X (compareOp e) r)(i:PE X a ta)(j:PE X b tb)(k:behindInMarks e b=o6):PE X (.Compare a [e] [b] pos) (tOp r ta tb):=by
 intro d s σ H Q I h;exact wpAny_Compare1 (aDx i j I h λv u o x y f g m n q=>l d o σ f x y v u Q g m n q) k
def aDp(t:TE):TT:=fun σ H Q=>t σ H λx H'=>∃k,x=.bl k/\Q k H'
theorem AA(t:OpR X (compareOp f) r)(o:PE X a ta)(p:PE X b tb)(q:behindInMarks f b=o6):PT X (.Compare a [f] [b] pos) (aDp (tOp r ta tb)):=by
 intro d s σ H Q I h;refine wpAny_isTrue_Compare1 (thn (o d s σ H _ I h) λv F ⟨x,g,l,C,w⟩=>thn (p d F σ g _ l w) λu G ⟨y,i,m,D,A⟩ =>
  thn (t d G σ i x y v u _ m C D A) λc K ⟨z,j,n,E,k,e,B⟩=>?_) q
 subst e;cases E;exact A3d ⟨j,n,B⟩
def Zp(r r':R2)(ta tb tc:TE):TE:=fun σ H Q=>ta σ H λx H1=>tb σ H1 λy H2=>r x y H2 λz H3=>∃k,z=.bl k /\
 (if k=o5 then tc σ H3 λw' H4=>r' y w' H4 Q else Q (.bl o6) H3)
theorem ZV{j g:CmpOp}(K:OpR X (compareOp j) r)(i:OpR X (compareOp g) o)(D:PE X a ta)(E:PE X b tb)(F:PE X c tc)
  (G:lastMarks [j,g] [b,c]=o6:=by with_unfolding_all rfl):PE X (.Compare a [j,g] [b,c] pos) (Zp r o ta tb tc):=by
 intro f s σ H Q I h;refine Compare_chain (thn (D f s σ H _ I h) λv S ⟨x,q,A,O,L⟩=>chain_link (thn (E f S σ q _ A L) λu T ⟨y,t,B,p,M⟩ =>
  thn (K f T σ t x y v u _ B O p M) λd U ⟨z,l,m,P,k,e,n⟩=>?_)) G
 subst e;cases P;refine A3d ?_;cases k with
 |false=>exact ite_ff ⟨.bl o6,l,m,Z,n⟩
 |true=>exact ite_tt (chain_last (thn (F f U σ l _ m n) λW V ⟨Y,w,C,R,N⟩=>i f V σ w y Y u W Q C p R N))
theorem Pn{j g:CmpOp}(O:OpR X (compareOp j) r)(i:OpR X (compareOp g) o)(K:PE X a ta)(L:PE X b tb)(M:PE X c tc)
  (N:lastMarks [j,g] [b,c]=o6:=by with_unfolding_all rfl):PT X (.Compare a [j,g] [b,c] pos) (aDp (Zp r o ta tb tc)):=by
 intro f s σ H Q I h;refine isTrue_chain (thn (K f s σ H _ I h) λv s1 ⟨x,q,B,V,R⟩=>test_link (thn (L f s1 σ q _ B R) λu s2 ⟨y,t,C,p,S⟩ =>
  thn (O f s2 σ t x y v u _ C V p S) λd s3 ⟨z,l,m,W,k,e,n⟩=>?_)) N
 subst e;cases W;refine A3d ?_;cases k with
 |false =>
  refine xea n λk' F P=>?_;cases F;exact ite_ff ⟨l,m,P⟩
 |true =>
  refine ite_tt (test_last (thn (M f s3 σ l _ m n) λw' s4 ⟨z',w,D,Y,T⟩=>thn (i f s4 σ w y z' u w' _ D p Y T) λd' s5 ⟨z2,A,E,r5,k2,G,U⟩=>?_));subst G;cases r5;exact A3d ⟨A,E,U⟩
theorem NK:(sizeLine:Nat)<2^63:=by rw[sizeLine_eq];decide
theorem Pw:OpR X (binaryOp .Add) (λx y H Q=>∃i j,x=.str i/\y=.str j/\i.length+j.length<=sizeLine/\Q (.str (i++j)) H):=by
 intro f s σ H x y v u Q I k l h;refine CC h λi j d e g q=>?_;clear h;subst d;subst e;obtain⟨t,rfl⟩:=k;obtain⟨t',rfl⟩:=l;exact add_str (λt' tk=>⟨.str (i++j),H,I.tok _,⟨_,Z⟩,q⟩) g
theorem QR(r:AR [x] us):∃u,us=[u]/\Bf x u:=by
 cases r with
 |cons d e=>cases e;exact⟨_,Z,d⟩
theorem aDr(r:AR [x,y] us):∃u d,us=[u,d]/\Bf x u/\Bf y d:=by
 cases r with
 |cons e f =>
  cases f with
  |cons g h=>cases h;exact⟨_,_,Z,e,g⟩
theorem Rt(g:X.calm=o5):FE X (.builtin "max") (λxs H Q=>∃i j,xs=[.int i,.int j]/\Q (.int (if j > i then j else i)) H):=by
 intro f s σ H xs us Q I r h;refine BJ h λi j e q=>?_;clear h;subst e;obtain⟨u,l,rfl,⟨t,rfl⟩,⟨t',rfl⟩⟩:=aDr r;refine max_two_ints (I.ok.hd g) λh' tk k=>⟨_,H,I.kept k,?_,q⟩
 by_cases d:j > i
 .rw[A0e d,A0e d];exact⟨_,Z⟩
 .rw[A0c d,A0c d];exact⟨_,Z⟩
theorem NU(g:X.calm=o5):FE X (.builtin "min") (λxs H Q=>∃i j,xs=[.int i,.int j]/\Q (.int (if j<i then j else i)) H):=by
 intro f s σ H xs us Q I r h;refine BJ h λi j e q=>?_;clear h;subst e;obtain⟨u,l,rfl,⟨t,rfl⟩,⟨t',rfl⟩⟩:=aDr r;refine min_two_ints (I.ok.hd g) λh' tk k=>⟨_,H,I.kept k,?_,q⟩
 by_cases d:j<i
 .rw[A0e d,A0e d];exact⟨_,Z⟩
 .rw[A0c d,A0c d];exact⟨_,Z⟩
theorem Jp:FE X (.type "str") (λxs H Q=>∃i,xs=[.int i]/\i.natAbs.log2<1920/\Q (.str (toString i)) H):=by
 intro g s σ H xs us Q I r h;refine AS h λi d j q=>?_;clear h;subst d;refine xea (QR r) λu d e=>?_;refine xe e λt f=>?_;clear e;subst d;subst f;exact PySem.P.str_of_int j ⟨.str _,H,I.tok _,⟨_,Z⟩,q⟩
end
structure VR(h:T_)(x dx C:R_)(mA:C_):Prop where
obj:h.get? x=o3 (instObj C dx)
ns:h.Ns1 dx mA
ne:dx≠x
theorem YG{h:T_}{c:R_}{f:C_}(n:h.Ns1 c f):∃g,h.get? c=o3 g/\∀name,lookIn name g=o3 (f name):=by
 refine BV n λo d r m j k _ l=>⟨o,m,λname=>?_⟩
 have e:=l name;unfold nsFind findBy at e;rw[<-Array.find?_toList]at e;unfold lookIn;rw[j];dsimp only;split
 .rename_i y q;rw[q]at e;exact A2f o3 e
 .rename_i q;rw[q]at e;have a:d.toList.any (·.refKey)=o6:=by
   rw[List.any_eq_false];intro y p;refine xe2 (k y (Array.mem_toList_iff.mp p)) λz t b=>?_;simp[DictEntry.refKey,b]
  have i:¬d.toList.any (·.refKey)=o5:=by rw[a];exact D9
  rw[A0c i];exact A2f o3 e
theorem VR.look{c:C_}(I:VR h x b C c):∃a,W.InstAt h x (instObj C b) C (o3 a)/\∀name,lookIn name a=o3 (c name) :=
 let ⟨a,ho,hl⟩:=YG I.ns
 ⟨a,⟨I.obj,Z,Z,ho⟩,hl⟩
section
variable{prog:N_}{w:Q_}{A:Around}{E:B_}{s:P_}{K:O_}{x dx C f:R_}{mA:C_}{name:Str}{v:S_}
theorem aCE(X:K.In s.heap)(I:VR s.heap x dx C mA)(d:plainGet K C name=o5)(e:hasDictIn K C=o5)
  (c:findIn K (.ref C) name=o3 o4) (i:mA name=o3 v) (b:handedIn v=o5) (h:Q v {s with toks:=s.toks+1}) :
  wpAny (model prog w) A (getAttr (.ref x) name a) Q E s:=by
 exact xea I.look λj J g=>W.get_value X J (A9b d).1 (W.findObj_own e c Z (by rw[g,i])) b h
theorem aBE(X:K.In s.heap)(I:VR s.heap x dx C mA)(a:plainGet K C name=o5)
  (b:findIn K (.ref C) name=o3 (o3 (.ref f))) (d:isFn K (.ref f)=o5) (e:mA name=o4) (h:Q (.ref f,[.ref x]) s) :
  wpAny (model prog w) A (getMethod (.ref x) name pl) Q E s:=by
 exact xea I.look λg J c=>W.method_fn X J (A9b a).1 (A9b a).2 b (beq_iff_eq.mp d) (by show(lookIn name g).map (·.isSome)=o3 o6;rw[c,e];rfl) h
theorem aCw{ns:K_}(X:K.In s.heap)(I:VR s.heap x dx C mA)
  (p:findIn K (.ref C) "__setattr__" = o3 (o3 (.builtin "object.__setattr__"))) (o:plainOver K C=o5) (q:takerIn K C name=o3 o4) (n:hasDictIn K C=o5)
  (t:PySem.Within mA ns) (hsz:ns.length<=sizeLine)
  (h:∀h',VR h' x dx C (λy=>if y=name then o3 v else mA y)->Heap.SameBut dx s.heap h'->Q () {s with heap:=h',toks:=s.toks+2}) :
  wpAny (model prog w) A (setAttr (.ref x) name v) Q E s:=by
 refine xea I.look λF J B=>W.set_plain X J p (W.osa_open (s:={s with toks:=s.toks+1}) (r:=o4) X J o q λb=>?_);refine xea (any_some n) λz m g=>?_;have u:=I.obj;refine A0b (A0h (A0b (A0b (wpAny_loadPart u (A0b (W.Looks.here (s:={s with toks:=s.toks+1}) (W.looks_clsIn X m) ?_))))));rw[g];refine A0h (a:=o3 dx) (A0b (A0h (A0b ?_)));refine wpAny_nsSet1 (s:={s with toks:=s.toks+1}) I.ns λh' c d=>CL (c.count (PySem.Within.cons name v t)) λD l k j i e=>A0b (wpAny_lookBehind j (by rw[i];exact pastItsLine_dict (D0 e (by rw[D8];lia))) ?_);exact A0h (h _ ⟨(d.2 _ (A1b I.ne)).trans I.obj,c,I.ne⟩ d)
theorem aBX(X:K.In s.heap)(e:makesIn K C=o5)
  (hi:findIn K (.ref C) "__init__" = o3 (o3 (.ref f))) (c:W.typeIn K (.ref f)=o3 (.type "function"))
  (h:codeAny (model prog w) (A.under (.builtin "type.__call__" ⟨.ref C::vs,b⟩)) (.call (.ref f) ⟨.ref (s.heap.objs.size+1)::vs,b⟩) (W.InitBack (s.heap.objs.size+1) R)
   {s with heap:=(s.heap.push emptyDict).push (instObj C s.heap.objs.size)}) :
  codeAny (model prog w) A (.call (.ref C) ⟨vs,b⟩) R s:=by
 obtain⟨i,g,d,t,j⟩:=s;exact W.make_core (W.makes_of X e) (W.looks_findIn X hi) (λa=>W.bind_fn X a c) (.inl Z) h
end
noncomputable def AW(f:Str)(v:V):List (Str×V)->List (Str×V)
|[]=>[(f,v)]
| (g,x)::r=>if g=f then(g,v)::r else(g,x)::AW f v r
theorem Ak(f g:Str)(v:V):∀fs:List (Str×V),(AW f v fs).lookup g=if g=f then o3 v else fs.lookup g
|[]=>by
 show List.lookup g [(f,v)]=_;by_cases h:g=f
 .have a:=beq_iff_eq.mpr h;simp only[List.lookup,a,A0e h]
 .have a:=beq_eq_false_iff_ne.mpr h;simp only[List.lookup,a,A0c h]
| (k,x)::r=>by
 have c:=Ak f g v r;rw[show AW f v ((k,x)::r)=(if k=f then(k,v)::r else(k,x)::AW f v r)from rfl];by_cases b:k=f
 .rw[A0e b];by_cases h:g=k
  .have a:=beq_iff_eq.mpr h;simp only[List.lookup,a,A0e (h.trans b)]
  .have a:=beq_eq_false_iff_ne.mpr h;simp only[List.lookup,a,A0c (λe:g=f=>h (e.trans b.symm))]
 .rw[A0c b];by_cases h:g=k
  .have a:=beq_iff_eq.mpr h;simp only[List.lookup,a,A0c (λe:g=f=>b (h.symm.trans e))]
  .have a:=beq_eq_false_iff_ne.mpr h;simp only[List.lookup,a];exact c
theorem NL(f:Str)(v:V):∀fs:List (Str×V),f∈(AW f v fs).map (·.1)/\∀g,g∈fs.map (·.1)->g∈(AW f v fs).map (·.1)
|[]=>⟨by simp[AW],λg h=>by simp at h⟩
| (k,x)::r=>by
 obtain⟨b,c⟩:=NL f v r;rw[show AW f v ((k,x)::r)=(if k=f then(k,v)::r else(k,x)::AW f v r)from rfl];by_cases a:k=f
 .rw[A0e a];subst a;exact⟨by simp,λg h=>by simpa using h⟩
 .rw[A0c a];refine⟨?_,λg h=>?_⟩
  .rw[F5];exact C9 _ b
  .rw[F5]at h⊢;rcases C4.mp h with e|e
   .exact C4.mpr (.inl e)
   .exact C9 _ (c g e)
theorem BG(f:Str)(v:V):∀fs:List (Str×V),(AW f v fs).length<=fs.length+1
|[]=>by simp[AW]
| (k,x)::r=>by
 have b:=BG f v r;rw[show AW f v ((k,x)::r)=(if k=f then(k,v)::r else(k,x)::AW f v r)from rfl];by_cases a:k=f
 .rw[A0e a,D8,D8];lia
 .rw[A0c a,D8,D8];lia
theorem JC.some_of(r:JC (o3 v) o):∃u,o=o3 u/\Bf v u:=by
 cases o with
 |none=>exact(show False from r).elim
 |some u=>exact⟨u,Z,r⟩
theorem JC.none_of(r:JC o4 o):o=o4:=by
 cases o with
 |none=>rfl
 |some u=>exact(show False from r).elim
theorem YR(r:Bf v u):handedIn u=o5:=by
 cases v with
 |non=>cases(show u=Value.none from r);rfl
 |bl b=>cases(show u=Value.bool b from r);rfl
 |int i=>obtain⟨t,e⟩:=(show ∃t,u=Value.int i t from r);cases e;rfl
 |str x=>obtain⟨t,e⟩:=(show ∃t,u=Value.str x t from r);cases e;rfl
 |byt b=>obtain⟨t,e⟩:=(show ∃t,u=Value.bytes b t from r);cases e;rfl
 |flt b=>obtain⟨t,e⟩:=(show ∃t,u=Value.float b t from r);cases e;rfl
 |ref a=>cases(show u=Value.ref a from r);rfl
 |ty n=>cases(show u=Value.type n from r);rfl
section
variable{P:N_}{w:Q_}{H H':Hp}{h h':T_}{a C dx:R_}{fs fs':List (Str×V)}
theorem ON(c:HOk P w H h)(e:H a=o3 (.ins C dx fs)):∃b,VR h a dx C b/\(∀f,JC (fs.lookup f) (b f))/\PySem.Within b (fs.map (·.1))/\fs.length<=1000/\H dx=o3 (.own a):=by
 obtain⟨d,z,g,i,b,n,r,q⟩:=(show BQ P w H h a (.ins C dx fs)from c a _ e)
 exact⟨b,⟨i,n,g⟩,r,q,z,d⟩
end
structure Cls(K:O_)(C:R_):Prop where
pg:plainGet K C Str.empty=o5
hd:hasDictIn K C=o5
po:plainOver K C=o5
sa:findIn K (.ref C) "__setattr__" = o3 (o3 (.builtin "object.__setattr__"))
theorem Cls.get{K:O_}{C:R_}(c:Cls K C)(f:Str):plainGet K C f=o5:=c.pg
def BI(K:O_)(C:R_)(f:Str):Prop:=findIn K (.ref C) f=o3 o4
theorem BI.taker{K:O_}{C:R_}{f:Str}(n:BI K C f):takerIn K C f=o3 o4:=by
 unfold takerIn;rw[show findIn K (.ref C) f=o3 o4 from n];rfl
structure Qs(K:O_)(C:R_)(m:Str)(f:R_):Prop where
at_:findIn K (.ref C) m=o3 (o3 (.ref f))
fn:isFn K (.ref f)=o5
kp:keepIn K (.ref f)=o5
section
variable{X:Cx}{o0:A_}{σ:St}{H:Hp}{s:P_}{a C dx:R_}{fs:List (Str×V)}{f:Str}{v:V}{A:Around}{E:B_}
theorem VF(I:Inv X o0 σ H s)(e:H a=o3 (.ins C dx fs))(c:Cls X.K C)(n:BI X.K C f)(l:fs.lookup f=o3 v)
  (h:∀u i,Inv X o0 σ H i->Bf v u->Q u i):wpAny (model X.prog X.w) A (getAttr (.ref a) f b) Q E s:=by
 refine Dh (ON I.hok e) λk O r _ d=>?_;refine xa d λ_ _=>?_;exact xea (JC.some_of (v:=v) (o:=k f) (by rw[<-l];exact r f)) λu j g=>aCE I.kIn O (c.get f) c.hd n j (YR g) (h u _ (I.tok _) g)
theorem VE(I:Inv X o0 σ H s)(e:H a=o3 (.ins C dx fs))(c:Cls X.K C)(k:Qs X.K C m g)(l:fs.lookup m=o4)
  (h:Q (.ref g,[.ref a]) s):wpAny (model X.prog X.w) A (getMethod (.ref a) m pl) Q E s:=by
 refine Dh (ON I.hok e) λi O r _ b=>?_;refine xa b λ_ _=>?_;have d:=JC.none_of (by rw[<-l];exact r m);exact aBE I.kIn O (c.get m) k.at_ k.fn d h
theorem UX(I:Inv X o0 σ H s)(e:H a=o3 (.ins C dx fs))(c:Cls X.K C)(n:BI X.K C f)(L:fs.length<1000)(F:Bf y u)
  (h:∀m,Inv X o0 σ (upd H a (.ins C dx (AW f y fs))) m->Q () m):wpAny (model X.prog X.w) A (setAttr (.ref a) f u) Q E s:=by
 refine Dh (ON I.hok e) λl O r p i=>?_;refine xa i λ_ k=>?_;have D:(fs.map (·.1)).length<=sizeLine:=by rw[B8,sizeLine_eq];lia
 refine aCw I.kIn O c.sa c.po n.taker c.hd p D λh' d G=>h _ ?_;have j:∃o,h'.get? dx=o3 o:=let ⟨o,_,_,e',_⟩:=d.ns;⟨o,e'⟩;refine I.write (x:=a) (e:=dx) (by rw[e];exact True.intro) (.inr k) (λb q t z=>(G.2 b t).trans z) j ⟨by rw[Av O.ne];exact k,?_,O.ne,d.obj,_,d.ns,λg=>?_,λg B=>?_⟩
 .have:=BG f y fs;lia
 .show JC ((AW f y fs).lookup g) (if g=f then o3 u else l g);rw[Ak];by_cases q:g=f
  .rw[A0e q,A0e q];exact F
  .rw[A0c q,A0c q];exact r g
 .by_cases q:g=f
  .rw[q];exact(NL f y fs).1
  .refine(NL f y fs).2 g (p g λz=>B ?_);show(if g=f then o3 u else l g)=o4;rw[A0c q];exact z
theorem Inv.made(I:Inv X o0 σ H s):Inv X o0 σ (upd (upd H s.heap.objs.size (.own (s.heap.objs.size+1))) (s.heap.objs.size+1) (.ins C s.heap.objs.size []))
  {s with heap:=(s.heap.push emptyDict).push (instObj C s.heap.objs.size)}:=by
 have c:(s.heap.push emptyDict).get? s.heap.objs.size=o3 emptyDict:=F0 s.heap Z;have h:((s.heap.push emptyDict).push (instObj C s.heap.objs.size)).get? (s.heap.objs.size+1)=o3 (instObj C s.heap.objs.size):=by
  have:=F0 (s.heap.push emptyDict) (o:=instObj C s.heap.objs.size) Z
  rwa [O9]at this
 have i:(s.heap.push emptyDict).Ns s.heap.objs.size (λ_=>o4):=⟨emptyDict,#[],_,c,Z,(λe j=>absurd j B0),λ_=>Z⟩
 have g:=I.laid (a:=s.heap.objs.size) (o:=.own (s.heap.objs.size+1)) (h':=s.heap.push emptyDict) (t':=s.toks) (λb u q=>C2 _ q) (C0 _) ⟨_,c⟩;refine g.laid (a:=s.heap.objs.size+1) (o:=.ins C s.heap.objs.size []) (t':=s.toks) (λb u q=>C2 _ q) (K7 (O9 _ _)) ?_;have d:s.heap.objs.size≠s.heap.objs.size+1:=J8 (U3 _);refine⟨by rw[Av d,Af],J9 _,d,h,λ_=>o4,(Heap.Ns1.of_empty i).at λo q=>C2 _ q,λ_=>True.intro,λy k=>absurd rfl k⟩
theorem aB3{f:Str}{s:P_}(d:attributeBase e f b (eval e b)=eval e b)
  (h:wpAny (model prog w) A (eval e b) (λo c=>wpAny (model prog w) A (getAttr o f o5) Q E c) E s):wpAny (model prog w) A (eval (.Attribute e f pos) b) Q E s :=
 Attribute_any_ h (by rw[arm_eval_Attribute,d])
end
def aHB(K:O_)(ta:TE)(f:Str):TE:=fun σ H Q=>ta σ H λx H1=>∃a C dx fs v,x=.ref a/\H1 a=o3 (.ins C dx fs)/\Cls K C/\BI K C f/\fs.lookup f=o3 v/\Q v H1
def sFld(K:O_)(ta tv:TE)(f:Str):TS:=λD σ H=>tv σ H λy H1=>ta σ H1 λx H2=>∃a C dx fs,x=.ref a/\H2 a=o3 (.ins C dx fs)/\Cls K C/\BI K C f/\fs.length<1000 /\
 D.nx σ (upd H2 a (.ins C dx (AW f y fs)))
section
variable{X:Cx}{o e value:Expr}{f:Str}{pos pos' tpos:Pos}{ta tv:TE}
theorem AC(w:PE X e ta)(t:attributeBase e f X.env (eval e X.env)=eval e X.env):PE X (.Attribute e f pos) (aHB X.K ta f):=by
 intro b s σ H Q I h;refine aB3 t (thn (w b s σ H _ I h) λu B r=>?_);refine AN r λx i j z d=>?_;refine xe5 d λa C A fs v g=>?_;refine xa5 g λp m c n l q=>?_;subst p;obtain rfl:u=Value.ref a:=z;exact VF j m c n l λE D k y=>⟨v,i,k,y,q⟩
theorem CO(p:PE X o ta)(t:PE X value tv)(r:swapsWith value (o3 (.Attribute o f pos')) pos.line X.env=pure o6):PS X (.Assign [.Attribute o f pos'] value pos) (sFld X.K ta tv f):=by
 intro b s σ H D I h;refine plainObj_wpAny_Assign_Attribute (thn (t b s σ H _ I h) λu B ⟨y,d,g,A,q⟩=>thn (p b B σ d _ g q) λv G ⟨x,E,i,z,a,C,F,fs,m,k,c,n,l,w⟩=>?_) r;subst m;obtain rfl:v=Value.ref a:=z;exact UX i k c n l A λL j=>⟨σ,_,j,w⟩
end
section
variable{X:Cx}{o0:A_}{σ:St}{H:Hp}{s:P_}{A:Around}{E:B_}{Q:B_}{c:S_}{b:Bool}
inductive NX(K:O_)(H:Hp):V->Value->Prop where
|non:NX K H .non (.type "NoneType")
|bl (x:Bool):NX K H (.bl x) (.type "bool")
|int (i:Int):NX K H (.int i) (.type "int")
|str (x:Str):NX K H (.str x) (.type "str")
|flt (x:UInt64):NX K H (.flt x) (.type "float")
|lst {a:R_} {xs:List V} (e:H a=o3 (.lst xs)):NX K H (.ref a) (.type "list")
|frz {a:R_} {o:Obj} {xs:List V} (e:H a=o3 (.frz o (.lst xs))):NX K H (.ref a) (.type "list")
|tup {a:R_} {xs:List V} (e:H a=o3 (.tup xs)):NX K H (.ref a) (.type "tuple")
|dK {a:R_} {kvs:List (Key×V)} (e:H a=o3 (.dK kvs)):NX K H (.ref a) (.type "dict")
|dT {a:R_} {kvs:List (List Key×V)} (e:H a=o3 (.dT kvs)):NX K H (.ref a) (.type "dict")
|ins {a C dx:R_} {fs:List (Str×V)} (e:H a=o3 (.ins C dx fs)) (cl:Cls K C) (ha:findIn K (.ref C) "__class__" = o3 (o3 (.builtin "object.__class__")))
  (hn:specialIn K (.builtin "object.__class__") "__get__" = o3 (o3 (.builtin "getset_descriptor.__get__"))) (htk:takesIn K (.builtin "object.__class__")=o3 o5)
  (hm:mroIn K C (.type "object")=o3 o5):NX K H (.ref a) (.ref C)
theorem YN{u t:S_}(I:Inv X o0 σ H s)(f:Bf x u)(L:NX X.K H x t)(e:kitOne X.K t c=o3 b)(h:∀tk,Q (.bool b) {s with toks:=tk}) :
  wpAny (model X.prog X.w) A (call (.builtin "isinstance") [u,c]) Q E s:=by
 cases L with
 |non=>cases(show u=Value.none from f);exact A3c W.kitx_none I.kIn True.intro e (λz=>nomatch z) h
 |bl y=>cases(show u=Value.bool y from f);exact A3c W.kitx_bool I.kIn True.intro e (λz=>nomatch z) h
 |int i=>obtain⟨t,q⟩:=(show ∃t,u=Value.int i t from f);cases q;exact A3c W.kitx_int I.kIn True.intro e (λz=>nomatch z) h
 |str y=>obtain⟨t,q⟩:=(show ∃t,u=Value.str y t from f);cases q;exact A3c W.kitx_str I.kIn True.intro e (λz=>nomatch z) h
 |flt y=>obtain⟨t,q⟩:=(show ∃t,u=Value.float y t from f);cases q;exact A3c W.kitx_float I.kIn True.intro e (λz=>nomatch z) h
 |@lst a xs d =>
  cases(show u=Value.ref a from f);exact NZ (show BQ X.prog X.w H s.heap a (.lst xs)from I.hok a _ d) λ_ _ n _ g=>A3c kitx_list I.kIn ⟨_,g,Z⟩ e (λz=>nomatch z) h
 |@frz a G xs d =>
  cases(show u=Value.ref a from f);obtain⟨_,_,_,n,_,g⟩:=(show BQ X.prog X.w H s.heap a (.frz G (.lst xs))from I.hok a _ d)
  exact A3c kitx_list I.kIn ⟨_,g,Z⟩ e (λz=>nomatch z) h
 |@tup a xs d =>
  cases(show u=Value.ref a from f);exact Jy (show BQ X.prog X.w H s.heap a (.tup xs)from I.hok a _ d) λ_ _ _ p=>AS p λo g j _=>A3c W.kitx_tuple I.kIn ⟨o,g,j⟩ e (λz=>nomatch z) h
 |@dK a kvs d =>
  cases(show u=Value.ref a from f);exact CU (show BQ X.prog X.w H s.heap a (.dK kvs)from I.hok a _ d) λ_ _ vs _ p=>CL p λo v r g j _=>A3c kitx_dict I.kIn ⟨o,g,j.1⟩ e (λz=>nomatch z) h
 |@dT a kvs d =>
  cases(show u=Value.ref a from f);refine CU (show BQ X.prog X.w H s.heap a (.dT kvs)from I.hok a _ d) λ_ _ xs _ l=>?_;refine CL l λo v r g j _=>?_;exact A3c kitx_dict I.kIn ⟨o,g,j.1⟩ e (λz=>nomatch z) h
 |@ins a C M fs d m B F k D =>
  cases(show u=Value.ref a from f);exact xea (ON I.hok d) λN O _=>xea O.look λP J _=>A3c (W.kitx_own (m.get _) m.hd B F k D) I.kIn J e (λz=>nomatch z) h
end
structure Di(k:Nat)(A:Around):Prop where
hd:A.handled=o4
dp:A.depth+3*k+5<recursionLimit
un:A.units+16*k+200<cLine
theorem Di.mono{j k:Nat}(r:Di k A)(h:j<=k):Di j A:=⟨r.hd,by have:=r.dp;lia,by have:=r.un;lia⟩
theorem Di.deeper{k:Nat}(r:Di (k+1) A)(a:Env):Di k (A.deeper a) :=
 ⟨r.hd,by have:=r.dp;show A.depth+1+3*k+5<_;lia,by have:=r.un;show A.units+3+16*k+200<_;lia⟩
theorem Di.in1{k:Nat}(r:Di (k+1) A):Di k A.in1 :=
 ⟨r.hd,by have:=r.dp;show A.depth+3*k+5<_;lia,by have:=r.un;show A.units+1+16*k+200<_;lia⟩
theorem Vy{A:Around}{C:R_}{us:F_}{a:List (Str×Value)}:(A.under (.builtin "type.__call__" ⟨.ref C::us,a⟩)).depth=A.depth+1:=by
 first|rfl|simp[Around.under,Code.weight,Code.isCreation,Code.isGuard,Code.isCaller,Code.frames,Code.isFrame,guardIds]
theorem Vx{A:Around}{C:R_}{us:F_}{a:List (Str×Value)}:(A.under (.builtin "type.__call__" ⟨.ref C::us,a⟩)).units=A.units+1:=by
 first|rfl|simp[Around.under,Code.cUnits,Code.frames,Code.isFrame]
theorem Di.make{k:Nat}(r:Di (k+1) A)(C:R_)(us:F_)(a:List (Str×Value)):Di k (A.under (.builtin "type.__call__" ⟨.ref C::us,a⟩)) :=
 ⟨r.hd,by have:=r.dp;rw[Vy];lia,by have:=r.un;rw[Vx];lia⟩
theorem Di.depth{k:Nat}(r:Di k A):A.depth<recursionLimit:=by have:=r.dp;lia
theorem Di.units{k:Nat}(r:Di k A):A.units+64<cLine:=by have:=r.un;lia
def OV:TA:=λ_ H Q=>Q [] H
def CD(ta:TE)(tr:TA):TA:=fun σ H Q=>ta σ H λx H1=>tr σ H1 λxs H2=>Q (x::xs) H2
section
variable{X:Cx}{e:Expr}{es:List Expr}{te:TE}{t:TA}{pos:Pos}
theorem Ab:PA X [] OV:=λ_ _ _ _ H Q I h=>Calls.spliced_nil ⟨[],H,I,.nil,h⟩
theorem Aa(i:PE X e te)(j:PA X es t)(k:starEach (e::es) X.env=(o6,eval e X.env)::starEach es X.env:=by rfl):PA X (e::es) (CD te t):=by
 intro pos a s σ H Q I h;rw[k];show wpAny _ _ (spliced ((o6,eval e X.env)::backTo pos (starEach es X.env))) _ _ s;refine A8c (thn (i a s σ H _ I h) λu p b=>?_);exact AN b λx c f n l=>thn (j pos a p σ c _ f l) λus q b=>AN b λxs d g o m=>⟨x::xs,d,g,.cons n o,m⟩
def Yj(t:TA):TE:=fun σ H Q=>t σ H λxs H1=>xs.length<=sizeLine/\∀p,H1 p=o4->Q (.ref p) (upd H1 p (.tup xs))
def aC0(t:TA):TE:=fun σ H Q=>t σ H λxs H1=>xs.length<=sizeLine/\∀p,H1 p=o4->Q (.ref p) (upd H1 p (.lst xs))
theorem Dr{x1}(h:PA X es t):PE X (.Tuple es x1 pos) (Yj t):=by
 intro a s σ H Q I i;refine wpAny_Tuple_spliced (thn (h pos a s σ H _ I i) λus c ⟨xs,f,d,r,z,q⟩=>⟨by rw[<-r.length];exact z,?_⟩);have g:=d.hok.fresh (C0 _);refine⟨.ref c.heap.objs.size,upd f c.heap.objs.size (.tup xs),d.laid (t':=c.toks) (λb u e=>C2 _ e) (C0 _) ?_,Z,q _ g⟩;exact⟨z,us,r,⟨_,F0 _ Z,Z,_,Z⟩⟩
theorem Cp(h:PA X es t):PE X (.List es pos) (aC0 t):=by
 intro a s σ H Q I i;refine wpAny_List_spliced (thn (h pos a s σ H _ I i) λus c ⟨xs,f,d,r,z,q⟩=>⟨by rw[<-r.length];exact z,?_⟩);have g:=d.hok.fresh (C0 _);refine⟨.ref c.heap.objs.size,upd f c.heap.objs.size (.lst xs),d.laid (t':=c.toks) (λb u e=>C2 _ e) (C0 _) ?_,Z,q _ g⟩;exact⟨z,us,0,r,F0 _ Z⟩
end
abbrev Sp:=List V->Hp->VK->XK->Prop
abbrev CXT:=List Env->Hp->Shared->XK->Value->Shared->Prop
structure Oz(P:N_)(w:Q_)(K:O_)(mg:C_)(n9:T_)(A:Around)(outer:List Env)(s:P_)(H:Hp):Prop where
frames:A.frames=o3 outer
mod:Mod K mg n9
bs:∀b o,n9.get? b=o3 o->s.heap.get? b=o3 o/\H b=o4
bsz:n9.objs.size<=s.heap.objs.size
funs:s.heap.FunFrames n9 outer
frf:∀b∈frs outer,H b=o4
hok:HOk P w H s.heap
bare:AllBare s.gens
def CE(outer:List Env)(P:N_)(w:Q_)(H:Hp)(s:P_)(Q:VK)(u:S_)(s':P_):Prop :=
 ∃v H',s'.os=s.os/\AllBare s'.gens/\Un (frs outer) [] H H' s.heap s'.heap/\HOk P w H' s'.heap/\Bf v u/\Q v H'
def CR(CX:CXT)(outer:List Env)(P:N_)(w:Q_)(H:Hp)(s:P_)(Q:VK)(E:XK)(r:Result)(s':P_):Prop :=
 match r with
 |.ok (.ret u)=>CE outer P w H s Q u s'
 |.ok _=>False
 |.error e=>CX outer H s E e s'
structure AL(P:N_)(w:Q_)(K:O_)(mg:C_)(n9:T_)(CX:CXT)(k:Nat)(f:R_)(fd:E_)(ps:K_)(sp:Sp):Prop where
len:∀vs H Q E,sp vs H Q E->vs.length=ps.length
run:∀(A:Around)(outer:List Env)(s:P_)(H:Hp)(args:Args)(us:F_)(vs:List V)(Q:VK)(E:XK),Di k A->Oz P w K mg n9 A outer s H->BindsTo s fd args (ps.zip us)->AR vs us->sp vs H Q E ->
 codeAny (model P w) A (.call (.ref f) args) (CR CX outer P w H s Q E) s
theorem AL.imp{P:N_}{w:Q_}{K:O_}{mg:C_}{a:T_}{CX:CXT}{k:Nat}{f:R_}{e:E_}{g:K_}{sp d:Sp}(F:AL P w K mg a CX k f e g sp)
  (h:∀vs H Q E,d vs H Q E->sp vs H Q E):AL P w K mg a CX k f e g d :=
 ⟨λvs H Q E q=>F.len vs H Q E (h _ _ _ _ q),λA b s H c us vs Q E l j i n m=>F.run A b s H c us vs Q E l j i n (h _ _ _ _ m)⟩
theorem Oz.make{P:N_}{w:Q_}{K:O_}{mg:C_}{b:T_}{A:Around}{a:List Env}{s:P_}{H:Hp}(e:Oz P w K mg b A a s H)(C:R_)(us:F_)(c:List (Str×Value)) :
 Oz P w K mg b (A.under (.builtin "type.__call__" ⟨.ref C::us,c⟩)) a s H:=⟨by first|exact e.frames|(simpa[Around.under,Code.envs,Code.isFrame,pushEnvs] using e.frames),e.mod,e.bs,e.bsz,e.funs,e.frf,e.hok,e.bare⟩
theorem Oz.in1{P:N_}{w:Q_}{K:O_}{mg:C_}{b:T_}{A:Around}{a:List Env}{s:P_}{H:Hp}(e:Oz P w K mg b A a s H) :
 Oz P w K mg b A.in1 a s H:=⟨e.frames,e.mod,e.bs,e.bsz,e.funs,e.frf,e.hok,e.bare⟩
section
variable{X:Cx}{o0:A_}{σ:St}{H:Hp}{s s':P_}
theorem Inv.env0(I:Inv X o0 σ H s):Oz X.prog X.w X.K X.mg X.n9 X.A X.stack s H :=
 ⟨I.ok.frames,I.ok.mod,I.bs,D0 I.ok.bsz I.sz,I.stack,I.stkFree,I.hok,I.bare⟩
theorem Inv.after(I:Inv X o0 σ H s)(h:CE X.stack X.prog X.w H s Q u s'):EP X o0 σ Q u s':=by
 refine CB h λv i f bare un a e=>?_;refine xa e λr q=>?_;obtain⟨j,g,d,t,c⟩:=s';obtain rfl:c=s.os:=f;exact⟨v,i,I.call (h':=j) (g':=g) (d':=d) (t':=t) (ch:=[]) un a bare (λb z=>absurd z B0),r,q⟩
end
def aDn(sp:Sp)(dvs:List V)(E:XK)(t:TA):TE:=fun σ H Q=>t σ H λvs H1=>sp (vs++dvs) H1 Q E
def VY(C:R_)(m:Str)(sp:Sp)(dvs:List V)(E:XK)(ta:TE)(t:TA):TE:=fun σ H Q=>ta σ H λx H1=>∃a dx fs,x=.ref a/\H1 a=o3 (.ins C dx fs)/\fs.lookup m=o4 /\
 t σ H1 λvs H2=>sp (x::(vs++dvs)) H2 Q E
def VZ(C:R_)(sp:Sp)(dvs:List V)(E:XK)(t:TA):TE:=fun σ H Q=>t σ H λvs H1=>∀x dx,H1 x=o4->H1 dx=o4->dx≠x ->
 sp (.ref x::(vs++dvs)) (upd (upd H1 dx (.own x)) x (.ins C dx [])) (λv H2=>v=.non/\Q (.ref x) H2) E
def CM(K:O_)(fd:E_)(ps:K_)(ds:F_):Prop :=
 ∀(s:P_)(us:F_),K.In s.heap->(us++ds).length=ps.length->BindsTo s fd ⟨us,[]⟩ (ps.zip (us++ds))
theorem CM.all{K:O_}{b:E_}{a:K_}(h:∀us:List Value,us.length=a.length->bindArgs b ⟨us,[]⟩=pure (a.zip us)):CM K b a []:=λs us _ c=>by
 rw[S0]at c⊢;exact .of_eq (h us c)
def GB(CX:CXT)(X:Cx)(E:XK):Prop:=∀(o0:A_)(σ:St)(H:Hp)(s:P_)(e:S_)(s':P_),Inv X o0 σ H s->CX X.stack H s E e s'->X.xe e s'
section
variable{X:Cx}{CX:CXT}{k:Nat}{f C:R_}{fd:E_}{ps:K_}{sp:Sp}{dvs:List V}{ds:F_}{E:XK}{x m:Str}{p pos apos:Pos}{e o:Expr}{es:List Expr}{ta:TE}{t:TA}
theorem ZN(F:AL X.prog X.w X.K X.mg X.n9 CX k f fd ps sp)(l:Di k X.A)(g:CM X.K fd ps ds)(i:AR dvs ds)(n:GB CX X E)
  (I:Inv X a σ H s) (r:AR vs us) (h:sp (vs++dvs) H Q E):wpAny (model X.prog X.w) X.A (call (.ref f) us) (EP X a σ Q) X.xe s:=by
 have c:=r.append i;have j:(us++ds).length=ps.length:=by rw[<-c.length];exact F.len _ _ _ _ h
 refine wpAny_call (A9c (F.run X.A X.stack s H ⟨us,[]⟩ (us++ds) (vs++dvs) Q E l I.env0 (g s us I.kIn j) c h) λr q b=>?_);cases r with
 |error e=>exact n a σ H s e q I b
 |ok d =>
  cases d with
  |ret u=>exact I.after b
  |next=>exact False.elim b
  |brk=>exact False.elim b
  |cont=>exact False.elim b
theorem aCm(F:AL X.prog X.w X.K X.mg X.n9 CX k f fd ps sp)(y:Di k X.A)(n:Gl X x)(v:X.mg x=o3 (.ref f))(u:keepIn X.K (.ref f)=o5)(i:CM X.K fd ps ds)(j:AR dvs ds)(z:GB CX X E)
  (g:PA X (e::es) t) (b:(x==("__debug__" : Str))=o6:=by decide) (l:starEach (e::es) X.env=(o6,eval e X.env)::starEach es X.env:=by rfl) (c:(backTo pos (starEach es X.env)).any (·.1)=o6:=by rfl) :
  PE X (.Call (.Name x p) (e::es) [] pos) (aDn sp dvs E t):=by
 intro a s σ H Q I h;refine A5f (OL I n v ?_ b);refine A9h (h₀:=X.n9) I.ok.mod.kin u (thn (g pos a s σ H _ I h) λus D ⟨vs,B,d,r,q⟩=>⟨d.kIn,?_⟩) l c;exact ZN F y i j z d r q
theorem aCp(O:PE X o ta)(c:Cls X.K C)(v:Qs X.K C m f)(F:AL X.prog X.w X.K X.mg X.n9 CX k f fd ps sp)(P:Di k X.A)(M:CM X.K fd ps ds)(N:AR dvs ds)(S:GB CX X E)(L:PA X (e::es) t)
  (g:starEach (e::es) X.env=(o6,eval e X.env)::starEach es X.env:=by rfl) (d:(backTo pos (starEach es X.env)).any (·.1)=o6:=by rfl)
  (R:eval (.Call (.Attribute o m apos) (e::es) [] pos) X.env=(do
   let y <-eval o X.env
   standAt apos.atName
   let (f,first) <-holding [y] (getMethod y m pl)
   callWith pos f first (backTo pos (starEach (e::es) X.env)) (backToKw pos (keywordEach [] X.env))):=by rfl) :
  PE X (.Call (.Attribute o m apos) (e::es) [] pos) (VY C m sp dvs E ta t):=by
 intro b s σ H Q I h;refine W.methodCall_KW (pl:=pl) (thn (O b s σ H _ I h) λu V G=>?_) R;refine AN G λx z j U i=>?_;refine Fz i λa dx fs D B l q=>?_;subst D;obtain rfl:u=Value.ref a:=U;refine VE j B c v l (A9h (first:=[.ref a]) (h₀:=X.n9) I.ok.mod.kin v.kp (thn (L pos b V σ z _ j q) λus s2 ⟨vs,Y,n,r,T⟩=>⟨n.kIn,?_⟩) g d);exact ZN (us:=.ref a::us) (vs:=.ref a::vs) F P M N S n (.cons Z r) T
structure Mk(K:O_)(C f:R_):Prop where
makes:makesIn K C=o5
init:findIn K (.ref C) "__init__" = o3 (o3 (.ref f))
fn:isFn K (.ref f)=o5
kp:keepIn K (.ref C)=o5
theorem Tu(M:Mk X.K C f)(F:AL X.prog X.w X.K X.mg X.n9 CX k f fd ps sp)(G:Di (k+1) X.A)(z:CM X.K fd ps ds)(B:AR dvs ds)
  (L:GB CX X E) (I:Inv X b σ H s) (r:AR vs us)
  (h:∀x d,H x=o4->H d=o4->d≠x->sp (.ref x::(vs++dvs)) (upd (upd H d (.own x)) x (.ins C d [])) (λv l=>v=.non/\Q (.ref x) l) E) :
  wpAny (model X.prog X.w) X.A (call (.ref C) us) (EP X b σ Q) X.xe s:=by
 have g:=h (s.heap.objs.size+1) s.heap.objs.size (I.hok.fresh (S7 _)) (I.hok.fresh (C0 _)) (J8 (U3 _));have c:=Inv.made (C:=C) I;have i:AR (V.ref (s.heap.objs.size+1)::(vs++dvs)) (Value.ref (s.heap.objs.size+1)::(us++ds)):=.cons Z (r.append B);have D:(Value.ref (s.heap.objs.size+1)::us++ds).length=ps.length:=by
  have e:=i.length;rw[F.len _ _ _ _ g]at e;exact e.symm
 refine wpAny_call (aBX (f:=f) I.kIn M.makes M.init (beq_iff_eq.mp M.fn) (A9c (F.run _ X.stack _ _ ⟨Value.ref (s.heap.objs.size+1)::us,[]⟩ (Value.ref (s.heap.objs.size+1)::(us++ds)) _ _ E (G.make C us [])
  (c.env0.make C us []) (z _ (Value.ref (s.heap.objs.size+1)::us) c.kIn D) i g) λr P a=>?_))
 cases r with
 |error e=>exact L b σ _ _ e P c a
 |ok y =>
  cases y with
  |ret u =>
   refine CC (c.after a) λv j n O q N=>?_;subst q;exact⟨O,⟨V.ref (s.heap.objs.size+1),j,n,Z,N⟩⟩
  |next=>exact False.elim a
  |brk=>exact False.elim a
  |cont=>exact False.elim a
theorem aCo(M:Mk X.K C f)(F:AL X.prog X.w X.K X.mg X.n9 CX k f fd ps sp)(v:Di (k+1) X.A)(n:Gl X x)(u:X.mg x=o3 (.ref C))(i:CM X.K fd ps ds)(j:AR dvs ds)(y:GB CX X E)
  (g:PA X (e::es) t) (b:(x==("__debug__" : Str))=o6:=by decide) (l:starEach (e::es) X.env=(o6,eval e X.env)::starEach es X.env:=by rfl) (c:(backTo pos (starEach es X.env)).any (·.1)=o6:=by rfl) :
  PE X (.Call (.Name x p) (e::es) [] pos) (VZ C sp dvs E t):=by
 intro a s σ H Q I h;refine A5f (OL I n u ?_ b);refine A9h (h₀:=X.n9) I.ok.mod.kin M.kp (thn (g pos a s σ H _ I h) λus B ⟨vs,z,d,r,q⟩=>⟨d.kIn,?_⟩) l c;exact Tu M F v i j y d r q
theorem ZU(M:Mk X.K C f)(F:AL X.prog X.w X.K X.mg X.n9 CX k f fd ps sp)(j:Di (k+1) X.A)(g:Gl X x)(i:X.mg x=o3 (.ref C))(c:CM X.K fd ps ds)(d:AR dvs ds)(l:GB CX X E)
  (a:(x==("__debug__" : Str))=o6:=by decide):PE X (.Call (.Name x p) [] [] pos) (VZ C sp dvs E OV):=by
 intro b s σ H Q I h;refine A5f (OL I g i ?_ a);exact W.callWith_K0 I.kIn M.kp (Tu (us:=[]) M F j c d l I .nil h)
end
def PK(X:Cx)(kws:List Keyword)(t:TA):Prop :=
 ∀(pos:Pos)(o0:A_)(s:P_)(σ:St)(H:Hp)(Q:List V->Hp->Prop),Inv X o0 σ H s->t σ H Q->wpAny (model X.prog X.w) X.A (evalAll ((backToKw pos (keywordEach kws X.env)).map (·.2))) (AP X o0 σ Q) X.xe s
section
variable{X:Cx}{CX:CXT}{k:Nat}{f C:R_}{fd:E_}{ps ks:K_}{sp:Sp}{E:XK}{x m:Str}{p pos apos kpos:Pos}{e o:Expr}{es:List Expr}{kws:List Keyword}{te ta:TE}{t tk:TA}{nm:Option Str}
theorem aEz:PK X [] OV:=λ_ _ _ _ H Q I h=>wpAny_evalAll_nil ⟨[],H,I,.nil,h⟩
theorem aCq(j:PE X e te)(l:PK X kws t):PK X (⟨nm,e,kpos⟩::kws) (CD te t):=by
 intro pos a s σ H Q I h;show wpAny _ _ (evalAll ((do let v <-eval e X.env;standAt pos;pure v)::(backToKw pos (keywordEach kws X.env)).map (·.2))) _ _ s;refine wpAny_evalAll_cons (A0b (thn (j a s σ H _ I h) λu y ⟨x,b,d,r,n⟩=>A0b (B0e (A0h ?_))));exact thn (l pos a y σ b _ d n) λus z i=>AN i λxs c g w q=>⟨x::xs,c,g,.cons r w,q⟩
variable{g:List Value->List Value->List Value}{gV:List V->List V->List V}
end
structure Au(N P:K_)(sc:Scope):Prop where
kind:sc.kind=.function
co:sc.isCoroutine=o6
gen:sc.isGenerator=o6
nd:N.Nodup
pre:N.take P.length=P
par:∀x∈P,sc.names.lookup x=o3 .local\/sc.names.lookup x=o3 .cell
nofree:∀y∈sc.names,y.2≠.free
theorem Rv{a:Str->Option NameKind}{x:Str}:∀{binds:List (Str×Value)}{m:C_},(∀v,(x,v)∉binds)->bindL a binds m x=m x
|[],_,_=>rfl
| (n,v)::r,m,h=>by
 unfold bindL;rw[Rv λw b=>h w (C9 _ b)];split
 .have:x≠n:=by rintro rfl;exact h v C8
  simp[this]
 .rfl
theorem Rx{a:Str->Option NameKind}{x:Str}:∀{binds:List (Str×Value)}{m:C_},(∀v,(x,v)∉binds)->bindC a binds m x=m x
|[],_,_=>rfl
| (n,v)::r,m,h=>by
 unfold bindC;rw[Rx λw b=>h w (C9 _ b)];split
 .rfl
 .have:x≠n:=by rintro rfl;exact h v C8
  simp[this]
theorem Rw{a:Str->Option NameKind}{x:Str}{v:S_}:∀{P:K_}{vs:F_}{i:Nat}{m:C_},P.Nodup->P[i]?=o3 x->vs[i]?=o3 v->a x=o3 .local ->
 bindL a (P.zip vs) m x=o3 v
|[],_,_,_,_,h,_,_=>by simp at h
|_::_,[],_,_,_,_,h,_=>by simp at h
|p::P,w::vs,0,m,nd,h1,h2,hk=>by
 simp at h1 h2;subst h1;subst h2;show bindL a ((p,w)::P.zip vs) m p=_;unfold bindL;rw[Rv λv b=>(O0.mp nd).1 (List.of_mem_zip b).1,A0e hk];simp
|p::P,w::vs,i+1,m,nd,h1,h2,hk=>by
 show bindL a ((p,w)::P.zip vs) m x=_;unfold bindL;exact Rw (i:=i) (O0.mp nd).2 (by simpa using h1) (by simpa using h2) hk
theorem Ry{a:Str->Option NameKind}{x:Str}{v:S_}:∀{P:K_}{vs:F_}{i:Nat}{m:C_},P.Nodup->P[i]?=o3 x->vs[i]?=o3 v->a x≠o3 .local ->
 bindC a (P.zip vs) m x=o3 v
|[],_,_,_,_,h,_,_=>by simp at h
|_::_,[],_,_,_,_,h,_=>by simp at h
|p::P,w::vs,0,m,nd,h1,h2,hk=>by
 simp at h1 h2;subst h1;subst h2;show bindC a ((p,w)::P.zip vs) m p=_;unfold bindC;rw[Rx λv b=>(O0.mp nd).1 (List.of_mem_zip b).1,A0c hk];simp
|p::P,w::vs,i+1,m,nd,h1,h2,hk=>by
 show bindC a ((p,w)::P.zip vs) m x=_;unfold bindC;exact Ry (i:=i) (O0.mp nd).2 (by simpa using h1) (by simpa using h2) hk
noncomputable def Oa(N:K_)(vs:List V):St:=vs.map o3++List.replicate (N.length-vs.length) o4
noncomputable def YX(CX:CXT)(P:N_)(w:Q_)(K:O_)(mg:C_)(n9:T_)(N:K_)(qual:Str)(scope:Scope)(f:R_)(cd:S_)(A:Around)(outer:List Env)(s:P_)(H:Hp)(E:XK):Cx where
 prog:=P
 w:=w
 K:=K
 mg:=mg
 n9:=n9
 A:=A.deeper (envOfC qual scope s.heap.objs.size f cd)
 N:=N
 s₀:=s
 H₀:=H
 env:=envOfC qual scope s.heap.objs.size f cd
 outer:=outer
 stack:=envOfC qual scope s.heap.objs.size f cd::outer
 ex:=[]
 calm:=o5
 fn:=λ_=>o5
 pn:=[]
 xe:=λe s'=>wpAny (model P w) (A.deeper (envOfC qual scope s.heap.objs.size f cd)) (leaving (envOfC qual scope s.heap.objs.size f cd) e) (λ_ s''=>CX outer H s E e s'') (λe' s''=>CX outer H s E e' s'') s'
theorem Uz{a:Scope}{n:Nat}{x:Str}(h:a.names.lookup x=o3 .cell):∃c,(cellsFrom n a.names []).lookup x=o3 c:=by
 have q:=W.cellsFrom_some a.names n [] (.inl h);exact Option.isSome_iff_exists.mp q
theorem YO{CX:CXT}{P:N_}{w:Q_}{K:O_}{mg:C_}{m:T_}{N C:K_}{j:Str}{d:Scope}{f:R_}{G:S_}{A:Around}{g:List Env}{s Q:P_}{H:Hp}{E:XK}{us:F_}{vs:List V}
  (S:Au N C d) (T:A.handled=o4) (o:Oz P w K mg m A g s H) (hl:vs.length=C.length) (r:AR vs us)
  (x:InCallC s s.heap.objs.size (bindL (envOfC j d s.heap.objs.size f G).kindOf (C.zip us) λ_=>o4) (cellsFrom (s.heap.objs.size+1) d.names []) (bindC (envOfC j d s.heap.objs.size f G).kindOf (C.zip us) λ_=>o4) Q) :
  Inv (YX CX P w K mg m N j d f G A g s H E) [] (Oa N vs) H Q:=by
 have U:C.length<=N.length:=by have:=A2f List.length S.pre;rw[J3]at this;lia
 refine BJ x.done λI tk L M=>?_;subst L;have B:∀b:Addr,b∉(YX CX P w K mg m N j d f G A g s H E).ex:=λb z=>absurd (show b∈([]:H_)from z) B0;refine⟨⟨o.mod,S.kind,Z,Z,C0 _,λy z c I l=>?_,λy t=>?_,λy c _ h=>?_,λ_=>T,Around.frames_deeper o.frames,.inr ⟨Z,Z⟩,λb z=>absurd z (B b),o.bs,o.bsz,λb _ _=>B b,λb z=>absurd z (B b),o.funs,o.frf⟩,
  rfl,o.bare,Un.kept M,⟨_,x.toInCall.ns,λi y v I l Y=>?_⟩,λy c h=>⟨_,x.cell y c h⟩,o.hok.fresh (C0 _),λy c h=>?_,λp D=>absurd (show p∈([]:A_)from D) B0,o.hok.kept M,?_⟩
 .exact name_of_addr x.apart (A3h I) (A3h l)
 .have t:=t;rcases t with t|t
  .exact Uz t
  .exact absurd Z (S.nofree _ (A3h t))
 .exact N8 (x.above y c (A3h h))
 .have hi:i<vs.length:=by
   unfold Oa at l;by_cases hi:i<vs.length
   .exact hi
   .rw[J0 (by simpa using hi)]at l;rw[Y7]at l;split at l<;>cases l
  have R:vs[i]?=o3 v:=by
   unfold Oa at l;rw[M5 (by simpa using hi),C1]at l;cases e:vs[i]? with
   |none=>rw[e]at l;cases l
   |some a=>rw[e]at l;cases l;rfl
  refine xea (r.get R) λu O X=>?_;have D:C[i]?=o3 y:=by
   rw[<-S.pre,W7 A0];exact I
  have F:C.Nodup:=by rw[<-S.pre];exact S.nd.sublist (List.take_sublist _ _)
  refine⟨u,X,?_⟩;rcases S.par y (D5 D)with k|k
  .exact .inl ⟨k,Rw F D O k⟩
  .obtain⟨c,e⟩:=Uz (n:=s.heap.objs.size+1) k;refine .inr ⟨.inl k,c,e,?_⟩;have q:=x.cell y c e;rw[Ry F D O (by show d.names.lookup y≠_;rw[k];decide)]at q;exact q
 .exact o.hok.fresh (N8 (x.above y c (A3h h)))
 .unfold Oa;show _=N.length;rw[C6,B8,Q6];lia
theorem aGB{CX:CXT}{P:N_}{w:Q_}{K:O_}{mg:C_}{g:T_}{k:Nat}{f:R_}{name d:Str}{i:Arguments}{j:List Stmt}{a:Scope}{dV kV B pm h ct oc:S_}{X od:Option Addr}
  {O:Array (Option Value)} {N F:K_} {sp:Sp} (lk:K.lookup f=o3 ⟨oc,od,.func (W.fnOf name d i j a dV kV B pm X h ct),O⟩) (G:W.codeIn K h d=o5) (S:Au N F a)
  (len:∀vs H Q E,sp vs H Q E->vs.length=F.length)
  (m:∀(A:Around)(c:List Env)(s:P_)(H:Hp)(vs:List V)(Q:VK)(E:XK),Di k (A.deeper (envOfC d a s.heap.objs.size f h))->sp vs H Q E ->
   ∃t,PSs (YX CX P w K mg g N d a f h A c s H E) j t/\t {nx:=λ_ l=>Q .non l,rt:=Q} (Oa N vs) H) :
  AL P w K mg g CX (k+1) f (W.fnOf name d i j a dV kV B pm X h ct) F sp:=by
 refine⟨len,λA c s H Y us vs Q E L C hb r D=>?_⟩;have hl:=len _ _ _ _ D;have U:=C.mod.kin.keeps λb o e=>(C.bs b o e).1;have M:=C.mod.nolimit.keeps λb o e=>(C.bs b o e).1;have p:∀y∈F.zip us,a.names.lookup y.1=o3 .local\/(a.names.lookup y.1=o3 .cell/\((cellsFrom (s.heap.objs.size+1) a.names []).lookup y.1).isSome=o5):=λ⟨n,v⟩ hy=>by
  rcases S.par n (List.of_mem_zip hy).1 with q|q
  .exact .inl q
  .exact .inr ⟨q,W.cellsFrom_some _ _ _ (.inl q)⟩
 refine codeAny_call_function L.depth (U _ _ lk) Z S.co S.gen Z (W.codeRec_of U G) (hb _ _ _ _ ?_);refine wpAny_newFunctionEnv_cells S.kind p λaa he s1 x=>?_;subst he;refine⟨M.keeps x.toInCall.keep,codeAny_func ?_⟩;refine xea (m A c s H vs Q E (L.deeper _) D) λt ht hq=>?_;have I:Inv (YX CX P w K mg g N d a f h A c s H E) [] (Oa N vs) H s1:=YO S L.hd C hl r x;refine A3e (ht [] s1 (Oa N vs) H _ I hq) (λfl T z=>?_) λe T z=>z;have fin:∀{σ':St}{l:Hp}{v:V}{u:S_},Inv (YX CX P w K mg g N d a f h A c s H E) [] σ' l T->Bf v u->Q v l->CE c P w H s Q u T :=
  λ{σ' l v u} J R q=>⟨v,l,J.os,J.bare,J.n9,J.hok,R,q⟩
 cases fl with
 |ret u =>
  exact CL z λv σ' l J R q=>fin J R q
 |next =>
  exact BJ z fun σ' l J q=>fin (v:=V.non) (u:=Value.none) J Z q
 |brk =>
  exact BJ z λ_ _ _ q=>False.elim q
 |cont =>
  exact BJ z λ_ _ _ q=>False.elim q
section
variable{X:Cx}{x:Str}{p pos:Pos}{e:Expr}{es:List Expr}{t:TA}{id T:String}{r:List V->Hp->VK->Prop}
def tCB(r:List V->Hp->VK->Prop)(t:TA):TE:=fun σ H Q=>t σ H λvs H1=>r vs H1 Q
theorem AH(i:FE X (.builtin id) r)(k:Gl X x)(l:X.mg x=o4)(n:bootBuiltins x=o3 (.builtin id))(g:PA X (e::es) t)(m:x≠"__name__" := by decide)(b:(x==("__debug__" : Str))=o6:=by decide)
  (j:starEach (e::es) X.env=(o6,eval e X.env)::starEach es X.env:=by rfl) (c:(backTo pos (starEach es X.env)).any (·.1)=o6:=by rfl):PE X (.Call (.Name x p) (e::es) [] pos) (tCB r t):=by
 intro a s σ H Q I h;refine A5f (Lh I k l n ?_ m b);exact PyProof.Rows.callWith_builtin1 (thn (g pos a s σ H _ I h) λus u ⟨vs,d,f,q,o⟩=>i a u σ d vs us Q f q o) j c
theorem BH(i:FE X (.type T) r)(k:Gl X x)(l:X.mg x=o4)(n:bootBuiltins x=o3 (.type T))(g:PA X (e::es) t)(m:x≠"__name__" := by decide)(b:(x==("__debug__" : Str))=o6:=by decide)
  (j:starEach (e::es) X.env=(o6,eval e X.env)::starEach es X.env:=by rfl) (c:(backTo pos (starEach es X.env)).any (·.1)=o6:=by rfl):PE X (.Call (.Name x p) (e::es) [] pos) (tCB r t):=by
 intro a s σ H Q I h;refine A5f (Lh I k l n ?_ m b);exact A4b (thn (g pos a s σ H _ I h) λus u ⟨vs,d,f,q,o⟩=>i a u σ d vs us Q f q o) j c
end
end L2
namespace HT
open PySem PyProof.Rows
section
variable{prog:N_}{w:Q_}{A:Around}{E:B_}{s:P_}
noncomputable def sIx(n d:Nat):Option Int->Nat
|none=>d
|some v=>if v<0 then(v+(n:Int)).toNat else min v.toNat n
end
end HT
namespace L2
open PySem PySem.Spec PyProof.Rows
abbrev TO:=St->Hp->(Option Int->Hp->Prop)->Prop
def PO(X:Cx)(e:Option Expr)(t:TO):Prop :=
 ∀(o0:A_)(s:P_)(σ:St)(H:Hp)(Q:Option Int->Hp->Prop),Inv X o0 σ H s->t σ H Q ->
  wpAny (model X.prog X.w) X.A (evalPart e X.env) (λu s'=>∃o H',Inv X o0 σ H' s'/\IsPart u o/\Q o H') X.xe s
def aC1:TO:=λ_ H Q=>Q o4 H
def aHE(t:TE):TO:=fun σ H Q=>t σ H λx H1=>∃i,x=.int i/\Q (o3 i) H1
section
variable{X:Cx}{e:Expr}{te:TE}{lo hi:Option Expr}{tl th:TO}{pos p2:Pos}
theorem aCr:PO X o4 aC1:=by
 intro a s σ H Q I h;rw[evalPart_none];exact A0h ⟨o4,H,I,.none,h⟩
theorem RV(h:PE X e te):PO X (o3 e) (aHE te):=by
 intro a s σ H Q I j;rw[evalPart_some];refine thn (h a s σ H _ I j) λu l g=>AN g λx d f k c=>?_;refine xea c λi b q=>?_;clear c;subst b;obtain⟨t,rfl⟩:=k;exact⟨o3 i,d,f,.int i t,q⟩
def SlR(X:Cx)(r:V->Option Int->Option Int->Hp->VK->Prop):Prop :=
 ∀(o0:A_)(s:P_)(σ:St)(H:Hp)(x:V)(v vl vu:S_)(lo hi:Option Int)(sl:R_)(Q:VK),Inv X o0 σ H s->Bf x v->s.heap.IsSliceOf sl vl vu .none->IsPart vl lo->IsPart vu hi->r x lo hi H Q ->
  ∃T id,typeLookup (.type T) "__getitem__" = pure (o3 (.builtin id))/\s.TypeIs v T/\wpAny (model X.prog X.w) X.A (getItem v (.ref sl)) (EP X o0 σ Q) X.xe s
def tSl(r:V->Option Int->Option Int->Hp->VK->Prop)(te:TE)(tl th:TO):TE:=fun σ H Q=>te σ H λx H1=>tl σ H1 λl H2=>th σ H2 λu H3=>r x l u H3 Q
theorem TJ{r:V->Option Int->Option Int->Hp->VK->Prop}(C:SlR X r)(y:PE X e te)(B:PO X lo tl)(E:PO X hi th):PE X (.Subscript e (.Slice lo hi o4 p2) pos) (tSl r te tl th):=by
 intro a s σ H Q I h;refine Subscript_ (thn (y a s σ H _ I h) λv N t=>?_);refine AN t λx i k M G=>wpAny_Slice (thn (B a N σ i _ k G) λd O ⟨l,j,m,pl,K⟩=>thn (E a O σ j _ m K) λf c ⟨u,g,n,F,L⟩=>?_);rw[evalPart_none];refine A0h ?_;have o:Inv X a σ g {c with heap:=c.heap.push {cls:=.type "slice",data:=.fields #[d,f,.none]} }:=n.kept (t':=c.toks) λb P q=>C2 _ q;refine AN (C a {c with heap:=c.heap.push {cls:=.type "slice",data:=.fields #[d,f,.none]} } σ g x v d f l u c.heap.objs.size Q o M (Heap.IsSliceOf.new ..) pl F L) λT id p D z=>?_;show wpAny (model X.prog X.w) X.A (subscriptTail e (.Slice lo hi o4 p2) v (.ref c.heap.objs.size)) (EP X a σ Q) X.xe {c with heap:=c.heap.push {cls:=.type "slice",data:=.fields #[d,f,.none]} };exact tail_any (ops:=[.ref c.heap.objs.size,v]) D p z (by with_unfolding_all rfl)
noncomputable def VL(xs:List V)(lo hi:Option Int):List V:=(xs.drop (HT.sIx xs.length 0 lo)).take (HT.sIx xs.length xs.length hi-HT.sIx xs.length 0 lo)
theorem Ut(xs:List V)(lo hi:Option Int):(VL xs lo hi).length<=xs.length:=by
 unfold VL;rw[J3,List.length_drop];lia
end
noncomputable def ixN(n:Nat)(i:Int):Option Nat:=if 0<=i then(if i<n then o3 i.toNat else o4)else if -(n:Int)<=i then o3 (i+n).toNat else o4
noncomputable def atI{α:Type}(xs:List α)(i:Int):Option α:=(ixN xs.length i).bind λj=>xs[j]?
theorem WH{j:Nat}(h:ixN n i=o3 j):seqIndex? i n=o3 j/\j<n/\-(n:Int)<=i/\i<n:=by
 unfold ixN at h;by_cases b:0<=i
 .rw[A0e b]at h;by_cases a:i<n
  .rw[A0e a]at h;have e:=A1d h;exact⟨by rw[seqIndex_of b a,e],by lia,by lia,a⟩
  .rw[A0c a]at h;cases h
 .rw[A0c b]at h;by_cases a:-(n:Int)<=i
  .rw[A0e a]at h;have e:=A1d h;exact⟨by rw[seqIndex_neg A0 a,e],by lia,a,by lia⟩
  .rw[A0c a]at h;cases h
theorem SM{α:Type}{xs:List α}{i:Int}{v:α}(h:atI xs i=o3 v):∃j,seqIndex? i xs.length=o3 j/\xs[j]?=o3 v/\j<xs.length/\-(xs.length:Int)<=i/\i<xs.length:=by
 unfold atI at h;cases e:ixN xs.length i with
 |none=>rw[e]at h;cases h
 |some j =>
  rw[e]at h;exact xa3 (WH e) λa b c d=>⟨j,a,h,b,c,d⟩
theorem Ai{α:Type}{xs:List α}{j:Nat}{v:α}(h:xs[j]?=o3 v):atI xs (j:Int)=o3 v:=by
 have a:=(B9.mp h).1;have e:ixN xs.length (j:Int)=o3 j:=by
  unfold ixN;rw[A0e A0,A0e A0];simp
 unfold atI;rw[e];exact h
def aB0(b:Expr):Prop:=∀o i,subscripted b o6 o i=operate [o,i] (getItem o i)
def IxR(X:Cx)(r:R2):Prop :=
 ∀(value slice:Expr)(o0:A_)(s:P_)(σ:St)(H:Hp)(x y:V)(v u:S_)(Q:VK),Inv X o0 σ H s->Bf x v->Bf y u->r x y H Q ->
  subscripted slice o6 v u=operate [v,u] (getItem v u)->wpAny (model X.prog X.w) X.A (subscriptTail value slice v u) (EP X o0 σ Q) X.xe s
def MtR(X:Cx)(id:String)(r:V->List V->Hp->VK->Prop):Prop :=
 ∀(o0:A_)(s:P_)(σ:St)(H:Hp)(x:V)(xs:List V)(v:S_)(us:F_)(Q:VK),Inv X o0 σ H s->Bf x v->AR xs us->r x xs H Q ->
  wpAny (model X.prog X.w) X.A (call (.builtin id) (v::us)) (EP X o0 σ Q) X.xe s
section
variable{X:Cx}{a b:Expr}{ta tb:TE}{pos:Pos}
theorem Aj(i:IxR X r)(f:PE X a ta)(g:PE X b tb)(j:aB0 b):PE X (.Subscript a b pos) (tOp r ta tb):=by
 intro c s σ H Q I h;exact Subscript_ (aDx f g I h λv u m x y d e k l q=>i a b c m σ d x y v u Q e k l q (j _ _))
def aE4(K:O_):R2:=λx y H Q=>∃p xs i v,x=.ref p/\y=.int i/\SqL K H p xs/\atI xs i=o3 v/\Q v H
def JL(K:O_):R2:=λx y H Q=>∃p xs i v,x=.ref p/\y=.int i/\SqT K H p xs/\atI xs i=o3 v/\Q v H
def rIxS:R2:=λx y H Q=>∃z i c,x=.str z/\y=.int i/\z.length<=sizeLine/\atI z.cps.toList i=o3 c/\Q (.str ⟨#[c]⟩) H
theorem Ax:IxR X (aE4 X.K):=by
 intro n m c s σ H x y v u Q I N O h C;refine Cm h λp xs i z e f M G q=>?_;clear h;subst e;subst f;cases N;obtain⟨t,rfl⟩:=O;refine AS (I.list M) λk r pl T=>?_;refine Dh (SM G) λj d D R o=>?_;refine xa o λE F=>?_;refine xea (r.get D) λw A l=>?_;have L:=r.length;have S:=NK;have fin:EP X c σ Q w s:=⟨z,H,I,l,q⟩
 by_cases B:0<=i
 .have g:i.toNat=j:=by
   rw[seqIndex_of B F]at d;exact A1d d
  exact item_listR pl.isList B A0 (by rw[g];simpa using A) fin C
 .have g:(i+(k.toArray.size:Int)).toNat=j:=by
   rw[seqIndex_neg A0 E]at d;rw[F3,<-L];exact A1d d
  exact subscriptTail_builtinR (x:=w) pl.isList.typeIs slot_list_getitem.lookup
   (wpAny_getItem_list_neg (Q:=λr P=>r=w/\EP X c σ Q r P) pl.isList A0 (by rw[F3]<;>lia) A0 (by rw[g];simpa using A) ⟨Z,fin⟩) C
theorem An:IxR X (JL X.K):=by
 intro k g c s σ H x y v u Q I F G h D;refine Cm h λp xs i z d e C A q=>?_;clear h;subst d;subst e;cases F;obtain⟨t,rfl⟩:=G;refine AS (I.tuple C) λE r pl R=>?_;refine Dh (SM A) λj n o M l=>?_;refine xa l λN O=>?_;refine xea (r.get o) λw m f=>?_;have B:=r.length;have P:=NK;have fin:EP X c σ Q w s:=⟨z,H,I,f,q⟩
 exact subscriptTail_builtinR (x:=w) pl.typeIs slot_tuple_getitem.lookup
  (getItem_tuple (j:=j) (Q:=λr L=>r=w/\EP X c σ Q r L) pl A0 A0 (by rw[F3,<-B];exact n) (by simpa using m) ⟨Z,fin⟩) D
theorem aBH:IxR X rIxS:=by
 intro g f m s σ H x y v u Q I D E h C;refine BV h λz i c d e K A q=>?_;clear h;subst d;subst e;obtain⟨t,rfl⟩:=D;obtain⟨t',rfl⟩:=E;refine Dh (SM A) λj l p F k=>?_;refine xa k λr w=>?_;have B:z.cps.toList.length=z.length:=by simp[Str.length]
 rw[B]at l r w;have G:=NK;exact tail_any (A9d s z t) slot_str_getitem.lookup (getItem_str (c:=c) (by
  have n:decide (i < -(2^63:Int))=o6:=A0f A0;have o:decide (i ≥ 2^63)=o6:=A0f A0;rw[n,o,Bool.or_false]) (by rw[l];simpa using p) ⟨.str ⟨#[c]⟩,H,I.tok _,⟨_,Z⟩,q⟩) C
theorem Vv(c:F_)(n j:Nat)(u:S_):Obj.mapSeq (·.setIfInBounds j u) {cls:=.type "list",data:=.seq c.toArray n}={cls:=.type "list",data:=.seq (c.set j u).toArray n}:=by
 simp[Obj.mapSeq]
theorem Inv.lst{d:A_}{σ:St}{H:Hp}{s:P_}{p:R_}{xs:List V}(I:Inv X d σ H s)(h:H p=o3 (.lst xs)) :
  ∃(c:F_)(n:Nat),AR xs c/\s.heap.get? p=o3 {cls:=.type "list",data:=.seq c.toArray n}/\xs.length<=sizeLine:=by
 exact NZ (I.hok p _ h) λz c n r e=>⟨c,n,r,e,z⟩
theorem Inv.lstUpd{c:A_}{σ:St}{H:Hp}{s:P_}{p:R_}{xs ys:List V}{d its':F_}{n g:Nat}{f:Obj->Obj}(I:Inv X c σ H s)(h:H p=o3 (.lst xs))
  (k:s.heap.get? p=o3 {cls:=.type "list",data:=.seq d.toArray n}) (i:f {cls:=.type "list",data:=.seq d.toArray n}={cls:=.type "list",data:=.seq its'.toArray g}) (r:AR ys its') (l:ys.length<=sizeLine) (t:Nat) :
  Inv X c σ (upd H p (.lst ys)) {s with heap:=s.heap.update p f,toks:=t}:=by
 have e:(s.heap.update p f).get? p=o3 {cls:=.type "list",data:=.seq its'.toArray g}:=by
  rw[X6 f k (by rw[i]<;>rfl),i]
 refine I.write (x:=p) (e:=p) (by rw[h];trivial) (.inl Z) (λb u j q=>(Z6 _ _ (A1b j)).trans q) ⟨_,e⟩ ?_;exact⟨l,its',g,r,e⟩
def aGl:V->V->V->Hp->(Hp->Prop)->Prop:=λo i v H Q=>∃p xs k j,o=.ref p/\i=.int k/\H p=o3 (.lst xs)/\ixN xs.length k=o3 j/\Q (upd H p (.lst (xs.set j v)))
theorem ZK:aFW X aGl:=by
 intro d s σ H o i v N M u Q I F E G h;refine Cm h λp xs k j f g B C q=>?_;clear h;subst f;subst g;cases F;obtain⟨t,rfl⟩:=E;refine AN (I.lst B) λc n r w D=>xa3 (WH C) λe K z A=>?_;have m:=r.length;have L:=NK;have x:Inv X d σ (upd H p (.lst (xs.set j v))) {s with heap:=s.heap.update p (Obj.mapSeq (·.setIfInBounds j u))} :=
  I.lstUpd B w (Vv c n j u) (r.set G j) (by rw[List.length_set];exact D) s.toks
 by_cases y:0<=k
 .have l:k.toNat=j:=by
   rw[seqIndex_of y A]at e;exact A1d e
  exact W.ki_setAt w y A0 (by rw[F3,<-m];exact A) (by rw[l];exact⟨_,x,q⟩)
 .have l:(k+(c.toArray.size:Int)).toNat=j:=by
   rw[seqIndex_neg A0 z]at e;rw[F3,<-m];exact A1d e
  exact W.ki_setBack w A0 (by rw[F3,<-m];exact z) A0 (by rw[l];exact⟨_,x,q⟩)
theorem RO(lo hi:Option Int)(n:Nat):(sliceBounds lo hi o4 n).1=((HT.sIx n 0 lo:Nat):Int)/\(sliceBounds lo hi o4 n).2.1=((HT.sIx n n hi:Nat):Int)/\(sliceBounds lo hi o4 n).2.2=1:=by
 refine⟨?_,?_,Z⟩
 .cases lo with
  |none=>simp[sliceBounds,HT.sIx]
  |some i =>
   simp only[sliceBounds,HT.sIx,Option.getD_none,show(1:Int) > 0 by decide,A7h];by_cases h:i<0
   .simp only[h,A7h]<;>lia
   .simp only[h,A4h]<;>lia
 .cases hi with
  |none=>simp[sliceBounds,HT.sIx]
  |some i =>
   simp only[sliceBounds,HT.sIx,Option.getD_none,show(1:Int) > 0 by decide,A7h];by_cases h:i<0
   .simp only[h,A7h]<;>lia
   .simp only[h,A4h]<;>lia
theorem Qt(c:F_)(lo hi:Option Int):slicePick c.toArray lo hi o4=((c.drop (HT.sIx c.length 0 lo)).take (HT.sIx c.length c.length hi-HT.sIx c.length 0 lo)).toArray:=by
 refine xa2 (RO lo hi c.toArray.size) λd e f=>?_;unfold slicePick;rw[d,e,f];simp only[sliceRange_one,pick_run,F3]<;>rfl
def rSlL(K:O_):V->Option Int->Option Int->Hp->VK->Prop:=λx lo hi H Q=>∃a xs,x=.ref a/\SqL K H a xs/\∀p,H p=o4->Q (.ref p) (upd H p (.lst (VL xs lo hi)))
theorem Wm:SlR X (rSlL X.K):=by
 intro f s σ H x v t u lo hi p Q I m g pl l h;refine AN h λa xs d i q=>?_;clear h;subst d;cases m;refine AS (I.list i) λk r e j=>?_;have c:=r.length;refine⟨"list",_,slot_list_getitem.lookup,e.isList.typeIs,?_⟩;refine wpAny_getItem_list_slice e.isList g pl l .none B0 ?_ (by rw[F3]<;>lia);rw[Qt,<-c];refine⟨.ref s.heap.objs.size,_,I.laid (t':=s.toks) (o:=.lst (VL xs lo hi)) (λb n q=>C2 _ q) (C0 _) ?_,Z,q _ (I.hok.fresh (C0 _))⟩;exact⟨D0 (Ut xs lo hi) j,_,0,(r.drop (HT.sIx xs.length 0 lo)).take (HT.sIx xs.length xs.length hi-HT.sIx xs.length 0 lo),F0 _ Z⟩
noncomputable def MR:V->Bool
|.non=>o5
|.bl _=>o5
|.int _=>o5
|.str _=>o5
|_=>o6
noncomputable def eqV:V->V->Bool
|.non,.non=>o5
|.bl a,.bl b=>a==b
|.bl a,.int b=>(if a then 1 else 0)==b
|.int a,.bl b=>a==(if b then 1 else 0)
|.int a,.int b=>a==b
|.str a,.str b=>a==b
|_,_=>o6
theorem aD3(d:Bf y u)(c:Bf x v)(e:MR y=o5)(fx:MR x=o5):SeqAt.EqAt A s u v (eqV y x):=by
 cases y with
 |non =>
  cases d;cases x with
  |non=>cases c;exact SeqAt.EqAt.same _
  |bl b=>cases c;exact SeqAt.EqAt.none_bool b
  |int b=>obtain⟨t,rfl⟩:=c;exact SeqAt.EqAt.none_int b t
  |str b=>obtain⟨t,rfl⟩:=c;exact SeqAt.EqAt.none_str b t
  |_=>exact absurd (show o6=o5 from fx) D9
 |bl a =>
  cases d;cases x with
  |non=>cases c;exact SeqAt.EqAt.bool_none a
  |bl b=>cases c;exact SeqAt.EqAt.bool_bool a b
  |int b=>obtain⟨t,rfl⟩:=c;exact SeqAt.EqAt.bool_int a b t
  |str b=>obtain⟨t,rfl⟩:=c;exact SeqAt.EqAt.bool_str a b t
  |_=>exact absurd (show o6=o5 from fx) D9
 |int a =>
  obtain⟨t',rfl⟩:=d;cases x with
  |non=>cases c;exact SeqAt.EqAt.int_none a t'
  |bl b=>cases c;exact SeqAt.EqAt.int_bool a t' b
  |int b=>obtain⟨t,rfl⟩:=c;exact SeqAt.EqAt.int_int a t' b t
  |str b=>obtain⟨t,rfl⟩:=c;exact SeqAt.EqAt.int_str a t' b t
  |_=>exact absurd (show o6=o5 from fx) D9
 |str a =>
  obtain⟨t',rfl⟩:=d;cases x with
  |non=>cases c;exact SeqAt.EqAt.str_none a t'
  |bl b=>cases c;exact SeqAt.EqAt.str_bool a t' b
  |int b=>obtain⟨t,rfl⟩:=c;exact SeqAt.EqAt.str_int a t' b t
  |str b=>obtain⟨t,rfl⟩:=c;exact SeqAt.EqAt.str_str a t' b t
  |_=>exact absurd (show o6=o5 from fx) D9
 |_=>exact absurd (show o6=o5 from e) D9
noncomputable def eqU(x:V)(u:S_):Bool:=match u with
|.none=>eqV .non x
|.bool b=>eqV (.bl b) x
|.int i _=>eqV (.int i) x
|.str z _=>eqV (.str z) x
|_=>o6
theorem aA4(r:Bf y u)(f:MR y=o5):eqU x u=eqV y x:=by
 cases y with
 |non=>cases r;rfl
 |bl b=>cases r;rfl
 |int i=>obtain⟨t,rfl⟩:=r;rfl
 |str z=>obtain⟨t,rfl⟩:=r;rfl
 |_=>exact absurd (show o6=o5 from f) D9
theorem SQ:∀{xs:List V}{us:F_},AR xs us->xs.all MR=o5->us.any (eqU x)=xs.any λy=>eqV y x
|_,_,.nil,_=>rfl
|y::xs,u::us,.cons r t,f=>by
 rw[List.all_cons,Q0]at f;rw[U5,U5,aA4 r f.1,SQ t f.2]
theorem PY(d:Bf x v)(fx:MR x=o5):∀{xs:List V}{us:F_},AR xs us->xs.all MR=o5->∀u∈us,SeqAt.EqAt A s u v (eqU x u)
|_,_,.nil,_=>λu c=>by cases c
|y::xs,u::us,.cons r t,f=>λe c=>by
 rw[List.all_cons,Q0]at f;rcases C4.mp c with rfl|c
 .rw[aA4 r f.1];exact aD3 r d f.1 fx
 .exact PY d fx t f.2 e c
noncomputable def inV(x:V)(xs:List V):Bool:=xs.any λy=>eqV y x
def rIn(K:O_)(neg:Bool):R2:=λx y H Q=>∃p xs,y=.ref p/\(SqL K H p xs\/SqT K H p xs)/\MR x=o5/\xs.all MR=o5/\Q (.bl (if neg then !inV x xs else inV x xs)) H
theorem NB:OpR X (compareOp .In) (rIn X.K o6):=by
 intro g s σ H x y v u Q I i k h;refine CB h λp xs e d fx fs q=>?_;clear h;subst e;cases k;rcases d with d|d
 .refine AS (I.list d) λc r pl j=>SeqAt.in_listAt (eqU x) pl.isList (λw f=>PY i fx r fs w (by simpa using f)) ⟨.bl _,H,I,Z,?_⟩;rw[show c.toArray.any (eqU x)=c.any (eqU x) by simp,SQ r fs];exact q
 .refine AS (I.tuple d) λc r pl j=>SeqAt.in_tupleAt (eqU x) pl (λw f=>PY i fx r fs w (by simpa using f)) ⟨.bl _,H,I,Z,?_⟩;rw[show c.toArray.any (eqU x)=c.any (eqU x) by simp,SQ r fs];exact q
theorem Bh:FE X (.builtin "len") (λxs H Q=>∃p ys,xs=[.ref p]/\(SqL X.K H p ys\/SqT X.K H p ys)/\Q (.int ys.length) H):=by
 intro j s σ H xs us Q I r h;refine AN h λp ys f d q=>?_;clear h;subst f;refine xea (QR r) λu e l=>?_;subst e;cases l;have m:=NK;rcases d with d|d
 .refine AS (I.list d) λg i pl k=>?_;have c:=i.length;exact Calls.call_len_list pl.isList (by simp only[F3]<;>lia) ⟨.int ys.length,H,I.tok _,⟨s.toks+1,by rw[F3,c]⟩,q⟩
 .refine AS (I.tuple d) λg i pl k=>?_;have c:=i.length;exact len_tuple pl (by simp only[F3]<;>lia) ⟨.int ys.length,H,I.tok _,⟨s.toks+1,by rw[F3,c]⟩,q⟩
theorem Jq:FE X (.builtin "len") (λxs H Q=>∃z,xs=[.str z]/\z.length<=sizeLine/\Q (.int z.length) H):=by
 intro f s σ H xs us Q I r h;refine AS h λz c i q=>?_;clear h;subst c;refine xea (QR r) λu c d=>?_;refine xe d λt e=>?_;clear d;subst c;subst e;have g:=NK;exact len_str A0 ⟨.int z.length,H,I.tok _,⟨_,Z⟩,q⟩
theorem MV:FE X (.type "list") (λxs H Q=>∃p ys,xs=[.ref p]/\(SqL X.K H p ys\/SqT X.K H p ys)/\∀l,H l=o4->Q (.ref l) (upd H l (.lst ys))):=by
 intro k s σ H xs us Q I r h;refine AN h λp ys t i q=>?_;clear h;subst t;refine xea (QR r) λu m A=>?_;subst m;cases A;have fin:∀(c:F_),AR ys c->ys.length<=sizeLine->∀(h':T_)(d:Nat),(∀b z,s.heap.get? b=o3 z->h'.get? b=o3 z) ->
   h'.get? s.heap.objs.size=o3 {cls:=.type "list",dict:=o4,data:=.seq c.toArray d,slots:=#[]}->EP X k σ Q (.ref s.heap.objs.size) {s with heap:=h'}:=λc f j h' d kp e =>
  ⟨.ref s.heap.objs.size,_,I.laid (t':=s.toks) kp (C0 _) (show BQ X.prog X.w _ h' _ (.lst ys)from⟨j,c,d,f,e⟩),Z,q _ (I.hok.fresh (C0 _))⟩
 rcases i with i|i
 .refine AS (I.list i) λc f pl j=>?_;have g:=f.length;obtain⟨o,y,v,n,x⟩:=pl.isList;exact call_list_seq p (.inl Z) y v x (λh' d kp e=>fin c f j h' d kp e) (by simp only[F3]<;>lia)
 .obtain⟨c,f,pl,j⟩:=I.tuple i;have g:=f.length;obtain⟨o,y,v,n,x⟩:=pl;exact call_list_seq p (.inr Z) y v x (λh' d kp e=>fin c f j h' d kp e) (by simp only[F3]<;>lia)
theorem CA:FE X (.type "tuple") (λxs H Q=>∃p ys,xs=[.ref p]/\((SqL X.K H p ys/\∀l,H l=o4->Q (.ref l) (upd H l (.tup ys)))\/(SqT X.K H p ys/\Q (.ref p) H))):=by
 intro d s σ H xs us Q I r h;obtain⟨p,ys,rfl,h⟩:=h;obtain⟨u,rfl,n⟩:=QR r;cases n;rcases h with ⟨f,q⟩|⟨f,q⟩
 .obtain⟨c,g,pl,k⟩:=I.list f;have j:=g.length;refine call_tuple_list pl.isList (λh' kp=>?_) (by simp only[F3]<;>lia);have i:=I.kept (t':=s.toks) kp;have m:Inv X d σ (upd H h'.objs.size (.tup ys)) {s with heap:=h'.push {cls:=.type "tuple",data:=.seq c.toArray} } :=
   i.laid (t':=s.toks) (λb o e=>C2 _ e) (C0 _) (show BQ X.prog X.w _ _ _ (.tup ys)from⟨k,c,g,IsTup.new _ _⟩)
  exact⟨.ref h'.objs.size,_,m,Z,q _ (i.hok.fresh (C0 _))⟩
 .obtain⟨c,g,pl,k⟩:=I.tuple f;exact call_tuple_same pl ⟨.ref p,H,I,Z,q⟩
def tyV(K:O_)(T:String)(x:V)(H:Hp):Prop:=match x with
|.str _=>T="str"
|.int _=>T="int"
|.ref p=>(T="list" /\ ∃xs,SqL K H p xs)\/(T="tuple" /\ ∃o,K.lookup p=o3 o/\o.cls=.type "tuple" /\ o.dict=o4) \/
  (T="dict" /\ ((∃kvs,H p=o3 (.dK kvs))\/∃kvs,H p=o3 (.dT kvs)))\/(T="set" /\ ∃S n,H p=o3 (.set S n))
|_=>False
theorem aFQ(I:Inv X h σ H s)(r:Bf x v)(j:tyV X.K T x H) :
  s.TypeIs v T/\∀a,v=.ref a->∃m,s.heap.get? a=o3 m/\m.dict=o4:=by
 cases x with
 |str z =>
  obtain⟨t,rfl⟩:=r;cases(show T="str" from j);exact⟨A9d s z t,λ_ e=>nomatch e⟩
 |int i =>
  obtain⟨t,rfl⟩:=r;cases(show T="int" from j);exact⟨typeIs_int s i t,λ_ e=>nomatch e⟩
 |ref p =>
  cases r;rcases j with ⟨rfl,xs,u⟩|⟨rfl,o,f,q,l⟩|⟨rfl,f⟩|⟨rfl,S,n,f⟩
  .refine AS (I.list u) λw _ pl _=>⟨pl.isList.typeIs,λa e=>?_⟩
   cases e;exact CC pl λo n e c l _=>⟨o,e,l⟩
  .refine⟨⟨o,I.kIn p o f,q⟩,λa e=>?_⟩;cases e;exact⟨o,I.kIn _ o f,l⟩
  .have z:∃o,s.heap.get? p=o3 o/\o.ExactDict:=by
    rcases f with ⟨kvs,f⟩|⟨kvs,f⟩
    .refine CU (I.hok p _ f) λ_ _ _ _ d=>?_;refine CL d λo _ _ e g _=>?_;exact⟨o,e,g⟩
    .refine CU (I.hok p _ f) λ_ _ _ _ d=>?_;refine CL d λo _ _ e g _=>?_;exact⟨o,e,g⟩
   refine xea z λo e g=>⟨⟨o,e,g.1⟩,λa k=>?_⟩
   cases k;exact⟨o,e,g.2.1⟩
  .refine xe4 (I.hok p _ f) λo _ _ _ d=>?_;refine xa2 d λe g _=>?_;refine⟨⟨o,e,g.1⟩,λa k=>?_⟩;cases k;exact⟨o,e,g.2.1⟩
 |_=>exact False.elim j
def tBM(K:O_)(T:String)(r:V->List V->Hp->VK->Prop)(to:TE)(t:TA):TE:=fun σ H Q=>to σ H λx H1=>tyV K T x H1/\t σ H1 λxs H2=>r x xs H2 Q
variable{o e:Expr}{es:List Expr}{to:TE}{t:TA}{name:Str}{apos cpos:Pos}{T id:String}{r:V->List V->Hp->VK->Prop}
theorem DJ(E:PlainAttrs T)(j:Slot T name id)(l:typeOf (.builtin id)=pure (.type "method_descriptor"))(B:MtR X id r)(C:PE X o to)(A:PA X (e::es) t)
  (f:attributeBase o name X.env (eval o X.env)=eval o X.env:=by rfl)
  (i:((backTo cpos (starEach (e::es) X.env)).all (λx=>!x.1) && (backToKw cpos (keywordEach [] X.env)).all (λx=>x.1.isSome)
   && decide ((e::es).length+([]:List Keyword).length+(if([]:List Keyword).isEmpty then 0 else 1)<30))=o5:=by rfl)
  (g:(apos.endLine==cpos.line)=o5:=by rfl) (D:starEach (e::es) X.env=(o6,eval e X.env)::starEach es X.env:=by rfl) (d:(backTo cpos (starEach es X.env)).any (·.1)=o6:=by rfl) :
  PE X (.Call (.Attribute o name apos) (e::es) [] cpos) (tBM X.K T r to t):=by
 intro c s σ H Q I h;refine wpAny_Call_method_late f i g Z (thn (C c s σ H _ I h) λv M k=>?_);refine CC k λx q m p O F=>?_;obtain⟨y,z⟩:=aFQ m p O;refine⟨T,id,E,j,l,y,z,?_⟩;have n:=A cpos c M σ q _ m F;rw[D]at n⊢;refine A9e (by show(o6 || (backTo cpos (starEach es X.env)).any (·.1))=o6;rw[d]<;>rfl) (B0b ?_);exact thn n λus N k=>AN k λvs u w L G=>B c N σ u x vs v us Q w p L G
end
def MtM(X:Cx)(id:String)(r:V->List V->Hp->VK->Prop):Prop :=
 ∀(o0:A_)(s:P_)(σ:St)(H:Hp)(x:V)(xs:List V)(v:S_)(us:F_)(Q:VK),Inv X o0 σ H s->Bf x v->AR xs us->r x xs H Q ->
  wpAny (model X.prog X.w) X.A (call (.builtin id) (v::us)) (EP X o0 σ Q) X.xe s
theorem AR.one:∀{x:V}{us:F_},AR [x] us->∃u,us=[u]/\Bf x u
:= λh=>by
 cases h with
 |cons r t =>
  cases t;exact⟨_,Z,r⟩
theorem AR.two:∀{x y:V}{us:F_},AR [x,y] us->∃u v,us=[u,v]/\Bf x u/\Bf y v
:= λh=>by
 cases h with
 |cons r t =>
  refine xea (AR.one t) λ_ a q=>?_;subst a;exact⟨_,_,Z,r,q⟩
theorem AR.rep(h:AR xs us):∀k:Nat,AR (List.replicate k xs).flatten (List.replicate k us).flatten
|0=>.nil
|k+1=>by
 rw[T1,T1,S6,S6];exact AR.append h (AR.rep h k)
theorem Rl(b:F_):∀(k:Nat)(a:F_),
 List.foldl (λd f=>d++f) a.toArray (List.replicate k b.toArray)=(a++(List.replicate k b).flatten).toArray
|0,a=>by simp
|k+1,a=>by
 have e:a.toArray++b.toArray=(a++b).toArray:=by simp
 have c:(a++b)++(List.replicate k b).flatten=a++(List.replicate (k+1) b).flatten:=by
  rw[T1,S6,N7]
 rw[<-c,<-Rl b k (a++b),<-e,T1,T3]
section
variable{X:Cx}{o0:A_}{σ:St}{H:Hp}{s:P_}{l b:R_}{xs ys zs:List V}
theorem Inv.lset{a its':F_}{n:Nat}{f:Array Value->Array Value}{t':Nat}(I:Inv X o0 σ H s)(c:H l=o3 (.lst xs))
  (e:s.heap.get? l=o3 {cls:=.type "list",data:=.seq a.toArray n}) (g:f a.toArray=its'.toArray) (i:AR ys its') (j:ys.length<=sizeLine) :
  Inv X o0 σ (upd H l (.lst ys)) {s with heap:=s.heap.update l (Obj.mapSeq f),toks:=t'}:=by
 have q:=PySem.IsL.update e f;rw[g]at q;refine I.write (x:=l) (e:=l) (by rw[c];exact trivial) (.inl Z) (λb' u d h=>(Z6 s.heap (Obj.mapSeq f) (A1b d)).trans h) ⟨_,q⟩ ?_;exact⟨j,its',_,i,q⟩
theorem Inv.lnew(I:Inv X o0 σ H s)(c:AR ys a)(d:ys.length<=sizeLine) :
  Inv X o0 σ (upd H s.heap.objs.size (.lst ys)) {s with heap:=s.heap.push {cls:=.type "list",data:=.seq a.toArray},toks:=t'} :=
 I.laid (λ_ _ q=>C2 _ q) (C0 _) ⟨d,a,0,c,F0 _ Z⟩
theorem Inv.fresh(I:Inv X o0 σ H s):H s.heap.objs.size=o4:=I.hok.fresh (C0 _)
theorem Inv.lstM(I:Inv X o0 σ H s)(c:H l=o3 (.lst xs)):xs.length<=sizeLine/\∃(a:F_)(n:Nat),AR xs a/\xs.length=a.length/\s.heap.get? l=o3 {cls:=.type "list",data:=.seq a.toArray n}:=by
 exact NZ (I.hok l _ c) λz a n r e=>⟨z,a,n,r,r.length,e⟩
theorem aBk(h:n<=sizeLine):Builtin.List.listTooLong n=o6:=by
 unfold Builtin.List.listTooLong;exact A0f A0
end
section
variable{X:Cx}
def Ws:V->List V->Hp->VK->Prop:=λx vs H Q=>∃l xs y,x=.ref l/\vs=[y]/\H l=o3 (.lst xs)/\xs.length<sizeLine/\Q .non (upd H l (.lst (xs++[y])))
theorem Cb:MtM X "list.append" Ws:=by
 intro g s σ H x vs v us Q I k j h;refine BV h λl xs y c d f o q=>?_;clear h;subst c;subst d;cases k;refine xea j.one λu b i=>?_;subst b;refine DC (I.lstM f) λz a n r m e=>A7c F.slot_list_append ⟨_,e,Z⟩ F.entry_list_append (F.args_list_append_2 _ _) (PySem.list_append l a.toArray n u (by rw[F3];lia)) ⟨e,?_⟩;refine⟨.non,_,I.lset (its':=a++[u]) f e B0 (r.append (.cons i .nil)) ?_,Z,q⟩;rw[C6,S3];lia
def rCat:R2:=λx y H Q=>∃l b xs zs,x=.ref l/\y=.ref b/\H l=o3 (.lst xs)/\H b=o3 (.lst zs)/\xs.length+zs.length<=sizeLine/\∀p,H p=o4->Q (.ref p) (upd H p (.lst (xs++zs)))
theorem Vf:OpR X (binaryOp .Add) rCat:=by
 intro i s σ H x y v u Q I w A h;refine Cm h λl b xs F f g o m d=>?_;refine xa d λC q=>?_;clear d;clear h;subst f;subst g;cases w;cases A;refine DC (I.lstM o) λz c n r B e=>DC (I.lstM m) λE a D t p j=>PySem.P.add_list e j ?_ (by rw[F3,F3];lia);have k:c.toArray++a.toArray=(c++a).toArray:=by simp
 rw[k];exact⟨.ref _,_,I.lnew (t':=s.toks) (r.append t) (by rw[C6];lia),Z,q _ I.fresh⟩
def rRep:R2:=λx y H Q=>∃l k xs,x=.ref l/\y=.int k/\H l=o3 (.lst xs)/\-(2^63)<=k/\k<2^63/\xs.length*k.toNat<=sizeLine /\
 ∀p,H p=o4->Q (.ref p) (upd H p (.lst (List.replicate k.toNat xs).flatten))
theorem aCL{α:Type}(xs:List α)(k:Nat):(List.replicate k xs).flatten.length=k*xs.length:=by
 induction k with
 |zero=>simp
 |succ k a=>rw[T1,S6,C6,a,Nat.succ_mul,Nat.add_comm]
theorem aEt:OpR X (binaryOp .Mult) rRep:=by
 intro C s σ H x y v u Q I M N h;refine BV h λl k xs o p K E j=>?_;refine xa2 j λG B q=>?_;clear j;clear h;subst o;subst p;cases M;obtain⟨t,rfl⟩:=N;refine DC (I.lstM K) λz b n r L e=>?_;have g:b.toArray.size*k.toNat<=sizeLine:=by rw[F3,<-L];exact B
 have d:¬b.toArray.size*k.toNat > (2^63-1)/8:=by
  have:(sizeLine:Nat)<=(2^63-1)/8:=by decide
  lia
 have f:¬(!Builtin.List.listFitsIndex k)=o5:=by
  rw[fitsIndex_both E G];exact D9
 have c:¬Builtin.List.listTooLong (b.toArray.size*k.toNat)=o5:=by
  rw[aBk g];exact D9
 have i:List.foldl (λw A=>w++A) #[] (List.replicate (if b.toArray.isEmpty=o5 then 0 else k.toNat) b.toArray)=(List.replicate k.toNat b).flatten.toArray:=by
  have D:∀m:Nat,List.foldl (λw A=>w++A) #[] (List.replicate m b.toArray)=(List.replicate m b).flatten.toArray:=λm=>by
   have:=Rl b m [];rw[List.nil_append]at this;exact this
  rw[D];cases b with
  |nil=>simp
  |cons a P=>rw[A0c B0]
 refine wpAny_binaryOp_repeat_ref (T:="list") (U:="int") A6 ⟨_,e,Z⟩ (λO=>typeIs_int O k t) noFill_list_mul F.fills_int_mul F.slot_int_rmul repeat_list F.slot_int_index.lookup
  (A7c F.slot_int_rmul (typeIs_int s k t) F.entry_int_rmul (F.args_int_rmul_2 _ _) (int___rmul___int_list k t l b.toArray n)
   ⟨e,Z,⟨_,e,Z⟩,A7c F.slot_list_mul ⟨_,e,Z⟩ F.entry_list_mul (F.args_list_mul_2 _ _) (AutoListH.list___mul___list_int_3 l b.toArray n k t f d c) ⟨e,?_⟩⟩)
 rw[i];exact⟨.ref _,_,I.lnew (t':=s.toks) (r.rep k.toNat) (by rw[aCL,Z2];exact B),Z,q _ I.fresh⟩
end
end L2
namespace Att
open PySem PySem.W PySem.Calls PyProof.Rows
theorem Ox:∀(ns:I_)(vs:F_),WellAll P h vs (ns.map WData.int)->IntsAre vs ns:=by
 intro ns;induction ns with
 |nil =>
  intro vs w;rw[Z3]at w;cases w;exact .nil
 |cons n ns c =>
  intro vs w;rw[F5]at w;cases w with
  |cons a b =>
   cases a;exact .cons _ _ (c _ b)
theorem Yk{l:OpenLaw}{n:Nat}(v:l.most=o3 n){P:Params}{h:T_}{args:List WData}{c:F_}
  (b:l.row.toRowW.claim.pre args=o5) (o:WellAll P h c args) :
  ∃a vs ns,c=[Value.ref a]/\args=[WData.list (ns.map WData.int)]/\h.get? a=o3 {cls:=.type "list",data:=.seq vs.toArray}/\IntsAre vs ns/\ns.length<=n:=by
 have m:=(pre_splitW b).1;have p:l.pre.holds [] {args:=args}=o5:=(pre_splitW b).2;refine AN (hasAllW_cons m) λd r k s t=>?_;subst k;obtain rfl:=hasAllW_nil t;refine xea (hasW_list s) λxs j u=>?_;subst j;obtain⟨ns,rfl⟩:=items_int u;have f:ns.length<=n:=by
  unfold OpenLaw.pre at p;have g:(WTm.not (.lt (.lit (.int (n:Int))) (.len (.arg 0)))).holds [] {args:=[.list (ns.map .int)]}=o5:=by
   have g:=(holds_andW p).1;rw[v]at g;exact g
  have i:=condW_of g (w_not (w_lt w_lit (w_len_list (w_arg Z))));rw[B8]at i;refine P8 λq=>?_;have x:(n:Int)<((ns.length:Nat):Int):=by lia
  first
   | (rw[A0d x]at i;exact absurd i A6)
   | (simp at i;lia)
 cases o with
 |cons y z =>
  cases z;cases y with
  |list w e=>exact⟨_,_,ns,Z,Z,w,Ox ns _ e,f⟩
theorem Yl(l:OpenLaw)(args:List WData):l.row.toRowW.claim.post args (.bool o5) args=o5 :=
 postW_of (r:=l.row.toRowW) (X:=(o5==o5))
  (show WShape.has [] (.bool o5) .bool=o5 by first|rfl|decide|simp[WShape.has,WShape.arms,WShape.armsAll])
  (show(WTm.eq .res (.lit (.bool o5))).value [] {args:=args,res:=o3 (.bool o5),after:=args}=o3 (.bool (o5==o5))from w_eq_bool (w_res Z) w_lit) Z
theorem UD{l:OpenLaw}{n:Nat}{q:N_}{c:K_}{D:(Str->Option Value)->Heap->Prop}{E:World->Heap->Prop}{d:DefRec}
  (U:l.most=o3 n) (y:d.params.defaults=[])
  (call:∀(w:Q_)(e b:P_)(mg B:C_)(i:R_)(o:Obj)(C p g:S_)(a:R_)(vs:F_)(ns:I_),
   Ground q c [] D w e mg B b.heap->E w b.heap ->
   b.heap.get? i=o3 o->o.data=.func (docDef d.name d.params d.body d.scope C p g)->b.heap.CodeRec p d.name->mg d.name=o3 (.ref i) ->
   b.heap.get? a=o3 {cls:=.type "list",data:=.seq vs.toArray}->IntsAre vs ns->ns.length<=n->b.gens=#[] ->
   codeAny (model l.prog w) callerA (.call (.ref i) ⟨[.ref a],[]⟩) (λr s=>r=.ok (.ret (.bool o5))/\OldK b.heap s.heap/\s.os=b.os/\AllBare s.gens) b) :
  WalkO q c D E l.row.toRowW d [] (λf vs=>PySem.call f vs):=by
 intro w e b mg B G Y i o C p g M kV V Q x H z R F L as m I W A S;obtain rfl:M=.none:=Dflts.none H y;obtain rfl:kV=.none:=Dflts.noKw H;refine BV (Yk U m A) λa vs ns u v k h j=>?_;subst u;subst v;refine enter_call (A9c (call w e b mg B i o C p g a vs ns G Y V (fd_plain Q) x z k h j R) λr s K=>?_);refine xa3 K λt N O P=>?_;clear K;subst t;exact⟨.inl ⟨.bool o5,.bool o5,[],Z,λ_=>Z,.bool o5,Yl l _,λ_=>⟨List.Pairwise.nil,λ_ T=>(nomatch T)⟩⟩,N,O,P⟩
end Att
namespace L2
open PySem PySem.Spec PyProof.Rows
theorem QQ:∀{vs:F_}{ns:I_},IntsAre vs ns->AR (ns.map V.int) vs
|_,_,.nil=>.nil
|_,_,.cons n t h=>.cons ⟨t,Z⟩ (QQ h)
def aDu(H:Hp):Prop:=∀b,H b=o4\/∃o xs,H b=o3 (.frz o (.lst xs))
theorem aBQ{P:N_}{w:Q_}{K:O_}{mg X:C_}{CX:CXT}{k:Nat}{Q a:R_}{fd:E_}{x:Str}{sp:Sp}{c:P_}{vs:F_}{ns:I_}
  (KX:K.In c.heap) (B:c.heap.Ns mainGlobals mg) (g:c.heap.Ns builtinsNs X) (S:∀x:Str,x≠"__name__" -> X x=bootBuiltins x) (A:c.heap.NoLimit) (hg:c.gens=#[])
  (N:c.heap.get? a=o3 {cls:=.type "list",data:=.seq vs.toArray}) (hi:IntsAre vs ns) (hl:ns.length<=sizeLine) (hr:Di k callerA)
  (F:∀i:Heap,K.In i->i.Ns mainGlobals mg->AL P w K mg i CX k Q fd [x] sp) (t:∀(s:P_)(u:S_),BindsTo s fd ⟨[u],[]⟩ [(x,u)])
  (U:∀H:Hp,aDu H->SqL K H a (ns.map V.int)->sp [.ref a] H (λv _=>v=.bl o5) λ_ _ _=>False)
  (R:∀H e j,CX [] H c (λ_ _ _=>False) e j->False) :
  codeAny (model P w) callerA (.call (.ref Q) ⟨[.ref a],[]⟩) (λr j=>r=.ok (.ret (.bool o5))/\OldK c.heap j.heap/\j.os=c.os/\AllBare j.gens) c:=by
 have rv:=QQ hi;have E:=hi.length;have p:∀H:Hp,aDu H->SqL K H a (ns.map V.int)->HOk P w H c.heap->(∀b,H b≠o4->b=a)->(H a≠o4->K.lookup a=o4) ->
   codeAny (model P w) callerA (.call (.ref Q) ⟨[.ref a],[]⟩) (λr j=>r=.ok (.ret (.bool o5))/\OldK c.heap j.heap/\j.os=c.os/\AllBare j.gens) c:=by
  intro H hO hS C hA hK;have f:∀{b:R_}{o:Obj},c.heap.get? b=o3 o->H b=o4->(SD c.heap H).get? b=o3 o:=λe n=>aBF e n;have Y:∀{b:R_}{o:Obj}{M:Array DictEntry}{L:Nat},c.heap.get? b=o3 o->o.data=.dict M L->H b=o4:=λ{b o M L} e d=>by
   cases q:H b with
   |none=>rfl
   |some u =>
    have O:=hA b (by rw[q];simp);subst O;rw[N]at e;cases e;have d':=d;cases d'
  have l:∀{b:R_}{m:C_},c.heap.Ns b m->(SD c.heap H).Ns b m:=λ{b m} ⟨o,M,L,e,d,r⟩=>⟨o,M,L,f e (Y e d),d,r⟩
  have y:K.In (SD c.heap H):=λb o e=>f (KX b o e) (by
   cases q:H b with
   |none=>rfl
   |some u =>
    have O:=hA b (by rw[q];simp);subst O;rw[hK (by rw[q];simp)]at e;cases e)
  have hM:Mod K mg (SD c.heap H):=⟨y,l B,⟨X,l g,S⟩,let ⟨mc,h1,h2⟩:=A;⟨mc,l h1,h2⟩⟩
  have e0:Oz P w K mg (SD c.heap H) callerA [] c H:=⟨Z,hM,λb o e=>aCW e,K7 (YQ _ _),trivial,λb g=>absurd (show b∈([]:H_)from g) B0,C,.of_eq hg⟩
  refine A9c ((F _ y (l B)).run callerA [] c H ⟨[.ref a],[]⟩ [.ref a] [.ref a] _ _ hr e0 (t c (.ref a)) (.cons Z .nil) (U H hO hS)) λr j h=>?_;cases r with
  |error e=>exact(R H e j h).elim
  |ok fl =>
   cases fl with
   |next=>exact False.elim h
   |brk=>exact False.elim h
   |cont=>exact False.elim h
   |ret u =>
    refine CB h λv H' G bare un D aa=>?_;refine xa aa λr' q=>?_;have q':=q;subst q';obtain rfl:u=Value.bool o5:=r';refine⟨Z,OldK.of_keep λb o e=>?_,G,bare⟩;cases q:H b with
    |none=>exact un.keep b o e q (by intro z;exact absurd (show b∈([]:H_)from z) B0) B0
    |some u =>
     rcases hO b with z|⟨ob,xs,z⟩
     .rw[q]at z;cases z
     .have z2:=un.frzs b ob _ z;obtain⟨e1,_⟩:=C b _ z;obtain⟨e2,_⟩:=D b _ z2;rw[e]at e1;cases e1;exact e2
 cases T:K.lookup a with
 |some o =>
  have e:=KX a o T;rw[N]at e;cases e;refine p (λ_=>o4) (λ_=>.inl Z) (.inr ⟨_,vs.toArray,_,T,Z,Z,Z,by rw[F3,E];exact hl,by simpa using rv⟩) (λb u z=>by have I:=z;cases I) (λb z=>absurd Z z) λz=>absurd Z z
 |none =>
  refine p (λb=>if b=a then o3 (.frz {cls:=.type "list",data:=.seq vs.toArray} (.lst (ns.map V.int)))else o4) (λb=>?_) (.inl (.inr ⟨{cls:=.type "list",data:=.seq vs.toArray},A0e Z⟩)) (λb u z=>?_) (λb z=>?_) λ_=>T
  .by_cases g:b=a
   .exact .inr ⟨_,_,A0e g⟩
   .exact .inl (A0c g)
  .by_cases g:b=a
   .have I:=(A0e g).symm.trans z;cases I;subst g;exact⟨N,by rw[B8];exact hl,vs,_,rv,N⟩
   .have I:=(A0c g).symm.trans z;cases I
  .by_cases g:b=a
   .exact g
   .exact absurd (A0c g) z
theorem VT{l:W.OpenLaw}{n k:Nat}{q:N_}{m:K_}{N:(Str->Option Value)->Heap->Prop}{L:World->Heap->Prop}{d:DefRec}{K:Params->W.Frag}{CX:World->CXT}{sp:World->Sp}{x:Str}
  (hn:l.most=o3 n) (C:n<=sizeLine) (A:d.params.defaults=[]) (hr:Di k callerA)
  (S:∀(w:Q_)(h:T_),L w h->(K w.params).In h)
  (F:∀(w:Q_)(mg:C_)(t:R_)(h:T_),(K w.params).In h->h.Ns mainGlobals mg->mg d.name=o3 (.ref t) ->
   ∃y:FuncData,(∀(s:P_)(u:S_),BindsTo s y ⟨[u],[]⟩ [(x,u)]) /\
    ∀c:Heap,(K w.params).In c->c.Ns mainGlobals mg->AL l.prog w (K w.params) mg c (CX w) k t y [x] (sp w))
  (D:∀(w:Q_)(H:Hp)(a:R_)(ns:I_),ns.length<=n->aDu H->SqL (K w.params) H a (ns.map V.int)->sp w [.ref a] H (λv _=>v=.bl o5) λ_ _ _=>False)
  (z:∀(w:Q_)(H:Hp)(s:P_)(e:S_)(E:P_),CX w [] H s (λ_ _ _=>False) e E->False) :
  W.WalkO q m N L l.row.toRowW d [] (λf vs=>PySem.call f vs):=by
 refine Att.UD hn A λw M r mg mb t o pm cd O a vs ns G Y ho hd X B p j i hg=>?_;have I:=S w _ Y;exact xea (F w mg t _ I G.T.g B) λy U P=>aBQ I G.T.g G.T.b G.T.builtins G.T.nolimit hg p j (D0 i C) hr P U (λH Q R=>D w H a ns i Q R) λH e E=>z w H r e E
end L2
namespace L2
open PySem PySem.Spec PyProof.Rows
noncomputable def Bd(s:Stmt)(j:Nat):Stmt:=match s with
|.ClassDef _ _ _ body _ _ _ _ _ _ _=>body.getD j (.Pass ⟨0,0,0,0⟩)
|_=>.Pass ⟨0,0,0,0⟩
noncomputable def MT(s:Stmt):Arguments:=match s with
|.FunctionDef _ a _ _ _ _ _ _ _ _=>a
|_=>{posonlyargs:=[],args:=[],vararg:=o4,kwonlyargs:=[],kw_defaults:=[],kwarg:=o4,defaults:=[]}
noncomputable def Ly(s:Stmt):List Stmt:=match s with
|.FunctionDef _ _ b _ _ _ _ _ _ _=>b
|_=>[]
noncomputable def Ah(s:Stmt):Scope:=match s with
|.FunctionDef _ _ _ _ _ _ sc _ _ _=>sc
|_=>{kind:=.function,names:=[],isGenerator:=o6,isCoroutine:=o6}
abbrev CX0:CXT:=λ_ _ _ _ _ _=>False
abbrev E0:XK:=λ_ _ _=>False
theorem Am:GB CX0 X E0:=λ_ _ _ _ _ _ _ h=>h.elim
structure Fun(K:O_)(x qual:Str)(st:Stmt)(f:R_)(fd:E_):Prop where
ex:∃(oc:S_)(od:Option Addr)(kV doc pm:S_)(an:Option Addr)(cdv ct:S_)(osl:Array (Option Value)),
 fd=W.fnOf x qual (MT st) (Ly st) (Ah st) .none kV doc pm an cdv ct/\K.lookup f=o3 ⟨oc,od,.func fd,osl⟩/\W.codeIn K cdv qual=o5
kp:keepIn K (.ref f)=o5
section
variable{P:N_}{w:Q_}{K:O_}{mg:C_}{n9:T_}
theorem Fun.ok{x b:Str}{st:Stmt}{f:R_}{n:E_}{N m:K_}{k:Nat}{sp:Sp}(F:Fun K x b st f n)(S:Au N m (Ah st))(len:∀vs H Q E,sp vs H Q E->vs.length=m.length)
  (d:∀(c:S_)(A:Around)(a:List Env)(s:P_)(H:Hp)(vs:List V)(Q:VK)(E:XK),Di k (A.deeper (envOfC b (Ah st) s.heap.objs.size f c))->sp vs H Q E ->
   ∃t,PSs (YX CX0 P w K mg n9 N b (Ah st) f c A a s H E).nox (Ly st) t/\t {nx:=λ_ o=>Q .non o,rt:=Q} (Oa N vs) H):AL P w K mg n9 CX0 (k+1) f n m sp:=by
 refine xe5 F.ex λB C kV p D g=>?_;refine xe4 g λy c z v i=>?_;refine xa2 i λe u j=>?_;clear g i;subst e;exact aGB u j S len λA a s H vs Q E r l=>xea (d c A a s H vs Q E r l) λt h q=>⟨t,h.nox,q⟩
theorem Fun.binds{x a:Str}{st:Stmt}{f:R_}{m:E_}{l:K_}(F:Fun K x a st f m)
  (h:∀(kV c k:S_)(i:Option Addr)(b j:S_)(us:F_),us.length=l.length->bindArgs (W.fnOf x a (MT st) (Ly st) (Ah st) .none kV c k i b j) ⟨us,[]⟩=pure (l.zip us)):CM K m l []:=by
 refine xe5 F.ex λq r kV c k e=>?_;refine xe4 e λi b j o g=>?_;refine xa2 g λd p n=>?_;clear e g;subst d;exact .all (h kV c k i b j)
theorem VG {x a:Str} {st:Stmt} {f:R_} {j:S_} {m g:Option Addr} {e:Array (Option Value)} {kV d i b h:S_} (l:K.lookup f=o3 ⟨j,m,.func (W.fnOf x a (MT st) (Ly st) (Ah st) .none kV d i g b h),e⟩)
 (c:W.codeIn K b a=o5) (k:keepIn K (.ref f)=o5):Fun K x a st f (W.fnOf x a (MT st) (Ly st) (Ah st) .none kV d i g b h):=⟨⟨j,m,kV,d,i,g,b,h,e,Z,l,c⟩,k⟩
end
theorem Ed{k:Nat}(a:Di k A):A.units+1<cLine:=F7 (Nat.add_le_add_left (by decide:1<=64) _) a.units
section
variable{X:Cx}
theorem pv(i:Nat)(b:X.N[i]?=o3 x:=by rfl)(d:Vis X.env.scope x:=by first|exact Or.inl rfl|exact Or.inr O_9|exact Or.inr (Or.inr rfl))(c:(x==("__debug__" : Str))=o6:=by decide)
 (a:(x==("__classdict__" : Str))=o6:=by decide):PE X (.Name x pos) (GS i):=aEw b d c a
end
theorem Bc{A B:Prop}(h:B):if o6=o5 then A else B:=by
 rw[A0c D9];exact h
theorem Cr{A B:Prop}(h:A):if o5=o5 then A else B:=by
 rw[A0e rfl];exact h
theorem Jl{c A B:Prop}[Decidable c](a:c->A)(b:¬c->B):if c then A else B:=by
 by_cases h:c
 .rw[A0e h];exact a h
 .rw[A0c h];exact b h
theorem ML{c A B:Prop}[Decidable c](a:c)(h:B):if(!decide c)=o5 then A else B:=by
 rw[A0d a];exact Bc h
def Ay(H H':Hp):Prop:=∀b o,H b=o3 o->H' b=o3 o
theorem Ay.refl(H:Hp):Ay H H:=λ_ _ h=>h
theorem Ay.trans(a:Ay H d)(b:Ay d e):Ay H e:=λc o h=>b c o (a c o h)
theorem Ay.seq{K:O_}{H b:Hp}{a:R_}{xs:List V}(e:Ay H b)(h:SqL K H a xs):SqL K b a xs:=by
 rcases h with (h|⟨o,h⟩)|h
 .exact .inl (.inl (e _ _ h))
 .exact .inl (.inr ⟨o,e _ _ h⟩)
 .exact .inr h
def Yc(a D:R_)(h:T_):Prop:=∃o,h.get? a=o3 o/\o.cls=.ref D/\∃vs,o.data=.fields vs/\vs[2]?=o3 .none
theorem Yc.not(x:Yc a D h):∃o,h.get? a=o3 o/\o.cls=.ref D/\notCls o=o5:=by
 obtain⟨o,e,c,vs,d,_⟩:=x;exact⟨o,e,c,by unfold notCls;rw[d]⟩
noncomputable def aDc(a D:R_):HO:=.ext (Yc a D)
theorem Inv.track(I:Inv X d σ H s)(i:H a=o4)(g:X.s₀.heap.get? a=o4)(t:X.n9.get? a=o4)(h:X.env.locals≠a)(j:∀x c,X.env.cells.lookup x=o3 c->c≠a)
  (k:∀p,p∈X.pn++d->p.1≠a) (y:∀b,b∈X.fs->b≠a) (new:BQ X.prog X.w (upd H a o) s.heap a o):Inv X d σ (upd H a o) s:=by
 have f:∀b u,H b=o3 u->b≠a:=λb u q z=>by rw[z,i]at q;cases q
 refine⟨I.ok,I.os,I.bare,⟨I.n9.keep,I.n9.slot,λb u q n x=>?_,I.n9.there,λb xs q=>?_,λb u v q=>?_,λb l q=>?_⟩,I.loc,I.cell,?_,λx c q=>?_,λp z=>?_,λb u q=>?_,I.len⟩
 .rw[Av (λz=>by rw[z,g]at q;cases q)];exact I.n9.free b u q n x
 .have z:=I.n9.tups b xs q;rw[Av (f _ _ z)];exact z
 .have z:=I.n9.frzs b u v q;rw[Av (f _ _ z)];exact z
 .obtain⟨m,z⟩:=I.n9.tbls b l q;exact⟨m,by rw[Av (f _ _ z)];exact z⟩
 .rw[Av h];exact I.free
 .rw[Av (j x c q)];exact I.freeC x c q
 .exact xa2 (I.pin p z) λe n r=>⟨e,by rw[Av (k p z)];exact n,r⟩
 .by_cases z:b=a
  .subst z;rw[Af]at q;cases q;exact new
  .rw[Av z]at q;exact(I.hok b u q).stay (λc v _ r=>r) (λc r=>by rw[Av (f _ _ r)];exact r) λc xs r=>by rw[Av (f _ _ r)];exact r
section
variable{X:Cx}{tg:Expr}
noncomputable def Its(x:Str):It:=⟨λi _=>i<x.cps.size,λi H v H'=>H'=H/\∃c,x.cps[i]?=o3 c/\v=.str ⟨#[c]⟩,λi _=>i=x.cps.size⟩
theorem SX{P:N_}{w:Q_}{K:O_}(it:R_)(x:Str)(t:Tok)(T:String)(R:["enumerate","zip","dict_itemiterator","dict_reverseitemiterator","odict_iterator","itertools.zip_longest","itertools.pairwise"].contains T=o6)
  (W:∀A:Around,A.handled=o4->Walks P w A it [it] [it] x.cps.size (SignAt x) (λi h=>h.IsStrIter it T x t i))
  (g:∀(A:Around)(i:Nat)(s:P_)(Q:B_)(E:B_),s.heap.IsStrIter it T x t i->Q (.ref it) s->wpAny (model P w) A (pyIter (.ref it)) Q E s):QM P w K tg (Its x) [it] it (λi h=>h.IsStrIter it T x t i) where
 mem:=by simp
 obj:=λi h st b f=>by
  have e:b=it:=by simpa using f
  subst e;exact AS st λo e c d=>⟨o,e,λv z=>by rw[d]at z;cases z⟩
 keep:=λi h h' ⟨o,e,r⟩ k=>⟨o,k it B0 o e,r⟩
 item:=by
  intro X C L B D i a s σ H E I l st G;subst C L B;refine xa5 (l it B0) λn p O q f4 y=>(W X.A (I.ok.hd D)).item i s _ _ G st λv h' tk M j kk=>?_;refine BJ M λc u F m=>?_;clear M;subst m;have N:Inv X a σ H {s with heap:=h',toks:=tk}:=I.turned (λb o f e=>kk b o (by simpa using f) e) n p q f4 y;exact AS (id j) λo e S U=>⟨_,Z,Ul (s:={s with heap:=h',toks:=tk}) e S U R ⟨.str ⟨#[c]⟩,H,N,⟨u,Z⟩,⟨Z,c,F,Z⟩,j,λb f=>(l b f).1⟩⟩
 done:=by
  intro X C L B D i a s σ H E I l st G;subst C L B;refine xa5 (l it B0) λn p O q f4 y=>?_;have z:=G;subst z;exact(W X.A (I.ok.hd D)).done s _ _ st λh' tk kk=>⟨Z,I.turned (λb o f e=>kk b o (by simpa using f) e) n p q f4 y⟩
 self:=g
def iStr(tl:TE):TI:=fun σ H R=>tl σ H λv H1=>∃x,v=.str x/\R (Its x) H1
theorem ZR(r:PE X l m):PI X tg l (iStr m):=by
 intro a s σ H R I h;refine thn (r a s σ H _ I h) λv c n=>AN n λy f d u k=>?_;refine xea k λx g q=>?_;clear k;subst g;obtain⟨t,rfl⟩:=u;have fp:∀b,b∈[c.heap.objs.size]->DX X a f b:=λb p=>by
  have e:b=c.heap.objs.size:=by simpa using p
  subst e;exact d.fpOk (C0 _) (d.hok.fresh (C0 _))
 cases j:x.cps.all (· < 128)with
 |true =>
  refine wpAny_pyIter_ascii j ⟨c.heap.objs.size,[c.heap.objs.size],_,_,f,Z,d.kept (t':=c.toks) λb o e=>C2 _ e,SX _ x t "str_ascii_iterator" A6 (λA i=>Walks.strAscii i _ x t) (λ_ _ _ _ _ st h=>wpAny_pyIter_striter_ascii st h),⟨_,F0 _ Z,Z,Z⟩,fp,q⟩
 |false =>
  refine wpAny_pyIter_wide j ⟨c.heap.objs.size,[c.heap.objs.size],_,_,f,Z,d.kept (t':=c.toks) λb o e=>C2 _ e,SX _ x t "str_iterator" A6 (λA i=>Walks.strWide i _ x t) (λ_ _ _ _ _ st h=>wpAny_pyIter_striter_wide st h),⟨_,F0 _ Z,Z,Z⟩,fp,q⟩
theorem aCC{x:Str}{g:TG}{o:TS}{D:IE}{σ:St}{H:Hp}(b:Nat->St->Hp->Prop)(q:b 0 σ H)
  (t:∀i c σ H,x.cps[i]?=o3 c->b i σ H->g (.str ⟨#[c]⟩) σ H fun d j=>o {D with nx:=b (i+1),ct:=b (i+1),bk:=D.nx} d j) (s:∀σ H,b x.cps.size σ H->D.nx σ H) :
  ∃W:Nat->Nat->St->Hp->Prop,(∃m,W 0 m σ H)/\∀i m σ H,W i m σ H ->
   ((Its x).stop i H/\D.nx σ H)\/((Its x).go i H/\∃N:St->Hp->Prop,(∀σ' a,N σ' a->∃n,n<m/\W (i+1) n σ' a)/\∀v a,(Its x).yld i H v a->g v σ a fun d j=>o {D with nx:=N,ct:=N,bk:=D.nx} d j):=by
 refine⟨λi m σ H=>m=x.cps.size-i/\i<=x.cps.size/\b i σ H,⟨x.cps.size,by simp,J9 _,q⟩,?_⟩;intro i m σ H h;refine xa2 h λk hi p=>?_;clear h;subst k;by_cases f:i<x.cps.size
 .refine .inr ⟨f,b (i+1),fun σ' a u=>⟨x.cps.size-(i+1),by lia,Z,f,u⟩,λv a y=>?_⟩;refine Jy y λe c r l=>?_;clear y;subst l;subst e;exact t i c σ _ r p
 .have e:i=x.cps.size:=by lia
  subst e;exact .inl ⟨Z,s σ H p⟩
theorem Ir:FE X (.type "int") (λxs H Q=>∃x n,xs=[.str x]/\PySem.intText? x=o3 n/\x.length<=640/\Q (.int n) H):=by
 intro b s σ H xs us Q I r h;refine CC h λx n a d c q=>?_;clear h;subst a;cases r with
 |cons e f =>
  cases f;obtain⟨t,rfl⟩:=e;exact W.KIN.call_text d c ⟨.int n,H,I.tok _,⟨_,Z⟩,q⟩
theorem UC(F:X.calm=o5):FE X (.builtin "all") (λxs H Q=>∃(p:R_)(bs:List Bool),xs=[.ref p]/\SqL X.K H p (bs.map V.bl)/\Q (.bl (bs.all id)) H):=by
 intro f s σ H xs us Q I r h;refine AN h λp bs c G q=>?_;clear h;subst c;cases r with
 |cons L M =>
  cases M;cases(show _=Value.ref p from L);refine AS (I.list G) λa m pl R=>?_;have l:=J8 (by refine BJ pl λo n e _=>?_;exact F2 e);refine call_all_walk (A6d pl.isList ?_);have g:∀(i:Nat) v,a[i]?=o3 v->∃b,bs[i]?=o3 b/\v=.bool b:=λi v e=>by
   cases j:bs[i]? with
   |none =>
    have:a[i]?=o4:=m.none_of (by rw[C1,j];rfl);rw[e]at this;cases this
   |some b =>
    refine xea (m.get (i:=i) (x:=V.bl b) (by rw[C1,j];rfl)) λu t N=>?_;rw[e]at t;cases t;exact⟨b,Z,N⟩
  refine⟨s.heap.objs.size,_,_,_,_,_,λi=>bs.getD i o5,Z,Walks.list (A:=X.A.in1) (I.ok.hd F) s.heap.objs.size p l a.toArray,⟨⟨_,F0 _ Z,Z,Z⟩,?_⟩,?_,?_⟩
  .exact pl.isList.at λo e=>C2 _ e
  .intro i v O y P D k;refine xea (g i v (by simpa using D)) λb j c=>?_;subst c;have B:bs.getD i o5=b:=by rw[D3,j];rfl
   have k:y (bs.getD i o5) O:=k;rw[B]at k;exact A3d k
  .intro h' tk kk;have w:Inv X f σ H {s with heap:=h',toks:=tk}:=I.kept λb o e=>kk b o (by intro z;exact J8 (F2 e) (by simpa using z)) (C2 _ e);have len:a.toArray.size=bs.length:=by rw[F3,<-m.length,B8]
   have C:(List.range a.toArray.size).all (λi=>bs.getD i o5)=bs.all id:=by
    rw[len,S1,S9,S9];constructor
    .intro z b E;obtain⟨i,hi,e⟩:=X8.mp E;have:=z i (N2.mpr hi);rw[D3,C5 hi,e]at this;exact this
    .intro z i hi;have d:=N2.mp hi;rw[D3,C5 d];exact z _ (O3 d)
   rw[C];exact⟨.bl _,H,w,Z,q⟩
end
structure aAZ(K:O_)(D:R_):Prop where
hd:hasDictIn K D=o5
ga:findIn K (.ref D) "__getattribute__" = o3 (o3 (.builtin "BaseException.__getattribute__"))
gt:findIn K (.ref D) "__getattr__" = o3 o4
cl:findIn K (.ref D) "__class__" = o3 (o3 (.builtin "object.__class__"))
sp:specialIn K (.builtin "object.__class__") "__get__" = o3 (o3 (.builtin "getset_descriptor.__get__"))
tk:takesIn K (.builtin "object.__class__")=o3 o5
mo:mroIn K D (.type "object")=o3 o5
mb:mroIn K D (.type "BaseException")=o3 o5
section
variable{K:O_}{prog:N_}{w:Q_}{A:Around}{E:B_}{s:P_}{a D:R_}{o:Obj}
open PySem.W Builtin Builtin.ObjectAttr Builtin.Getset_descriptor
theorem aA5(X:K.In h)(f:aAZ K D):Looks M h (find (.ref a) (.ref D) "__class__") (.bind (.builtin "getset_descriptor.__get__") (.builtin "object.__class__")) :=
 (looks_findIn X f.cl).andThen ((looks_specialIn X f.sp).andThen ((show Looks M h (dataDescriptor? (o3 (.builtin "object.__class__")) (o3 (.builtin "getset_descriptor.__get__"))) (o3 (.builtin "getset_descriptor.__get__",.builtin "object.__class__"))from(looks_takesIn X f.tk).andThen .now).andThen (Looks.tag .now)))
theorem aCB(X:K.In s.heap)(f:aAZ K D)(c:s.heap.get? a=o3 o)(b:o.cls=.ref D)(e:R (.ok (.ret (.ref D))) s) :
  codeAny (model prog w) A (.call (.builtin "getset_descriptor.__get__") ⟨[.builtin "object.__class__",.ref a,i],[]⟩) R s:=by
 obtain⟨h,g,d,t,l⟩:=s;have j:Looks (model prog w) h (typeOf (.ref a)) (.ref D):=b▸(Looks.ld c).andThen .now;have k:=looks_mroIn (M:=model prog w) X f.mo;refine codeAny_call_builtin KF.slot_gs.plain KF.entry_gs (KF.slot_gs.check _ _ _ _ _ _ _ _ KF.type_class (KF.args_gs _ _ _) ?_);unfold Builtin.«getset_descriptor.__get__» descrGet;rw[dga_obj];refine A0b (A0h ?_);unfold descrGetter descrCheckInstance descrNameAndClass isInstance;simp only[KF.owner_class]
 repeat lk
 refine⟨Code.quiet_builtin _ A3,codeAny_builtin KF.entry_class ?_⟩;unfold Builtin.«object.__class__» shownTypeOf
 repeat lk
 exact e
theorem YT(X:K.In s.heap)(f:aAZ K D)(j:s.heap.get? a=o3 o)(i:o.cls=.ref D)(q:Q (o3 (.ref D)) {s with toks:=s.toks+1}) :
  wpAny (model prog w) A (getAttr? (.ref a) "__class__") Q E s:=by
 obtain⟨h,g,d,t,u⟩:=s;have e:Looks (model prog w) h (typeOf (.ref a)) (.ref D):=i▸(Looks.ld j).andThen .now;have k:=looks_findIn (M:=model prog w) X f.ga;have l:=looks_findIn (M:=model prog w) X f.gt;have m:=aA5 (M:=model prog w) (a:=a) X f;have n:Looks (model prog w) h (isInstance (.ref a) (.type "BaseException")) o5:=e.andThen (looks_mroIn X f.mb);unfold getAttr? getAttrBy? getAttrBy;refine A0b (wpAny_mkText (A0b (A6c (A6b (A0b (e.at (A0b (k.at ?_))))))));dsimp only;have r:(Value.builtin "BaseException.__getattribute__" == Value.builtin "object.__getattribute__")=o6:=by decide +kernel
 rw[A0c (by rw[r,Bool.and_false];exact D9)];unfold getAttrByItsOwn hookBefore;rw[A0e (by rfl)];refine A0b (l.at ?_);refine A0b (A6c (A6b ?_));unfold callGetattribute;rw[A0c A6];unfold boundAndCalled;refine A0b (wpAny_of_eq (PySem.F.excAttr_ValueError.ga.bind (.ref a)) ?_);dsimp only;refine wpAny_call (codeAny_call_builtin PySem.F.excAttr_ValueError.ga.plain PySem.F.entry_bexc_ga ?_);have p:builtinKind "BaseException.__getattribute__" = o3 .slot:=by decide +kernel
 have c:splitId "BaseException.__getattribute__" = o3 ("BaseException","__getattribute__"):=by decide +kernel
 have b:=PySem.F.args_bexc_ga (.ref a) (.str "__class__" t);simp only[checkBuiltinCall,p,c];refine A0b (n.at ?_);rw[A0c A6];refine wpAny_of_eq (a:=()) b ?_;unfold Builtin.«object.__getattribute__»;dsimp only at m
 repeat ((fail_if_success (with_reducible show wpAny _ _ (call _ _) _ _ _));lk)
 refine wpAny_call (aCB (s:=⟨h,g,d,t+1,u⟩) X f j i ?_);dsimp only
 repeat lk
 exact q
end
inductive TyX(K:O_)(H:Hp):V->Value->Prop where
|of {x:V} {t:S_} (h:NX K H x t):TyX K H x t
|exc {a D:R_} (e:H a=o3 (aDc a D)) (f:aAZ K D):TyX K H (.ref a) (.ref D)
theorem aBP{K:O_}{a D:R_}(f:aAZ K D):W.KitX K (.ref a) (.ref D) (λh=>∃o,h.get? a=o3 o/\o.cls=.ref D/\notCls o=o5) where
 ty:=λM h X ⟨o,e,c,_⟩=>c▸(W.Looks.ld e).andThen .now
 it:=λM h X _=>by
  refine xea (any_some f.hd) λm b _=>?_;unfold clsIn at b;split at b
  .rename_i l d' d j g;intro r t s v k q;unfold isType loadHead;exact A0b (wpAny_loadPart (k _ _ (X _ _ g)) (A0h q))
  .cases b
 ne:=λh x u p n w X i=>by
  refine xea (any_some f.hd) λm b _=>A0a.mpr λq=>?_;have e:=Value.ref.inj (beq_iff_eq.mp q);subst e;unfold clsIn at b;split at b
  .rename_i l d' d j g;have z:=(X _ _ g).symm.trans i;cases z
  .cases b
 ca:=λX ⟨o,e,c,_⟩ k=>YT X f e c k
noncomputable def clsV:V->Option Value
|.ty n=>o3 (.type n)
|.ref C=>o3 (.ref C)
|_=>o4
theorem DN{X:Cx}:FE X (.builtin "isinstance") (λxs H Q=>∃x c d t b,xs=[x,c]/\clsV c=o3 d/\TyX X.K H x t/\kitOne X.K t d=o3 b/\Q (.bl b) H):=by
 intro j s σ H xs us Q I r h;obtain⟨x,c,d,t,b,rfl,g,ty,i,q⟩:=h;cases r with
 |@cons _ u _ _ l y =>
  cases y with
  |@cons _ v _ _ k o =>
   cases o;have m:v=d:=by
    cases c with
    |ty n=>cases g;exact k
    |ref C=>cases g;exact k
    |_=>cases g
   subst m;cases ty with
   |of ty=>exact YN I l ty i λtk=>⟨.bl b,H,I.tok tk,Z,q⟩
   |@exc a D e f =>
    cases(show u=Value.ref a from l);exact xa2 (show BQ X.prog X.w H s.heap a (aDc a D)from I.hok a _ e) λp _ _=>A3c (aBP f) I.kIn (Yc.not p) i (λz=>nomatch z) λtk=>⟨.bl b,H,I.tok tk,Z,q⟩
section
variable{X:Cx}{c:Expr}{a b:List Stmt}{tc:TT}{t u:TS}{pos:Pos}
def tIfJ(J:St->Hp->Prop)(tc:TT)(t u:TS):TS:=λD σ H=>(tc σ H λb H1=>if b=o5 then t {D with nx:=J} σ H1 else u {D with nx:=J} σ H1)/\∀σ' H',J σ' H'->D.nx σ' H'
theorem SP.nx(k:∀σ' e,J σ' e->D.nx σ' e)(h:SP X d {D with nx:=J} f s):SP X d D f s:=by
 cases f with
 |next=>refine BJ h fun σ' e I q=>?_;exact⟨σ',e,I,k _ _ q⟩
 |brk=>exact h
 |cont=>exact h
 |ret v=>exact h
theorem aE1(J:St->Hp->Prop)(o:PT X c tc)(m:PSs X a t)(n:PSs X b u):PS X (.If c a b pos) (tIfJ J tc t u):=by
 intro e s σ H D I h;obtain⟨h,k⟩:=h;refine wpAny_If (thn (o e s σ H _ I h) λd l ⟨g,i,j⟩=>?_);cases d with
 |true=>exact thn (m e l σ g _ i j) λf p q=>q.nx k
 |false=>exact thn (n e l σ g _ i j) λf p q=>q.nx k
end
noncomputable def Iq(env:Env)(a:List (Str×Addr))(x:Str×NameKind):List (Str×Addr):=if(x.2==NameKind.free)=o5 then(x.1,(env.cells.lookup x.1).getD 0)::a else a
noncomputable def VN(env:Env)(l:List (Str×NameKind)):List (Str×Addr):=l.foldl (Iq env) []
theorem VH{α β:Type}{l:List α}{f:α->β->Sem (ForInStep β)}{g:β->α->β}(h:∀x∈l,∀b,f x b=pure (.yield (g b x))):∀b,forIn l b f=pure (l.foldl g b):=by
 induction l with
 |nil=>intro b;rfl
 |cons x l c =>
  intro b;rw[List.forIn_cons,h x C8,pure_bind];exact c (λy a=>h y (C9 _ a)) _
theorem Ql{d:Scope}{b:Env}(h:∀y∈d.names,y.2=.free->∃c,b.cells.lookup y.1=o3 c):closureFor d b=pure (VN b d.names):=by
 simp only[closureFor];rw[VH (g:=Iq b) (λx l c=>by
  obtain⟨n,k⟩:=x;by_cases i:k=.free
  .subst i;obtain⟨a,f⟩:=h _ l rfl;have e:cellOf b n=pure a:=by unfold cellOf;rw[show b.cells.lookup n=o3 a from f]
   simp only[Iq,beq_self_eq_true,A7h,e,show b.cells.lookup n=o3 a from f,Option.getD_some];rfl
  .have j:(k==NameKind.free)=o6:=by simpa using i
   simp only[Iq,j,N3,A4h])]
 rfl
theorem Rs(b:Env){c:R_}:∀(l:List (Str×NameKind))(a:List (Str×Addr)),(l.foldl (Iq b) a).lookup y=o3 c->a.lookup y=o3 c\/((y,NameKind.free)∈l/\c=(b.cells.lookup y).getD 0)
|[],a,h=>.inl h
| (n,k)::r,a,h=>by
 rw[T3]at h;rcases Rs b r _ h with z|⟨z,e⟩
 .unfold Iq at z;split at z
  .rename_i g;have d:k=.free:=by simpa using g
   rw[P9]at z;split at z
   .rename_i i;have f:y=n:=by simpa using i
    subst f d;exact .inr ⟨C8,(A1d z).symm⟩
   .exact .inl z
  .exact .inl z
 .exact .inr ⟨C9 _ z,e⟩
theorem Uy(b:Env):∀(l:List (Str×NameKind))(a:List (Str×Addr)),(∃c,a.lookup y=o3 c)->∃c,(l.foldl (Iq b) a).lookup y=o3 c
|[],_,h=>h
| (n,k)::r,a,h=>by
 rw[T3];refine Uy b r _ ?_;unfold Iq;split
 .rw[P9];split
  .exact⟨_,Z⟩
  .exact h
 .exact h
theorem VM(b:Env):∀(l:List (Str×NameKind))(a:List (Str×Addr)),(y,NameKind.free)∈l->∃c,(l.foldl (Iq b) a).lookup y=o3 c
|[],_,h=>by simp at h
| (n,k)::r,a,h=>by
 rw[T3];rcases C4.mp h with e|h
 .cases e;refine Uy b r _ ⟨(b.cells.lookup y).getD 0,?_⟩;unfold Iq;simp only[beq_self_eq_true,A7h,P9]
 .exact VM b r _ h
theorem Pm{a:Env}{y:Str}:∀{b:List (Str×NameKind)},(∀z∈b,z.2≠.cell) ->
 ((b.map λ(n,k)=>if(k==NameKind.free && a.scope.kind==.function && a.kindOf n==o3 .cell)then(n,NameKind.cell)else(n,k)).lookup y=o3 .cell \/
  (b.map λ(n,k)=>if(k==NameKind.free && a.scope.kind==.function && a.kindOf n==o3 .cell)then(n,NameKind.cell)else(n,k)).lookup y=o3 .free)->(y,NameKind.free)∈b
|[],_,h=>by simp at h
| (n,k)::r,hc,h=>by
 have e:=@Pm a y r (λz g=>hc z (C9 _ g));have h':List.lookup y ((if(k==NameKind.free && a.scope.kind==.function && a.kindOf n==o3 .cell)=o5 then(n,NameKind.cell)else(n,k))::(r.map λ(n,k)=>if(k==NameKind.free && a.scope.kind==.function && a.kindOf n==o3 .cell)then(n,NameKind.cell)else(n,k)))=o3 .cell \/
  List.lookup y ((if(k==NameKind.free && a.scope.kind==.function && a.kindOf n==o3 .cell)=o5 then(n,NameKind.cell)else(n,k))::(r.map λ(n,k)=>if(k==NameKind.free && a.scope.kind==.function && a.kindOf n==o3 .cell)then(n,NameKind.cell)else(n,k)))=o3 .free:=h
 clear h;by_cases d:(k==NameKind.free && a.scope.kind==.function && a.kindOf n==o3 .cell)=o5
 .rw[A0e d]at h';have f:k=.free:=by
   simp only[Q0,B0a]at d;exact d.1.1
  simp only[P9]at h';cases c:y==n with
  |true =>
   have:y=n:=by simpa using c
   subst this f;exact C8
  |false =>
   rw[c]at h';exact C9 _ (e h')
 .rw[A0c d]at h';simp only[P9]at h';cases c:y==n with
  |true =>
   rw[c]at h';have:y=n:=by simpa using c
   subst this;rcases h' with z|z
   .exact absurd (A1d z) (hc (y,k) C8)
   .cases A1d z;exact C8
  |false =>
   rw[c]at h';exact C9 _ (e h')
theorem Mv{a:Env}{y:Str}:∀{b:List (Str×NameKind)},b.lookup y=o3 .free ->
 ((b.map λ(n,k)=>if(k==NameKind.free && a.scope.kind==.function && a.kindOf n==o3 .cell)then(n,NameKind.cell)else(n,k)).lookup y=o3 .cell \/
  (b.map λ(n,k)=>if(k==NameKind.free && a.scope.kind==.function && a.kindOf n==o3 .cell)then(n,NameKind.cell)else(n,k)).lookup y=o3 .free)
|[],h=>by simp at h
| (n,k)::r,h=>by
 have e:=@Mv a y r;show List.lookup y ((if(k==NameKind.free && a.scope.kind==.function && a.kindOf n==o3 .cell)=o5 then(n,NameKind.cell)else(n,k))::(r.map λ(n,k)=>if(k==NameKind.free && a.scope.kind==.function && a.kindOf n==o3 .cell)then(n,NameKind.cell)else(n,k)))=o3 .cell \/
  List.lookup y ((if(k==NameKind.free && a.scope.kind==.function && a.kindOf n==o3 .cell)=o5 then(n,NameKind.cell)else(n,k))::(r.map λ(n,k)=>if(k==NameKind.free && a.scope.kind==.function && a.kindOf n==o3 .cell)then(n,NameKind.cell)else(n,k)))=o3 .free
 rw[P9]at h;by_cases d:(k==NameKind.free && a.scope.kind==.function && a.kindOf n==o3 .cell)=o5
 .rw[A0e d];simp only[P9];cases c:y==n with
  |true=>exact .inl Z
  |false=>rw[c]at h;exact e h
 .rw[A0c d];simp only[P9];cases c:y==n with
  |true=>rw[c]at h;exact .inr h
  |false=>rw[c]at h;exact e h
section
variable{prog:N_}{w:Q_}{A:Around}{R:Result->Shared->Prop}{s:P_}
noncomputable abbrev VX(ifs:List Expr)(env:Env):Sem Bool:=forIn ifs o5 λc r=>if r=o5 then do let ok <-isTrue c env (eval c env);pure (ForInStep.yield ok)else pure (ForInStep.yield r)
theorem Uv{q a i:Expr}{t:List Expr}{c:Scope}(I:Nat->Shared->Prop)
  (turn:∀n s,I n s->wpAny (model prog w) A (pyNext it) (λr d=>match r with
   |none=>R (.ok .next) d
   |some v=>wpAny (model prog w) A (letOwnedTupleGo a it v) (λ_ j=>wpAny (model prog w) A (assign a b v) (λ_ k =>
     wpAny (model prog w) A (VX t b) (λok e =>
      if ok=o5 then wpAny (model prog w) A (eval q b) (λx l =>
       wpAny (model prog w) A (call (.builtin "list.append") [p,x]) (λ_ o=>∃m,m<n/\I m o) (λ_ _=>False) l) (λ_ _=>False) e
      else ∃m,m<n/\I m e) (λ_ _=>False) k) (λ_ _=>False) j) (λ_ _=>False) d) (λ_ _=>False) s)
  (n:Nat) (h:I n s):codeAny (model prog w) A (.compLoop (.ListComp q [⟨a,i,t,0⟩] c pos) 0 it p b) R s:=by
 refine codeAny_loop Z I (λn s B=>?_) n h;show wpAny _ A ((compTurn (.ListComp q [⟨a,i,t,0⟩] c pos) 0 it p b).onRaise (λx=>do noteFrame x b;theTreesLotGoes x)) _ _ s;refine wpAny_noted ?_;rw[compTurn_list];refine A0b (B0e (A0b (A3e (turn n s B) (λr d f=>?_) λ_ _ h'=>h'.elim)));cases r with
 |none=>exact A0h f
 |some v =>
  refine A0b (A3e f (λ_ j h₀=>?_) λ_ _ h'=>h'.elim);refine A0b (A3e h₀ (λ_ k u=>A0b (A3e u (λok e g=>?_) λ_ _ h'=>h'.elim)) λ_ _ h'=>h'.elim);cases ok with
  |false=>exact A0h ⟨Z,g⟩
  |true =>
   exact A0b (A0b (A3e g (λx l y=>A0b (A3e y (λ_ o z=>A0h (A0h ⟨Z,z⟩)) λ_ _ h'=>h'.elim)) λ_ _ h'=>h'.elim))
end
noncomputable def Oy(cs:J_)(σ:St):St:=cs.map λj=>(σ[j]?).getD o4
noncomputable def cxC(X:Cx)(scope:Scope)(N:K_)(s:P_)(H:Hp)(ex:H_):Cx :=
 {X with N:=N,s₀:=s,H₀:=H,env:=compEnvC scope (VN X.env scope.names) s.heap.objs.size X.env,outer:=X.stack,stack:=X.stack,ex:=ex,fn:=λ_=>o6,pn:=[],xe:=λ_ _=>False}
def PTs(X:Cx)(ifs:List Expr)(t:TT):Prop :=
 ∀(o0:A_)(s:P_)(σ:St)(H:Hp)(Q:Bool->Hp->Prop),Inv X o0 σ H s->t σ H Q->wpAny (model X.prog X.w) X.A (VX ifs X.env) (TP X o0 σ Q) X.xe s
def aFO:TT:=λ_ H Q=>Q o5 H
theorem BB:PTs X [] aFO:=λ_ _ _ H _ I h=>wpAny_tests_nil ⟨H,I,h⟩
theorem aCs{c:Expr}{t:TT}(h:PT X c t):PTs X [c] t:=λa s σ H Q I q=>wpAny_tests_one (h a s σ H Q I q)
structure Bn(X:Cx)(scope:Scope)(N:K_)(k:Nat)(cs:J_):Prop where
cell:∀y∈scope.names,y.2≠.cell
kind:scope.kind=.function
names:∀y∈scope.names,y.2=.local->scope.names.lookup y.1=o3 .local
free:∀y∈scope.names,y.2=.free->X.env.scope.names.lookup y.1=o3 .cell\/X.env.scope.names.lookup y.1=o3 .free
len:N.length=k+cs.length
cap:∀j,j<cs.length->∃x,N[k+j]?=o3 x/\X.N[cs.getD j 0]?=o3 x/\scope.names.lookup x=o3 .free
def Fk(k:Nat)(cs:J_)(g:TG)(tc:TT)(te:TE)(J:It)(σ:St)(H1:Hp)(fin:List V->Hp->Prop):Prop :=
 ∃W:Nat->Nat->List V->Hp->Prop,(∃m,W 0 m [] H1)/\∀i m acc H,W i m acc H ->
  (J.stop i H/\fin acc H)\/(J.go i H/\∃Nx:List V->Hp->Prop,(∀acc' H',Nx acc' H'->∃m',m'<m/\W (i+1) m' acc' H')/\∀x H',J.yld i H x H'->g x (List.replicate k o4++Oy cs σ) H' fun σ2 H2=>(∃ts:St,ts.length=k/\σ2=ts++Oy cs σ)/\acc.length<sizeLine /\
   tc σ2 H2 λb H3=>if b=o5 then te σ2 H3 λv H4=>Nx (acc++[v]) H4 else Nx acc H3)
def aG9(k:Nat)(cs:J_)(wi:TI)(g:TG)(tc:TT)(te:TE):TE:=fun σ H Q=>wi σ H λJ H1=>Fk k cs g tc te J σ H1 λacc H2=>∀p,H2 p=o4->Q (.ref p) (upd H2 p (.lst acc))
section
variable{X:Cx}{tg iter elt:Expr}{ifs:List Expr}{scope:Scope}{pos:Pos}{wi:TI}{g:TG}{tc:TT}{te:TE}{N:K_}{k:Nat}{cs:J_}
theorem Inv.block{t:A_}(S:Bn X scope N k cs)(I:Inv X t σ H s)
  (f:∀b∈G,DX X t H b/\∃o,s.heap.get? b=o3 o) (P:C.os=s.os) (hg:AllBare C.gens) (E:∀b o,s.heap.get? b=o3 o->C.heap.get? b=o3 o) (hn:∃m,C.heap.Ns s.heap.objs.size m) :
  Inv (cxC X scope N s H G) [] (List.replicate k o4++Oy cs σ) H C:=by
 have A:∀{x c},(VN X.env scope.names).lookup x=o3 c->X.env.cells.lookup x=o3 c:=λ{x c} h=>by
  rcases Rs X.env _ _ h with z|⟨z,e⟩
  .simp at z
  .obtain⟨a,ha⟩:=I.ok.has x (S.free _ z Z);rw[e,ha];rfl
 have Q:∀b,b∈G->b≠s.heap.objs.size:=λb r z=>by
  refine xa (f b r) λ_ R=>?_;refine xe R λo B=>?_;exact absurd (F2 B) (by rw[z];exact R0 _)
 refine⟨⟨I.ok.mod,S.kind,I.ok.glob,I.ok.blt,C0 _,λx y c K d=>I.ok.inj x y c (A K) (A d),λx hx=>?_,λx c h _=>(nomatch h),I.ok.hd,I.ok.frames,.inl Z,λb r=>⟨Q b r,λx c h=>?_⟩,I.bs,?_,λb o e r=>?_,λb r hf=>?_,I.stack,I.stkFree⟩,
  P,hg,Un.kept E,?_,λx c h=>?_,I.hok.fresh (C0 _),λx c h=>I.freeC x c (A h),λp hp=>absurd (show p∈([]:A_)from hp) B0,I.hok.kept E,?_⟩
 .exact VM X.env _ _ (Pm S.cell hx)
 .exact(f b r).1.2.2.2.2.1 x c (A h)
 .exact D0 I.ok.bsz I.sz
 .rcases(f b r).1.2.2.2.1 with z|z
  .exact I.ok.noex b o e z
  .exact absurd (F9 (F2 e) (D0 I.ok.bsz z)) (R0 _)
 .rcases C4.mp (I.stkSub b hf)with z|z
  .exact(f b r).1.2.1 z
  .exact(f b r).1.2.2.1 z
 .obtain⟨m,hm⟩:=hn;refine xea I.loc λmo aa O=>⟨m,hm,λi x v K d h3=>?_⟩
  have hi:k<=i:=by
   by_cases z:i<k
   .rw[M5 (by simpa using z),Y7,A0e z]at d;cases d
   .lia
  obtain⟨j,rfl⟩:∃j,i=k+j:=⟨i-k,by lia⟩
  rw[J0 B0,Q6,Y4]at d;unfold Oy at d;rw[C1]at d;have M:j<cs.length:=by
   by_cases z:j<cs.length
   .exact z
   .rw[S4 A0]at d;cases d
  refine AS (S.cap j M) λx' T U F=>?_;rw[show N[k+j]?=o3 x from K]at T;cases T;rw[C5 M]at d;have n:(σ[cs[j]]?).getD o4=o3 v:=A1d d;rw[D3,C5 M]at U;have h4:σ[cs[j]]?=o3 (o3 v):=by
   cases q:σ[cs[j]]? with
   |none=>rw[q]at n;cases n
   |some w=>rw[q]at n;rw[show w=o3 v from n]
  have Y:=S.free (x,.free) (A3h F) Z;refine xea (O _ x v U h4 (.inr Y)) λu ru l=>⟨u,ru,?_⟩
  rcases l with ⟨z,_⟩|⟨_,c,L,z⟩
  .have z':X.env.scope.names.lookup x=o3 .local:=z;rcases Y with q|q<;>· rw[z']at q;cases q
  .obtain⟨c',V⟩:=VM X.env _ [] (A3h F);have W:=A V;rw[L]at W;cases W;exact xea z λo B D=>.inr ⟨Mv F,c,V,o,E _ _ B,D⟩
 .exact BJ (I.cell x c (A h)) λv o B D=>⟨v,o,E _ _ B,D⟩
 .show(List.replicate k o4++Oy cs σ).length=N.length;rw[C6,Q6,S.len];unfold Oy;rw[B8]
end
structure aAp(C:Cx->Prop)(P:N_)(w:Q_)(K:O_)(tg:Expr)(J:It)(fp:H_)(it:R_)(tn:Nat->Heap->Prop):Prop where
obj:∀i h,tn i h->∀b∈fp,∃o,h.get? b=o3 o/\∀v,o.data≠.cell v
keep:∀i h h',tn i h->(∀b∈fp,∀o,h.get? b=o3 o->h'.get? b=o3 o)->tn i h'
item:∀(X:Cx),C X->X.prog=P->X.w=w->X.K=K->∀(i:Nat)(o0:A_)(s:P_)(σ:St)(H:Hp)(E:B_),Inv X o0 σ H s->(∀b∈fp,DX X o0 H b)->tn i s.heap->J.go i H ->
 wpAny (model P w) X.A (pyNext (.ref it)) (λr s1=>∃u,r=o3 u/\wpAny (model P w) X.A (letOwnedTupleGo tg (.ref it) u) (λ_ s2=>∃x H',Inv X o0 σ H' s2/\Bf x u/\J.yld i H x H'/\tn (i+1) s2.heap/\∀b∈fp,H' b=o4) E s1) E s
done:∀(X:Cx),C X->X.prog=P->X.w=w->X.K=K->∀(i:Nat)(o0:A_)(s:P_)(σ:St)(H:Hp)(E:B_),Inv X o0 σ H s->(∀b∈fp,DX X o0 H b)->tn i s.heap->J.stop i H ->
 wpAny (model P w) X.A (pyNext (.ref it)) (λr s1=>r=o4/\Inv X o0 σ H s1) E s
self:∀(A:Around)(i:Nat)(s:P_)(Q:B_)(E:B_),tn i s.heap->Q (.ref it) s->wpAny (model P w) A (pyIter (.ref it)) Q E s
theorem QM.q{P:N_}{w:Q_}{K:O_}{a:Expr}{J:It}{fp:H_}{it:R_}{b:Nat->Heap->Prop}(T:QM P w K a J fp it b):aAp (λX=>X.calm=o5) P w K a J fp it b :=
 ⟨T.obj,T.keep,λX c p w k=>T.item X p w k c,λX c p w k=>T.done X p w k c,T.self⟩
section
variable{X:Cx}{tg iter elt:Expr}{ifs:List Expr}{scope:Scope}{pos:Pos}{wi:TI}{g:TG}{tc:TT}{te:TE}{N:K_}{k:Nat}{cs:J_}{fin:List V->Hp->Prop}
theorem YY(hc:∀s H ex,Cq (cxC X scope N s H ex))(S:Bn X scope N k cs)
  (hg:∀s H ex,PG (cxC X scope N s H ex) tg g) (ht:∀s H ex,PTs (cxC X scope N s H ex) ifs tc) (he:∀s H ex,PE (cxC X scope N s H ex) elt te)
  (ID:Inv X l σ E sD) (hD:sD.heap.get? D=o3 {cls:=.type "list",data:=.seq ([]:F_).toArray n0}) (ag:X.s₀.heap.objs.size<=D) (fD:DX X l E D) (aj:D∉fp)
  (T:aAp Cq X.prog X.w X.K tg J fp it tn) (st:tn 0 sD.heap) (f2:∀b∈fp,DX X l E b) (a:Fk k cs g tc te J σ E fin)
  (au:s1.os=sD.os) (as:AllBare s1.gens) (hk:∀b o,sD.heap.get? b=o3 o->s1.heap.get? b=o3 o) (hn:∃m,s1.heap.Ns sD.heap.objs.size m)
  (ar:∀(B:Hp)(d:List V)(Y:P_),fin d B->B D=o4->Inv X l σ (upd B D (.lst d)) Y->(∃m,Y.heap.Ns sD.heap.objs.size m)->DX X l (upd B D (.lst d)) sD.heap.objs.size->RR (.ok .next) Y) :
  codeAny (model X.prog X.w) X.A (.compLoop (.ListComp elt [⟨tg,iter,ifs,0⟩] scope pos) 0 (.ref it) (.ref D) (compEnvC scope (VN X.env scope.names) sD.heap.objs.size X.env)) RR s1:=by
 obtain⟨W,⟨m0,w0⟩,turn⟩:=a;have U:∀b,b∈D::fp->∃o,sD.heap.get? b=o3 o:=λb a=>by
  rcases C4.mp a with rfl|z
  .exact⟨_,hD⟩
  .exact xea (T.obj _ _ st b z) λo e _=>⟨o,e⟩
 have t:∀b∈D::fp,DX X l E b/\∃o,sD.heap.get? b=o3 o:=λb a=>⟨by
  rcases C4.mp a with rfl|z
  .exact fD
  .exact f2 b z,U b a⟩
 have Q:∀b,b∈D::fp->b≠sD.heap.objs.size:=λb a z=>by
  obtain⟨o,e⟩:=U b a;exact absurd (F2 e) (by rw[z];exact R0 _)
 have ak:∀b,b∈D::fp->b∉frs X.stack:=λb a hf=>by
  rcases C4.mp (ID.stkSub b hf)with z|z
  .exact(t b a).1.2.1 z
  .exact(t b a).1.2.2.1 z
 have I0:=ID.block S t au as hk hn;have ac:=I0.ok;have I:∀b,b∈D::fp->∀x c,(VN X.env scope.names).lookup x=o3 c->c≠b:=λb a x c h=>(ac.exf b a).2 x c h;have L:∀{B:Hp}{pl:A_},(∀b∈fp,B b=o4)->(∀p∈pl,p.1=D)->∀b∈fp,DX (cxC X scope N sD E (D::fp)) pl B b:=λhn G b a =>
  ⟨hn b a,Q b (.tail _ a),ak b (.tail _ a),.inl (.tail _ a),I b (.tail _ a),λp av z=>aj (by
   have:=G p av;rw[<-this,z];exact a)⟩
 refine Uv (λn O=>∃(i:Nat)(d:List V)(f:F_)(P:Nat)(B:Hp),Inv (cxC X scope N sD E (D::fp)) [] (List.replicate k o4++Oy cs σ) B O/\tn i O.heap/\(∀b∈fp,B b=o4)/\B D=o4/\d.length<=sizeLine/\AR d f /\
  O.heap.get? D=o3 {cls:=.type "list",data:=.seq f.toArray P}/\W i n d B) ?_ m0
  ⟨0,[],[],n0,E,I0,T.keep _ _ _ st (λb _ o e=>hk b o e),λb a=>(f2 b a).1,fD.1,J9 _,.nil,hk _ _ hD,w0⟩
 intro n s3 az;refine xe5 az λi d f P H3 ax=>?_;refine xa5 ax λI3 al af aa ai ay=>?_;refine xa2 ay λv3 e3 w3=>?_;have ad:Inv (cxC X scope N sD E (D::fp)) [(D,{cls:=.type "list",data:=.seq f.toArray P})] (List.replicate k o4++Oy cs σ) H3 s3:=I3.pins_of λp G=>by
  rw[D4]at G;subst G;exact⟨e3,aa,Q D (.head _),ak D (.head _),λv z=>by cases z⟩
 have one:∀p∈[((D,{cls:=.type "list",data:=.seq f.toArray P}):Addr×Obj)],p.1=D:=λp G=>by
  rw[D4]at G;subst G;rfl
 rcases turn i n d H3 w3 with ⟨am,qf⟩|⟨go,Nx,ah,step⟩
 .refine thn (T.done (cxC X scope N sD E (D::fp)) (hc _ _ _) Z Z Z i _ s3 _ H3 _ ad (L af one) al am) λr Y M=>?_;obtain⟨hr,I4⟩:=M;subst hr;have IX:Inv X l σ H3 Y:=ID.call' (ch:=D::fp) I4.os I4.n9 I4.hok I4.bare λb a=>⟨(t b a).1.2.2.2.1,(t b a).1.2.1,(t b a).1.2.2.2.2.1,(t b a).1.2.2.2.2.2⟩
  have p4:=(I4.pin (D,{cls:=.type "list",data:=.seq f.toArray P}) (by show _∈[]++[_];simp)).1;have IY:Inv X l σ (upd H3 D (.lst d)) Y:=by
   refine IX.track aa (P0 ag) (P0 (D0 ID.ok.bsz ag)) (A1b fD.2.1) fD.2.2.2.2.1 fD.2.2.2.2.2 (λb a z=>fD.2.2.1 (z▸a)) ?_;exact⟨ai,f,P,v3,p4⟩
  refine ar H3 d Y qf aa IY ?_ (ID.fpOk (C0 _) ?_)
  .exact xea I4.loc λm hm _=>⟨m,hm⟩
  .rw[Av (A1b (Q D (.head _)))];exact I4.free
 .refine thn (T.item (cxC X scope N sD E (D::fp)) (hc _ _ _) Z Z Z i _ s3 _ H3 (λ_ _=>False) ad (L af one) al go) λr Y M=>xea M λu hr h4=>?_;subst hr;refine thn h4 λ_ s5 M=>CB M λx H5 I5 r5 y5 ab aq=>?_;have an:=I5.pinned (L aq one) (T.obj _ _ ab);refine thn (hg sD E (D::fp) _ s5 _ H5 x u _ an r5 (step x H5 y5)) λ_ s6 M=>?_;obtain⟨R,H6,I6,⟨ts,tl,ae⟩,a1,q6⟩:=M;refine thn (ht sD E (D::fp) _ s6 R H6 _ I6 q6) λb s7 M=>xea M λH7 I7 q7=>?_;have weak:∀{pl:A_}{B:Hp}{O:P_},Inv (cxC X scope N sD E (D::fp)) pl R B O->Inv (cxC X scope N sD E (D::fp)) [] (List.replicate k o4++Oy cs σ) B O:=λ{pl B O} J=>by
   refine(J.weak (σ':=List.replicate k o4++Oy cs σ) ?_ λj v e=>?_).pins_of λp G=>absurd G B0
   .rw[ae,C6,C6,Q6,tl]
   .by_cases z:j<k
    .rw[M5 (by simpa using z),Y7,A0e z]at e;cases e
    .rw[J0 (by rw[Q6];lia),Q6]at e;rw[ae,J0 A0,tl];exact e
  have C:∀{pl:A_}{σ':St}{B:Hp}{O:P_},Inv (cxC X scope N sD E (D::fp)) (pl++Np fp s5.heap) σ' B O->tn (i+1) O.heap/\∀b∈fp,B b=o4:=λ{pl σ' B O} J =>
   ⟨T.keep _ _ _ ab λb a o e=>(J.pin (b,o) (M0 _ (M0 _ (Jj a e)))).1,λb a=>by
    exact xea (T.obj _ _ ab b a) λo e _=>(J.pin (b,o) (M0 _ (M0 _ (Jj a e)))).2.1⟩
  cases b with
  |false =>
   have aw:Nx d H7:=by simpa using q7
   refine xea (ah _ _ aw) λm' hm w7=>?_;rw[A0c D9];have p7:=I7.pin (D,{cls:=.type "list",data:=.seq f.toArray P}) (M0 _ (U8 _ (D4.mpr Z)));exact⟨m',hm,i+1,d,f,P,H7,weak I7,(C I7).1,(C I7).2,p7.2.1,ai,v3,p7.1,w7⟩
  |true =>
   rw[A0e rfl]at q7;rw[A0e rfl];refine thn (he sD E (D::fp) _ s7 R H7 _ I7 q7) λy s8 M=>AN M λv H8 I8 r8 q8=>xea (ah _ _ q8) λm' hm w8=>?_;have p8:=I8.pin (D,{cls:=.type "list",data:=.seq f.toArray P}) (M0 _ (U8 _ (D4.mpr Z)));have a0:=v3.length;refine A7c F.slot_list_append ⟨_,p8.1,Z⟩ F.entry_list_append (F.args_list_append_2 _ _) (PySem.list_append D f.toArray P y (by rw[F3];lia)) ⟨p8.1,?_⟩;have q:=PySem.IsL.update p8.1 (·.push y);have eq:f.toArray.push y=(f++[y]).toArray:=by simp
   dsimp only at q;rw[eq]at q;have ao:Inv (cxC X scope N sD E (D::fp)) ([]++Np fp s5.heap) R H8 s8:=I8.pins_of λp G=>I8.pin p (M0 _ (M0 _ G));have I9:=ao.turned (t':=s8.toks) (it:=D) (h':=s8.heap.update D (Obj.mapSeq (·.push y))) (λb o a e=>(Z6 s8.heap (Obj.mapSeq (·.push y)) (A1b a)).trans e) p8.2.1 (Q D (.head _)) (.inl (.head _)) (I D (.head _))
    (λp G z=>aj (by
     have:=(QY (fp:=fp) (h:=s5.heap) (p:=p) (by simpa[cxC] using G)).1;rw[z]at this;exact this))
   refine⟨m',hm,i+1,d++[v],f++[y],_,H8,weak I9,(C I9).1,(C I9).2,p8.2.1,?_,v3.append (.cons r8 .nil),q,w8⟩;rw[C6,S3];lia
theorem Qk{i:A_}{σ:St}{B:Hp}{a:P_}{it:R_}{fp:H_}{L:Nat->Heap->Prop}{J:It}{RR:Value->Addr->Result->Shared->Prop}{E:B_}{Cq:Cx->Prop}(R:∀s H q,Cq (cxC X scope N s H q))(S:Bn X scope N k cs)
  (W:∀s H q,PG (cxC X scope N s H q) tg g) (Y:∀s H q,PTs (cxC X scope N s H q) ifs tc) (U:∀s H q,PE (cxC X scope N s H q) elt te)
  (t:Inv X i σ B a) (T:aAp Cq X.prog X.w X.K tg J fp it L) (st:L 0 a.heap) (O:∀b∈fp,DX X i B b) (Q:Fk k cs g tc te J σ B fin)
  (F:∀(D C:R_)(r:Hp)(c:List V)(u:P_),fin c r->r D=o4->Inv X i σ (upd r D (.lst c)) u->(∃m,u.heap.Ns C m)->DX X i (upd r D (.lst c)) C->RR (.ref D) C (.ok .next) u) :
  wpAny (model X.prog X.w) X.A (newList []) (λc d=>wpAny (model X.prog X.w) X.A (newFunctionEnv scope X.env.globals (VN X.env scope.names) [] X.env.qual o4 .none (o3 X.env)) (λl x =>
   codeAny (model X.prog X.w) X.A (.compStart (.ListComp elt [⟨tg,iter,ifs,0⟩] scope pos) 0 (.ref it) c {l with scope:=relabel scope X.env}) (RR c l.locals) x) E d) E a:=by
 refine A6e (wpAny_newFunctionEnv S.cell (by intro y hy;simp at hy) (λn f h=>?_) S.kind);dsimp only at f h⊢;have j:∀b o,a.heap.get? b=o3 o->(a.heap.push {cls:=.type "list",dict:=o4,data:=.seq ([]:F_).toArray}).get? b=o3 o:=λb o e=>C2 _ e;have M:=t.kept (t':=a.toks) j;have P:(a.heap.push {cls:=.type "list",dict:=o4,data:=.seq ([]:F_).toArray}).get? a.heap.objs.size=o3 {cls:=.type "list",data:=.seq ([]:F_).toArray}:=F0 _ Z;have G:a.heap.objs.size∉fp:=λz=>by
  exact xea (T.obj _ _ st _ z) λo e _=>absurd (F2 e) (R0 _)
 have v:=T.keep _ _ _ st λb _ o e=>j b o e;have I:∀b o,(a.heap.push {cls:=.type "list",dict:=o4,data:=.seq ([]:F_).toArray}).get? b=o3 o->n.get? b=o3 o:=λb o e=>h.extBut b o (J8 (F2 e)) (C2 _ e);have p:∀d:Shared,d={a with heap:=n,toks:=a.toks+([]:List (Str×Value)).length} ->
   codeAny (model X.prog X.w) X.A (.compLoop (.ListComp elt [⟨tg,iter,ifs,0⟩] scope pos) 0 (.ref it) (.ref a.heap.objs.size) (compEnvC scope (VN X.env scope.names) (a.heap.push {cls:=.type "list",dict:=o4,data:=.seq ([]:F_).toArray}).objs.size X.env))
    (RR (.ref a.heap.objs.size) (a.heap.push {cls:=.type "list",dict:=o4,data:=.seq ([]:F_).toArray}).objs.size) d:=by
  rintro d rfl;exact YY (sD:={a with heap:=a.heap.push {cls:=.type "list",dict:=o4,data:=.seq ([]:F_).toArray} }) R S W Y U M P t.sz (t.fpOk (C0 _) t.fresh) G T v O Q Z t.bare I ⟨_,f⟩ λr c u=>F _ _ r c u
 exact codeAny_compStart_list (p _ Z) (T.self _ 0 _ _ _ (T.keep _ _ _ v λb _ o e=>I b o e) (p _ Z))
theorem Cj(E:X.calm=o5)(S:Bn X scope N k cs)(hi:PI X tg iter wi)(K:∀s H d,PG (cxC X scope N s H d) tg g)(P:∀s H d,PTs (cxC X scope N s H d) ifs tc)(F:∀s H d,PE (cxC X scope N s H d) elt te)
  (O:∀x,foldedSetIterable iter X.env x=pure x:=by intro _;rfl):PE X (.ListComp elt [⟨tg,iter,ifs,0⟩] scope pos) (aG9 k cs wi g tc te):=by
 intro a s σ H Q I h;rw[eval_ListComp];refine wpAny_comprehension_free (use:=o4) Z O (Ql λy R G=>I.ok.has _ (S.free y R G)) S.kind S.names (thn (hi a s σ H _ I h) λv s1 B=>thn B λU s2 p=>?_);refine xe5 p λit fp tn J H2 i=>?_;refine xa5 i λj t T n z l=>?_;clear i;clear p;subst j;refine Qk (RR:=λc C=>compPost (model X.prog X.w) X.A X.xe o4 (EP X a σ Q) c C) (Cq:=λX=>X.calm=o5) (λ_ _ _=>E) S K P F t T.q n z l λD C r c Y W V u M f=>?_;obtain⟨m,L⟩:=M;refine⟨m,L,λh' sb=>⟨.ref D,upd r D (.lst c),?_,Z,W D V⟩⟩;exact u.turned (t':=Y.toks) (it:=C) (λb o l e=>(sb.2 b l).trans e) f.1 f.2.1 f.2.2.2.1 f.2.2.2.2.1 f.2.2.2.2.2
def Zn(i k:Nat)(cs:J_)(wi:TI)(g:TG)(tc:TT)(te:TE):TS:=λD σ H=>wi σ H λJ H1=>Fk k cs g tc te J σ H1 λacc H2=>∀p,H2 p=o4->D.nx (σ.set i (o3 (.ref p))) (upd H2 p (.lst acc))
theorem DS{l d:Pos}(hc:X.calm=o5)(hN:X.N.Nodup)(E:X.N[i]?=o3 y)(r:X.env.scope.names.lookup y=o3 .local)(S:Bn X scope N k cs)(hi:PI X tg iter wi)
  (hg:∀s H n,PG (cxC X scope N s H n) tg g) (ht:∀s H n,PTs (cxC X scope N s H n) ifs tc) (he:∀s H n,PE (cxC X scope N s H n) elt te)
  (G:swapsWith (.ListComp elt [⟨tg,iter,ifs,0⟩] scope pos) (o3 (.Name y l)) d.line X.env=pure o5:=by rfl) (hs:∀x,foldedSetIterable iter X.env x=pure x:=by intro _;rfl) :
  PS X (.Assign [.Name y l] (.ListComp elt [⟨tg,iter,ifs,0⟩] scope pos) d) (Zn i k cs wi g tc te):=by
 intro c s σ H D I h;rw[exec_Assign_Name_used _ _ _ _ G];refine A0b (B0e (A0b ?_));show wpAny _ X.A (do let _ <-comprehension (.ListComp elt [⟨tg,iter,ifs,0⟩] scope pos) scope X.env _ (newList []) o6 (eval iter X.env) (o3 (assign (.Name y l) X.env))) _ _ s;refine A0b (A3e (wpAny_comprehension_free (use:=o3 (assign (.Name y l) X.env)) (Q:=λ_ t=>SP X c D .next t) Z hs (Ql λy r hf=>I.ok.has _ (S.free y r hf)) S.kind S.names
  (thn (hi c s σ H _ I h) λv s1 h1=>thn h1 λaa s2 P=>?_)) (λ_ t hq=>A0h (A0h hq)) λ_ _ e=>e)
 refine xe5 P λit fp tn J H2 p=>?_;refine xa5 p λu U T O Y B=>?_;clear p;clear P;subst u;refine Qk (RR:=λf C=>compPost (model X.prog X.w) X.A X.xe (o3 (assign (.Name y l) X.env)) (λ_ t=>SP X c D .next t) f C) (Cq:=λX=>X.calm=o5) (λ_ _ _=>hc) S hg ht he U T.q O Y B λL C R f s4 qf nD V hn j=>?_;obtain⟨m,hm⟩:=hn;show wpAny _ X.A (assign (.Name y l) X.env (.ref L)) _ _ _;refine wpAny_assign_Name (QU V hN E (.inl r) (v:=.ref L) Z (λs5 W F=>?_) (.inr r));refine xea F λa sb ha=>?_;have K:C≠a:=by
  rcases ha with z|z
  .rw[z];exact j.2.1
  .exact λq=>j.2.2.2.2.1 y a z q.symm
 refine⟨m,hm.sameBut sb K,λh' M=>⟨σ.set i (o3 (.ref L)),upd R L (.lst f),?_,qf L nD⟩⟩;exact W.turned (t':=s5.toks) (it:=C) (λb o B e=>(M.2 b B).trans e) j.1 j.2.1 j.2.2.2.1 j.2.2.2.2.1 j.2.2.2.2.2
end
section
variable{K:O_}{k:Nat}{cs:J_}{g:TG}{tc:TT}{te:TE}{σ:St}{H:Hp}{fin:List V->Hp->Prop}
abbrev Bt(k:Nat)(cs:J_)(g:TG)(tc:TT)(te:TE)(σ:St)(x:V)(acc:List V)(H:Hp)(Nx:List V->Hp->Prop):Prop :=
 g x (List.replicate k o4++Oy cs σ) H fun σ2 H2=>(∃ts:St,ts.length=k/\σ2=ts++Oy cs σ)/\acc.length<sizeLine/\tc σ2 H2 λb H3=>if b=o5 then te σ2 H3 λv H4=>Nx (acc++[v]) H4 else Nx acc H3
theorem Db(c:Nat->List V->Hp->Prop)(n:c 0 [] H)(r:∀i b H,i<=xs.length->c i b H->SqL K H a xs)
  (s:∀i x b H,xs[i]?=o3 x->c i b H->Bt k cs g tc te σ x b H (c (i+1))) (o:∀b H,c xs.length b H->fin b H):Fk k cs g tc te (Itl K a) σ H fin:=by
 refine⟨λi m b H=>m=xs.length-i/\i<=xs.length/\c i b H,⟨xs.length,by simp,J9 _,n⟩,?_⟩;intro i m b H f;refine xa2 f λh hi p=>?_;clear f;subst h;have q:=r i b H hi p;by_cases d:i<xs.length
 .refine .inr ⟨⟨xs,xs[i],q,by simp[d]⟩,c (i+1),λj l t=>⟨xs.length-(i+1),by lia,Z,d,t⟩,λx l y=>?_⟩;obtain⟨e,y⟩:=y;subst e;exact s i x b _ (y xs q) p
 .have e:i=xs.length:=by lia
  subst e;exact .inl ⟨⟨xs,q,C0 _⟩,o b H p⟩
theorem OQ(c:Nat->List V->Hp->Prop)(n:c 0 [] H)(r:∀i b H,i<=xs.length->c i b H->SqT K H a xs)
  (s:∀i x b H,xs[i]?=o3 x->c i b H->Bt k cs g tc te σ x b H (c (i+1))) (o:∀b H,c xs.length b H->fin b H):Fk k cs g tc te (Itt K a) σ H fin:=by
 refine⟨λi m b H=>m=xs.length-i/\i<=xs.length/\c i b H,⟨xs.length,by simp,J9 _,n⟩,?_⟩;intro i m b H f;refine xa2 f λh hi p=>?_;clear f;subst h;have q:=r i b H hi p;by_cases d:i<xs.length
 .refine .inr ⟨⟨xs,xs[i],q,by simp[d]⟩,c (i+1),λj l t=>⟨xs.length-(i+1),by lia,Z,d,t⟩,λx l y=>?_⟩;obtain⟨e,y⟩:=y;subst e;exact s i x b _ (y xs q) p
 .have e:i=xs.length:=by lia
  subst e;exact .inl ⟨⟨xs,q,C0 _⟩,o b H p⟩
theorem Ru{lo:Int}{n:Nat}(c:Nat->List V->Hp->Prop)(l:c 0 [] H)(q:∀i a H,i<n->c i a H->Bt k cs g tc te σ (.int (lo+i)) a H (c (i+1)))(o:∀a H,c n a H->fin a H):Fk k cs g tc te (Itr lo n) σ H fin:=by
 refine⟨λi m a H=>m=n-i/\i<=n/\c i a H,⟨n,by simp,J9 _,l⟩,?_⟩;intro i m a H d;refine xa2 d λf hi p=>?_;clear d;subst f;by_cases b:i<n
 .refine .inr ⟨b,c (i+1),λh j r=>⟨n-(i+1),by lia,Z,b,r⟩,λx j y=>?_⟩;obtain⟨e,y⟩:=y;subst e y;exact q i a _ b p
 .have e:i=n:=by lia
  subst e;exact .inl ⟨C0 _,o a H p⟩
end
section
variable{prog:N_}{w:Q_}{A:Around}{E:B_}{s:P_}
theorem ME{I t:R_}{k:Nat}(c:s.heap.IsTupleIter I t k)(i:s.heap.IsTuple t vs)(j:vs[k]?=o3 v)
  (q:∀g,g.IsTupleIter I t (k+1)->Heap.SameBut I s.heap g->Q v {s with heap:=g}):wpAny (model prog w) A (Builtin.SmallTypes.nextOf (.ref I)) Q E s:=by
 refine AS (id c) λm b e a=>?_;refine AS i λn h _ d=>?_;refine xe d λl f=>?_;unfold Builtin.SmallTypes.nextOf;refine A0b (wpAny_callSpecial?_slot (name:=Str.ofString "__next__") c.typeIs A6f (A5b A6f c.typeIs F.entry_tuple_iterator_next ?_ (F.args_tuple_iterator_next_1 _)));show wpAny _ _ (field (.ref I) 0 >>= _) _ _ s;refine A0b (A4f b a (x:=.ref t) Z ?_);show wpAny _ _ (if(Value.ref t==Value.none)=o5 then _ else _) _ _ s;rw[A0c (λz:(Value.ref t==Value.none)=o5=>D9 z)];show wpAny _ _ (field (.ref I) 1 >>= _) _ _ s;refine A0b (A4f b a (x:=.int k 0) Z ?_);show wpAny _ _ (seqItems? (.ref t) >>= _) _ _ s;refine A0b (A5c h f ?_);simp only[L8,j];refine A0b (B0c b a B0 (A0h ⟨v,Z,A0h (q _ ?_ (A8a ..))⟩));exact⟨_,X6 _ b (Obj.isFreed_of_fields (A8d a _)),(Obj.cls_mapFields ..).trans e,by rw[A8d a];simp[rawInt]⟩
theorem NC{I t:R_}{k:Nat}(h:A.handled=o4)(d:s.heap.IsTupleIter I t k)(l:s.heap.IsTuple t vs)(n:vs[k]?=o4)
  (q:∀g e,Heap.ExtBut I s.heap g->(∃o,g.get? e=o3 o/\o.cls=.type "StopIteration")->E (.ref e) {s with heap:=g}):wpAny (model prog w) A (Builtin.SmallTypes.nextOf (.ref I)) Q E s:=by
 refine AS (id d) λu c p b=>?_;refine AS l λv j _ f=>?_;refine xe f λr i=>?_;unfold Builtin.SmallTypes.nextOf;refine A0b (wpAny_callSpecial?_slot (name:=Str.ofString "__next__") d.typeIs A6f (A5b A6f d.typeIs F.entry_tuple_iterator_next ?_ (F.args_tuple_iterator_next_1 _)));show wpAny _ _ (field (.ref I) 0 >>= _) _ _ s;refine A0b (A4f c b (x:=.ref t) Z ?_);show wpAny _ _ (if(Value.ref t==Value.none)=o5 then _ else _) _ _ s;rw[A0c (λz:(Value.ref t==Value.none)=o5=>D9 z)];show wpAny _ _ (field (.ref I) 1 >>= _) _ _ s;refine A0b (A4f c b (x:=.int k 0) Z ?_);show wpAny _ _ (seqItems? (.ref t) >>= _) _ _ s;refine A0b (A5c j i ?_);simp only[L8,n];refine A0b (A6g (A0b (B0c c b B0 ?_)));show wpAny _ _ (newExc (.type "StopIteration") [] >>= _) _ _ _;refine A0b ?_;simp only[newExc,newTuple];refine A0b (A6e ?_ (by size_fits));refine A0b (m:=firstArgMember _ _) (wpAny_of_eq (a:=Value.none) (by first|rfl|(simp only[firstArgMember];rfl)) (A6e ?_ (by size_fits)));simp only[raiseNew];refine A0b (wpAny_handled ?_)
 first|rw[show A.in1.handled=o4 from h]|rw[h]
 refine A0b (A0h (wpAny_throw (q _ _ (((A8a ..).extBut.push _).push _) ⟨_,F0 _ Z,Z⟩)))
def Dk:Bool->Heap->Addr->Addr->Nat->Prop
|true,h,I,l,k=>h.IsTupleIter I l k
|false,h,I,l,k=>h.IsListIter I l k
def Ex:Bool->Heap->Addr->Array Value->Prop
|true,h,l,vs=>h.IsTuple l vs
|false,h,l,vs=>h.IsList l vs
def SqX(K:O_):Bool->Hp->Addr->List V->Prop
|true,H,a,xs=>SqT K H a xs
|false,H,a,xs=>SqL K H a xs
theorem Dk.move{k:Nat}(x:Dk b h I l k)(e:∀o,h.get? I=o3 o->g.get? I=o3 o):Dk b g I l k:=by
 cases b with
 |true=>refine xea x λo a r=>?_;exact⟨o,e _ a,r⟩
 |false=>refine xea x λo a r=>?_;exact⟨o,e _ a,r⟩
theorem Dk.there{k:Nat}(x:Dk b h I l k):∃o,h.get? I=o3 o/\∀v,o.data≠.cell v:=by
 cases b with
 |true=>refine AS x λo a _ d=>?_;exact⟨o,a,λv z=>by rw[d]at z;cases z⟩
 |false=>refine AS x λo a _ d=>?_;exact⟨o,a,λv z=>by rw[d]at z;cases z⟩
theorem Ex.move(x:Ex b h l vs)(e:∀o,h.get? l=o3 o->g.get? l=o3 o):Ex b g l vs:=by
 cases b with
 |true=>refine xea x λo a r=>?_;exact⟨o,e _ a,r⟩
 |false=>refine xea x λo a r=>?_;exact⟨o,e _ a,r⟩
theorem DQ{k:Nat}(a:Dk b s.heap I l k)(c:Ex b s.heap l vs)(d:vs[k]?=o3 v)
  (q:∀g,Dk b g I l (k+1)->Heap.SameBut I s.heap g->Q v {s with heap:=g}):wpAny (model prog w) A (Builtin.SmallTypes.nextOf (.ref I)) Q E s:=by
 cases b with
 |true=>exact ME a c d q
 |false=>exact wpAny_nextOf_list_item a c d q
theorem Gs{k:Nat}(a:A.handled=o4)(c:Dk b s.heap I l k)(d:Ex b s.heap l vs)(f:vs[k]?=o4)
  (q:∀g e,Heap.ExtBut I s.heap g->(∃o,g.get? e=o3 o/\o.cls=.type "StopIteration")->E (.ref e) {s with heap:=g}):wpAny (model prog w) A (Builtin.SmallTypes.nextOf (.ref I)) Q E s:=by
 cases b with
 |true=>exact NC a c d f q
 |false=>exact wpAny_nextOf_list_end a c d f q
theorem Gc(a:Ex b s.heap l vs)
  (q:∀g,Dk b g s.heap.objs.size l 0->g.objs.size=s.heap.objs.size+1->(∀c o,s.heap.get? c=o3 o->g.get? c=o3 o)->Q (.ref s.heap.objs.size) {s with heap:=g}):wpAny (model prog w) A (pyIter (.ref l)) Q E s:=by
 cases b with
 |true=>exact wpAny_pyIter_tuple a (q _ ⟨_,F0 _ Z,Z,Z⟩ (O9 ..) λc o e=>C2 _ e)
 |false=>exact A6d a (q _ ⟨_,F0 _ Z,Z,Z⟩ (O9 ..) λc o e=>C2 _ e)
structure Yd(z U O i j l m:R_):Prop where
nd:[z,U,O,i,j].Nodup
l:l∉[z,O,i,j]
m:m∉[z,O,i,j]
theorem Zd{b c:Bool}{z U O i j l m:R_}{k:Nat}{xs ys:M_}{x y p q:S_}{Q:B_}(D:Yd z U O i j l m)(K:IsZip s.heap z U O .none)(hU:IsPair s.heap U (.ref i) (.ref j))(hO:IsPair s.heap O p q)
  (hi:Dk b s.heap i l k) (hj:Dk c s.heap j m k) (hl:Ex b s.heap l xs) (hm:Ex c s.heap m ys) (hx:xs[k]?=o3 x) (hy:ys[k]?=o3 y)
  (fin:∀g,IsZip g z U O (rawInt s.heap.objs.size)->IsPair g O x y->Dk b g i l (k+1)->Dk c g j m (k+1)->IsPair g s.heap.objs.size x y->g.objs.size=s.heap.objs.size+1 ->
   (∀a o,a∉[z,O,i,j]->s.heap.get? a=o3 o->g.get? a=o3 o)->Q (.ref s.heap.objs.size) {s with heap:=g}) :
  wpAny (model prog w) A (Builtin.«zip.__next__» ⟨[.ref z],[]⟩) (λr s'=>∃v,r=.done (.ret v)/\Q v s') E s:=by
 obtain⟨nd,nl,nm⟩:=D;simp only[O0,C4,F6,A2h,A8f,R6,and_true,A6h]at nd nl nm;obtain⟨⟨zU,V,zi,zj⟩,⟨UO,Ui,Uj⟩,⟨W,X⟩,ij⟩:=nd;refine xa3 nl λlz lO li lj=>xa3 nm λmz mO mi mj=>?_;show wpAny _ _ (field (.ref z) 2 >>= _) _ _ _;refine A0b (A4f K Z (x:=.bool o6) Z ?_);show wpAny _ _ (field (.ref z) 3 >>= _) _ _ _;refine A0b (A4f K Z (x:=.ref U) Z (A0b (A5c hU Z ?_)));show wpAny _ _ (Builtin.SmallTypes.ownedTupleIsFree (.ref z) >>= _) _ _ _;refine A0b ?_;unfold Builtin.SmallTypes.ownedTupleIsFree;refine A0b (A4f K Z (x:=.none) Z (A0h ?_));simp only[A7h];refine A0b (A6g (A0b (A4f K Z (x:=.ref O) Z (A0b (A5g K B0 λh1 u C=>?_)))));replace u:IsZip h1 z U O .ellipsis:=u;refine A0b ?_;simp only[List.zipIdx_cons,List.zipIdx_nil,List.forIn_cons,List.forIn_nil];refine A0b (A0b (B0f ?_));show wpAny _ _ (Builtin.SmallTypes.nextOf (.ref i) >>= _) _ _ _;refine A0b (DQ (hi.move λo e=>C.extBut _ _ (A1b zi) e) (hl.move λo e=>C.extBut _ _ lz e) hx λh2 aa F=>A0h ?_);have H:=F.extBut _ _ W (C.extBut _ _ (A1b V) hO);refine A0b (A5c H Z (A0b (B0d H λh3 t G=>?_)));replace t:IsPair h3 O x q:=t;refine A0b (wpAny_letGo (A0h (A0b (A0b (B0f ?_)))));show wpAny _ _ (Builtin.SmallTypes.nextOf (.ref j) >>= _) _ _ _;refine A0b (DQ (hj.move λo e=>G.extBut _ _ (A1b X) (F.extBut _ _ (A1b ij) (C.extBut _ _ (A1b zj) e))) (hm.move λo e=>G.extBut _ _ mO (F.extBut _ _ mi (C.extBut _ _ mz e))) hy λh4 ac M=>A0h ?_);have I:=M.extBut _ _ X t;refine A0b (A5c I Z (A0b (B0d I λd h N=>?_)));replace h:IsPair d O x y:=h;refine A0b (wpAny_letGo (A0h (A0h (A0b (A5c h Z (A0b (wpAny_newTuple ?_)))))));have sz:d.objs.size=s.heap.objs.size:=by rw[N.1,M.1,G.1,F.1,C.1]
 have L:=N.extBut _ _ V (M.extBut _ _ zj (G.extBut _ _ V (F.extBut _ _ zi u)));have kp:∀a o,a∉[z,O,i,j]->s.heap.get? a=o3 o->d.get? a=o3 o:=λa o f e=>by
  simp only[C4,F6,A2h,A8f]at f;exact N.extBut _ _ f.2.1 (M.extBut _ _ f.2.2.2 (G.extBut _ _ f.2.1 (F.extBut _ _ f.2.2.1 (C.extBut _ _ f.1 e))))
 have ab:=aa.move λo e=>N.extBut _ _ (A1b W) (M.extBut _ _ ij (G.extBut _ _ (A1b W) e));have ad:=ac.move λo e=>N.extBut _ _ (A1b X) e;have R:=F2 L;show wpAny _ _ (Builtin.SmallTypes.ownedTupleHandOut (.ref z) (.ref d.objs.size) >>= _) _ _ _;refine A0b ?_;unfold Builtin.SmallTypes.ownedTupleHandOut;have Y:IsZip (d.push {cls:=.type "tuple",data:=.seq #[x,y]}) z U O .ellipsis:=C2 _ L;refine A0b (A5g Y B0 λh7 B s7=>?_);replace B:IsZip h7 z U O (rawInt d.objs.size):=B;refine A5g B B0 λS n s8=>?_;replace n:IsZip S z U O (rawInt d.objs.size):=n;have T:∀a o,a≠z->d.get? a=o3 o->S.get? a=o3 o:=λa o na e=>s8.extBut _ _ na (s7.extBut _ _ na (C2 _ e));have hT:=s8.extBut _ _ (V4 R) (s7.extBut _ _ (V4 R) (F0 _ Z));have P:S.objs.size=d.objs.size+1:=by rw[s8.1,s7.1,O9]
 rw[sz]at n hT P;refine A0h ⟨_,Z,?_⟩;show Q (.ref d.objs.size) _;rw[sz];refine fin S n (T _ _ (A1b V) h) (ab.move λo e=>T _ o (A1b zi) e) (ad.move λo e=>T _ o (A1b zj) e) hT P λa o f e=>T a o ?_ (kp a o f e);simp only[C4,F6,A2h,A8f]at f;exact f.1
theorem Zc{b c:Bool}{z U O i j l m:R_}{k:Nat}{p q:S_}(P:A.handled=o4)(D:Yd z U O i j l m)(B:IsZip s.heap z U O .none)(hU:IsPair s.heap U (.ref i) (.ref j))(hO:IsPair s.heap O p q)
  (hi:Dk b s.heap i l k) (hj:Dk c s.heap j m k) (R:Ex b s.heap l xs) (hm:Ex c s.heap m ys) (G:xs[k]?=o4\/ys[k]?=o4)
  (fin:∀g e,(∀a o,a∉[z,O,i,j]->s.heap.get? a=o3 o->g.get? a=o3 o)->(∃o,g.get? e=o3 o/\o.cls=.type "StopIteration")->E (.ref e) {s with heap:=g}) :
  wpAny (model prog w) A (Builtin.«zip.__next__» ⟨[.ref z],[]⟩) Q E s:=by
 obtain⟨T,nl,nm⟩:=D;simp only[O0,C4,F6,A2h,A8f,R6,and_true,A6h]at T nl nm;obtain⟨⟨zU,X,H,Y⟩,⟨UO,Ui,Uj⟩,⟨Oi,Oj⟩,ij⟩:=T;refine xa3 nl λS lO li lj=>xa3 nm λmz mO mi mj=>?_;show wpAny _ _ (field (.ref z) 2 >>= _) _ _ _;refine A0b (A4f B Z (x:=.bool o6) Z ?_);show wpAny _ _ (field (.ref z) 3 >>= _) _ _ _;refine A0b (A4f B Z (x:=.ref U) Z (A0b (A5c hU Z ?_)));show wpAny _ _ (Builtin.SmallTypes.ownedTupleIsFree (.ref z) >>= _) _ _ _;refine A0b ?_;unfold Builtin.SmallTypes.ownedTupleIsFree;refine A0b (A4f B Z (x:=.none) Z (A0h ?_));simp only[A7h];refine A0b (A6g (A0b (A4f B Z (x:=.ref O) Z (A0b (A5g B B0 λh1 n r=>?_)))));replace n:IsZip h1 z U O .ellipsis:=n;refine A0b ?_;simp only[List.zipIdx_cons,List.zipIdx_nil,List.forIn_cons,List.forIn_nil];refine A0b (A0b (B0f ?_));show wpAny _ _ (Builtin.SmallTypes.nextOf (.ref i) >>= _) _ _ _;have out:∀{a:R_},a∉[z,O,i,j]->a≠z/\a≠O/\a≠i/\a≠j:=λf=>by simpa only[C4,F6,A2h,A8f] using f
 cases L:xs[k]? with
 |none =>
  refine A0b (Gs P (hi.move λo e=>r.extBut _ _ (A1b H) e) (R.move λo e=>r.extBut _ _ S e) L λh2 e u K=>?_);refine xea K λM d h=>?_;have C:=u _ _ H n;have I:e≠z:=λt=>by subst t;rw[C]at d;cases d;simp at h
  exact A5g C B0 λN _ v=>fin N e (λa o f t=>v.extBut _ _ (out f).1 (u _ _ (out f).2.2.1 (r.extBut _ _ (out f).1 t))) ⟨M,v.extBut _ _ I d,h⟩
 |some x =>
  have hy:ys[k]?=o4:=by
   rcases G with t|t
   .rw[L]at t;cases t
   .exact t
  refine A0b (DQ (hi.move λo e=>r.extBut _ _ (A1b H) e) (R.move λo e=>r.extBut _ _ S e) L λh2 ab u=>A0h ?_);have y:=u.extBut _ _ Oi (r.extBut _ _ (A1b X) hO);refine A0b (A5c y Z (A0b (B0d y λN aa v=>?_)));refine A0b (wpAny_letGo (A0h (A0b (A0b (B0f ?_)))));show wpAny _ _ (Builtin.SmallTypes.nextOf (.ref j) >>= _) _ _ _;refine A0b (Gs P (hj.move λo e=>v.extBut _ _ (A1b Oj) (u.extBut _ _ (A1b ij) (r.extBut _ _ (A1b Y) e))) (hm.move λo e=>v.extBut _ _ mO (u.extBut _ _ mi (r.extBut _ _ mz e))) hy λh4 e V K=>?_);refine xea K λM d h=>?_;have F:=V _ _ Y (v.extBut _ _ X (u.extBut _ _ H n));have I:e≠z:=λt=>by subst t;rw[F]at d;cases d;simp at h
  exact A5g F B0 λh5 _ W=>fin h5 e (λa o f t=>W.extBut _ _ (out f).1 (V _ _ (out f).2.2.2 (v.extBut _ _ (out f).2.1 (u.extBut _ _ (out f).2.2.1 (r.extBut _ _ (out f).1 t))))) ⟨M,W.extBut _ _ I d,h⟩
theorem Ze(b:T_)(n:Nat)(d:b.objs.size=n+2)(i j:S_):∃c,c=((b.push {cls:=.type "tuple",data:=.seq #[i,j]}).push {cls:=.type "tuple",data:=.seq #[.none,.none]}).push
   {cls:=.type "zip",data:=.fields #[.none,.bool o6,.bool o6,.ref b.objs.size,.ref (b.push {cls:=.type "tuple",data:=.seq #[i,j]}).objs.size]} /\
  IsZip c (n+4) (n+2) (n+3) .none/\IsPair c (n+2) i j/\IsPair c (n+3) .none .none/\(∀a o,b.get? a=o3 o->c.get? a=o3 o) /\
  ((b.push {cls:=.type "tuple",data:=.seq #[i,j]}).push {cls:=.type "tuple",data:=.seq #[.none,.none]}).objs.size=n+4:=by
 have f:(b.push {cls:=.type "tuple",data:=.seq #[i,j]}).objs.size=n+3:=by rw[O9,d]
 have g:((b.push {cls:=.type "tuple",data:=.seq #[i,j]}).push {cls:=.type "tuple",data:=.seq #[.none,.none]}).objs.size=n+4:=by rw[O9,f]
 refine⟨_,Z,?_,?_,?_,λa o e=>C2 _ (C2 _ (C2 _ e)),g⟩
 .have q:=F0 ((b.push {cls:=.type "tuple",data:=.seq #[i,j]}).push {cls:=.type "tuple",data:=.seq #[.none,.none]}) (o:={cls:=.type "zip",data:=.fields #[.none,.bool o6,.bool o6,.ref b.objs.size,.ref (b.push {cls:=.type "tuple",data:=.seq #[i,j]}).objs.size]}) Z;rw[g]at q;show _=o3 _;rw[q,d,f]
 .have q:=C2 {cls:=.type "zip",data:=.fields #[.none,.bool o6,.bool o6,.ref b.objs.size,.ref (b.push {cls:=.type "tuple",data:=.seq #[i,j]}).objs.size]} (C2 {cls:=.type "tuple",data:=.seq #[.none,.none]} (F0 b (o:={cls:=.type "tuple",data:=.seq #[i,j]}) Z));rw[<-d];exact q
 .have q:=C2 {cls:=.type "zip",data:=.fields #[.none,.bool o6,.bool o6,.ref b.objs.size,.ref (b.push {cls:=.type "tuple",data:=.seq #[i,j]}).objs.size]} (F0 (b.push {cls:=.type "tuple",data:=.seq #[i,j]}) (o:={cls:=.type "tuple",data:=.seq #[.none,.none]}) Z);rw[<-f];exact q
theorem YF{b c:Bool}(l m:R_)(xs ys:M_):Meets (Builtin.«zip.__new__» ⟨[.type "zip",.ref l,.ref m],[]⟩) (λ_ R s=>Ex b s.heap l xs/\Ex c s.heap m ys /\
   ∀g,IsZip g (s.heap.objs.size+4) (s.heap.objs.size+2) (s.heap.objs.size+3) .none->IsPair g (s.heap.objs.size+2) (.ref s.heap.objs.size) (.ref (s.heap.objs.size+1))->IsPair g (s.heap.objs.size+3) .none .none ->
    Dk b g s.heap.objs.size l 0->Dk c g (s.heap.objs.size+1) m 0->(∀a o,s.heap.get? a=o3 o->g.get? a=o3 o)->R (.ok (.ret (.ref (s.heap.objs.size+4)))) {s with heap:=g}) :=
 .of_wp λprog w A R s h=>by
  obtain⟨f,g,d,tk,O⟩:=s;refine xa2 h λG H h=>?_;have v:=sub_zip
  wp_walk using Gc G
  intro t I M x;have p:=H.move λo e=>x _ o e
  wp_walk using Gc p
  intro j K N y
  wp_walk
  refine⟨_,Z,?_⟩;have n:=M;have D:j.objs.size=f.objs.size+2:=by rw[show j.objs.size=t.objs.size+1 from N,n]
  obtain⟨u,F,z,B,C,r,L⟩:=Ze j f.objs.size D (.ref f.objs.size) (.ref t.objs.size);have k:IsPair u (f.objs.size+2) (.ref f.objs.size) (.ref (f.objs.size+1)):=by rw[<-n];exact B
  have q:Dk c j (f.objs.size+1) m 0:=by rw[<-n];exact K
  have i:=h u z k C ((I.move λo e=>y _ o e).move λo e=>r _ o e) (q.move λo e=>r _ o e) λa o e=>r _ _ (y _ _ (x _ _ e));dsimp only at i;rw[F,<-L]at i;exact i
theorem Inv.turnedL{X:Cx}{d:A_}{σ:St}{H:Hp}{s:P_}{g:T_}{tk:Nat}{ch:H_}(I:Inv X d σ H s)(k:∀b o,b∉ch->s.heap.get? b=o3 o->g.get? b=o3 o)(a:∀b∈ch,DX X d H b):Inv X d σ H {s with heap:=g,toks:=tk}:=by
 have h:∀b u,H b=o3 u->b∉ch:=λb u e z=>by rw[(a b z).1]at e;cases e
 refine I.step (g':=s.gens) (d':=s.drawn) (ch:=ch) (λb i=>⟨(a b i).2.2.2.1,(a b i).2.1,(a b i).2.2.2.2.1,(a b i).2.2.2.2.2⟩) (λb o _ _ f e _=>k b o f e) (λb o _ _ f e _=>⟨o.slots,k b o f e⟩) (λ_ _ _ _ n=>n)
  (λb o f e=>⟨o,k b o f e⟩) (λ_ _ e=>e) (λ_ _ _ e=>e) (λb y e=>⟨#[],by rw[e];simp⟩) (λm t=>?_) (λb u e=>?_) I.bare
 .refine xe3 t λo p l j=>?_;refine xa j λx r=>?_;exact⟨o,p,l,k _ o (λz=>(a _ z).2.1 Z) x,r⟩
 .refine(I.hok b u e).stay (λc v f q=>k c v ?_ q) (λ_ q=>q) λ_ _ q=>q;rcases f with z|z
  .rw[z];exact h b u e
  .exact h c _ z
theorem Inv.pair{X:Cx}{a:A_}{σ:St}{H:Hp}{s:P_}{g:T_}{tk n:Nat}{ch:H_}{x y:V}{u v:S_}(I:Inv X a σ H s)(k:∀b o,b∉ch->s.heap.get? b=o3 o->g.get? b=o3 o)(c:∀b∈ch,DX X a H b)
  (h:Bf x u) (i:Bf y v) (e:g.get? s.heap.objs.size=o3 {cls:=.type "tuple",data:=.seq #[u,v] n}):H s.heap.objs.size=o4/\Inv X a σ (upd H s.heap.objs.size (.tup [x,y])) {s with heap:=g,toks:=tk}:=by
 have f:=I.fpOk (C0 _) I.fresh;refine⟨f.1,(I.turnedL (tk:=tk) k c).track f.1 (P0 I.sz) (P0 (D0 I.ok.bsz I.sz)) (A1b f.2.1) f.2.2.2.2.1 f.2.2.2.2.2 (λb d z=>f.2.2.1 (z▸d)) ?_⟩;exact⟨by show 2<=sizeLine;decide,[u,v],.cons h (.cons i .nil),_,e,Z,n,Z⟩
theorem Inv.sq{s:P_}(I:Inv X d σ H s)(h:SqX X.K b H a xs):∃c:List Value,AR xs c/\Ex b s.heap a c.toArray:=by
 cases b with
 |true =>
  exact AS (I.tuple h) λc r p _=>⟨c,r,p⟩
 |false =>
  exact AS (I.list h) λc r p _=>⟨c,r,p.isList⟩
theorem Inv.sq_inj{c:A_}{s:P_}(I:Inv X c σ H s)(h:SqX X.K b H a xs)(h':SqX X.K b H a ys):xs=ys:=by
 cases b with
 |true=>exact I.tuple_inj h h'
 |false=>exact I.list_inj h h'
noncomputable def Itz(K:O_)(b c:Bool)(l m:R_):It :=
 ⟨λi H=>∃xs ys x y,SqX K b H l xs/\SqX K c H m ys/\xs[i]?=o3 x/\ys[i]?=o3 y,
  λi H v H'=>∃(T:R_)(x y:V),v=.ref T/\H T=o4/\H'=upd H T (.tup [x,y])/\(∀xs,SqX K b H l xs->xs[i]?=o3 x)/\∀ys,SqX K c H m ys->ys[i]?=o3 y,
  λi H=>∃xs ys,SqX K b H l xs/\SqX K c H m ys/\(xs.length<=i\/ys.length<=i)⟩
def aFx(b c:Bool)(z U O i j l m:R_)(k:Nat)(h:T_):Prop:=IsZip h z U O .none/\IsPair h U (.ref i) (.ref j)/\(∃p q,IsPair h O p q)/\Dk b h i l k/\Dk c h j m k
theorem Zl{P:N_}{w:Q_}{K:O_}{es:List Expr}{n:Nat}{Q:Pos}{b c:Bool}{z U O i j l m:R_}(D:Yd z U O i j l m):QM P w K (.Tuple es n Q) (Itz K b c l m) [z,U,O,i,j] z (aFx b c z U O i j l m) where
 mem:=by simp
 obj:=λk h st a d=>by
  obtain⟨f,r,⟨p,q,B⟩,hi,C⟩:=st;simp only[C4,F6,A2h]at d;rcases d with rfl|rfl|rfl|rfl|rfl
  .exact⟨_,f,λv t=>by cases t⟩
  .exact⟨_,r,λv t=>by cases t⟩
  .exact⟨_,B,λv t=>by cases t⟩
  .exact hi.there
  .exact C.there
 keep:=λk h h' st kp=>by
  obtain⟨f,r,⟨p,q,B⟩,hi,C⟩:=st;exact⟨kp z B0 _ f,kp U B0 _ r,⟨p,q,kp O B0 _ B⟩,hi.move λo e=>kp i B0 o e,C.move λo e=>kp j B0 o e⟩
 item:=by
  intro X hP hw hK hc k G s σ H E I S st hg;subst hP hw hK;obtain⟨f,r,⟨p,q,B⟩,hi,C⟩:=st;refine xe4 hg λxs ys x y af=>?_;refine xa3 af λV Y hx hy=>?_;refine xea (I.sq V) λus ru ou=>xea (I.sq Y) λvs rv ov=>xea (ru.get hx) λu hu ad=>xea (rv.get hy) λv hv ae=>?_;have L:s.TypeIs (.ref z) "zip" := ⟨_,f,Z⟩
  unfold pyNext;refine A0b (A6c (wpAny_callSpecial?_slot (name:=Str.ofString "__next__") L A9g (A5b A9g L F.entry_zip_next (Zd D f r B hi C ou ov (by simpa using hu) (by simpa using hv) λg gZ gO gi gj gT gs gk=>A0h ⟨_,Z,?_⟩) (F.args_zip_next_1 _))));refine wpAny_letOwnedTupleGo_zip (s:={s with heap:=g}) gZ λg2 ab N=>?_;obtain⟨nd,nl,nm⟩:=D;simp only[O0,C4,F6,A2h,A8f,R6,and_true,A6h]at nd;obtain⟨⟨zU,zO,zi,zj⟩,⟨UO,Ui,Uj⟩,⟨Oi,Oj⟩,ij⟩:=nd;have R:z<s.heap.objs.size:=F2 f;have kk:∀a o,a∉[z,O,i,j]->s.heap.get? a=o3 o->g2.get? a=o3 o:=λa o d e=>(N.2 a (λt=>d (by simp[t]))).trans (gk a o d e);have aa:∀a∈[z,O,i,j],DX X G H a:=λa d=>S a (by
   simp only[C4,F6,A2h]at d⊢;rcases d with t|t|t|t<;>simp[t])
  obtain⟨nT,J⟩:=I.pair (tk:=s.toks) kk aa ad ae ((N.2 _ (V4 R)).trans gT);refine⟨.ref s.heap.objs.size,_,J,Z,⟨_,x,y,Z,nT,Z,λag q'=>by rw[I.sq_inj q' V];exact hx,λah q'=>by rw[I.sq_inj q' Y];exact hy⟩,⟨ab,kk U _ ?_ r,⟨u,v,(N.2 O (A1b zO)).trans gO⟩,gi.move λo e=>(N.2 i (A1b zi)).trans e,gj.move λo e=>(N.2 j (A1b zj)).trans e⟩,λa d=>?_⟩
  .simp only[C4,F6,A2h,A8f];exact⟨A1b zU,UO,Ui,Uj⟩
  .have e:=(S a d).1;have lt:a≠s.heap.objs.size:=by
    simp only[C4,F6,A2h]at d;rcases d with t|t|t|t|t<;>subst t
    .exact J8 R
    .exact J8 (F2 r)
    .exact J8 (F2 B)
    .refine xea hi.there λo e _=>?_;exact J8 (F2 e)
    .refine xea C.there λo e _=>?_;exact J8 (F2 e)
   rw[Av lt];exact e
 done:=by
  intro X hP hw hK hc k G s σ H E I S st hg;subst hP hw hK;obtain⟨f,r,⟨p,q,B⟩,hi,C⟩:=st;refine AN hg λxs ys V Y M=>xea (I.sq V) λus ru ou=>xea (I.sq Y) λvs rv ov=>?_;have lu:=ru.length;have lv:=rv.length;have L:s.TypeIs (.ref z) "zip" := ⟨_,f,Z⟩
  have he:us.toArray[k]?=o4\/vs.toArray[k]?=o4:=M.imp (λt=>by simp;lia) (λt=>by simp;lia);unfold pyNext;refine A0b (A6c (wpAny_callSpecial?_slot (name:=Str.ofString "__next__") L A9g (A5b A9g L F.entry_zip_next (Zc (I.ok.hd hc) D f r B hi C ou ov he λg e gk ge=>?_) (F.args_zip_next_1 _))));refine xea ge λo ho ac=>A0b (wpAny_isInstance (T:="StopIteration") (b:=o5) ⟨o,ho,ac⟩ isSubtype_stop (A0h ⟨Z,?_⟩));exact I.turnedL (tk:=s.toks) gk λa d=>S a (by
   simp only[C4,F6,A2h]at d⊢;rcases d with t|t|t|t<;>simp[t])
 self:=λ_ _ _ _ _ st h=>wpAny_pyIter_zip st.1 h
end
theorem Ex.obj(x:Ex b h l vs):∃o,h.get? l=o3 o:=by
 cases b with
 |true=>refine xea x λo e _=>?_;exact⟨o,e⟩
 |false=>refine xea x λo e _=>?_;exact⟨o,e⟩
theorem YU(b:T_)(n:Nat)(d:b.objs.size=n+1):∃c,c=b.push {cls:=.type "enumerate",data:=.fields #[.none,.bool o6,.ref n,rawInt 0,.none,.none]}/\IsEnum c (n+1) n 0 .none/\∀a o,b.get? a=o3 o->c.get? a=o3 o:=by
 refine⟨_,Z,?_,λa o e=>C2 _ e⟩;have q:=F0 b (o:={cls:=.type "enumerate",data:=.fields #[.none,.bool o6,.ref n,rawInt 0,.none,.none]}) Z;rw[d]at q;exact q
set_option maxHeartbeats 1000000 in
theorem Vu(l:R_)(xs:M_):Meets (Builtin.«enumerate.__new__» ⟨[.type "enumerate",.ref l],[]⟩) (λ_ R s=>Ex b s.heap l xs /\
   ∀g,IsEnum g (s.heap.objs.size+1) s.heap.objs.size 0 .none->Dk b g s.heap.objs.size l 0->(∀a o,s.heap.get? a=o3 o->g.get? a=o3 o)->R (.ok (.ret (.ref (s.heap.objs.size+1)))) {s with heap:=g}) :=
 .of_wp λprog w A R s h=>by
  obtain⟨p,g,d,tk,B⟩:=s;obtain⟨q,h⟩:=h;obtain⟨C,i⟩:=q.obj;have r:=sub_enumerate;have fin:∀f,Dk b f p.objs.size l 0->f.objs.size=p.objs.size+1->(∀c o,p.get? c=o3 o->f.get? c=o3 o)->∃v,Fin.done (Flow.ret (.ref f.objs.size))=Fin.done (Flow.ret v)/\R (.ok (.ret v)) ⟨f.push {cls:=.type "enumerate",data:=.fields #[.none,.bool o6,.ref p.objs.size,rawInt 0,.none,.none]},g,d,tk,B⟩:=λf k j m=>by
   refine AS (YU f p.objs.size j) λz y u t=>⟨_,Z,?_⟩
   have n:=h z u (k.move λo e=>t _ o e) λa o e=>t _ _ (m _ _ e);dsimp only at n;rw[y,<-j]at n;exact n
  wp_walk using AutoSeq1.wpAny_loadPart' i
  refine wpAny_stack_any λst=>A0h ?_;split
  .rename_i x _ _ _ _ _;cases(x==Value.type "enumerate")
   .wp_walk using AutoSeq1.wpAny_loadPart' i,Gc q
    intro f k j m
    wp_walk
    exact fin f k j m
   .wp_walk using AutoSeq1.wpAny_loadPart' i,Gc q
    intro f k j m
    wp_walk
    exact fin f k j m
  .wp_walk using AutoSeq1.wpAny_loadPart' i,Gc q
   intro f k j m
   wp_walk
   exact fin f k j m
theorem Rp(d:A.handled=o4)(I l:R_)(m:l≠I)(vs:M_) :
  Draws prog w A I [I,l] vs.size (λk v=>vs[k]?=o3 v) (λk h=>Dk b h I l k/\Ex b h l vs) where
 live:=λ_ _ st=>let ⟨o,ho,_⟩:=st.1.there;⟨o,ho⟩
 frame:=λ_ _ _ st a=>⟨st.1.move λo e=>a I B0 o e,st.2.move λo e=>a l B0 o e⟩
 item:=λk s Q E hi st j=>DQ st.1 st.2 (v:=vs[k]) (by simp[hi]) λg i c=>j _ g s.toks (by simp[hi]) ⟨i,st.2.move λo e=>(c.2 l m).trans e⟩ c
 done:=λs Q E st f=>Gs d st.1 st.2 B0 f
noncomputable def Ite(K:O_)(b:Bool)(l:R_):It :=
 ⟨λi H=>∃xs x,SqX K b H l xs/\xs[i]?=o3 x,
  λi H v H'=>∃(T:R_)(x:V),v=.ref T/\H T=o4/\H'=upd H T (.tup [.int i,x])/\∀xs,SqX K b H l xs->xs[i]?=o3 x,
  λi H=>∃xs,SqX K b H l xs/\xs.length=i⟩
theorem Yg{P:N_}{w:Q_}{K:O_}{es:List Expr}{n:Nat}{q:Pos}{b:Bool}{e I l:R_}(C:e≠I)(le:l≠e)(lI:l≠I) :
  QM P w K (.Tuple es n q) (Ite K b l) [e,I] e (λk h=>(∃c,IsEnum h e I k c)/\Dk b h I l k) where
 mem:=by simp
 obj:=λk h st a d=>by
  obtain⟨⟨c,f⟩,j⟩:=st;simp only[C4,F6,A2h]at d;rcases d with rfl|rfl
  .exact⟨_,f,λv t=>by cases t⟩
  .exact j.there
 keep:=λk h h' st kp=>by
  obtain⟨⟨c,f⟩,j⟩:=st;exact⟨⟨c,kp e B0 _ f⟩,j.move λo t=>kp I B0 o t⟩
 item:=by
  intro X L R G M k p s σ H E J r st N;subst L R G;obtain⟨⟨c,f⟩,j⟩:=st;refine BJ N λxs x B S=>xea (J.sq B) λus y T=>?_;have lu:=y.length;have hk:=(B9.mp S).1;refine wpAny_pyNext_enum_itemD (Rp (b:=b) (A:=X.A.in1) (J.ok.hd M) I l lI us.toArray) f ⟨j,T⟩ (by simp;lia) C (by simp[C,A1b le]) λu g tk hu gE gS gT gs F=>⟨_,Z,?_⟩
  refine xea (y.get S) λu' O U=>?_;have eu:u=u':=by
   have:us[k]?=o3 u:=by simpa using hu
   rw[O]at this;exact(A1d this).symm
  subst eu;refine wpAny_letOwnedTupleGo_enum (s:={s with heap:=g,toks:=tk+1}) gE λg2 D V=>?_;have m:=F2 f;have kk:∀a o,a∉[e,I]->s.heap.get? a=o3 o->g2.get? a=o3 o:=λa o d t=>(V.2 a (λz=>d (by simp[z]))).trans (F a o (λz=>d (by simp[z])) (λz=>d (by simp[z])) t);obtain⟨nT,J2⟩:=J.pair (tk:=tk+1) (x:=.int k) (u:=.int k tk) kk r ⟨tk,Z⟩ U ((V.2 _ (V4 m)).trans gT);refine⟨.ref s.heap.objs.size,_,J2,Z,⟨_,x,Z,nT,Z,λaa q'=>by rw[J.sq_inj q' B];exact S⟩,⟨⟨_,by simpa using D⟩,gS.1.move λo t=>(V.2 I (A1b C)).trans t⟩,λa d=>?_⟩;have t:=(r a d).1;have lt:a≠s.heap.objs.size:=by
   simp only[C4,F6,A2h]at d;rcases d with z|z<;>subst z
   .exact J8 m
   .refine xea j.there λo t _=>?_;exact J8 (F2 t)
  rw[Av lt];exact t
 done:=by
  intro X L R G M k p s σ H E J r st N;subst L R G;obtain⟨⟨c,f⟩,j⟩:=st;refine xea N λxs B Y=>xea (J.sq B) λus y T=>?_;have lu:=y.length;have ek:k=us.toArray.size:=by simp;lia
  refine wpAny_pyNext_enum_endD (Rp (b:=b) (A:=X.A.in1) (J.ok.hd M) I l lI us.toArray) f ⟨ek▸j,T⟩ λg F=>⟨Z,?_⟩
  exact J.turnedL (tk:=s.toks) (ch:=[e,I]) (λa o d t=>F a o (λz=>d (by simp[z])) t) r
 self:=λA i s Q E st h=>by
  obtain⟨⟨c,f⟩,_⟩:=st;exact wpAny_pyIter_enum f h
section
variable{X:Cx}{es:List Expr}{n:Nat}{tpos p pos:Pos}{e1 e2:Expr}{t:TA}
def iZip(b c:Bool)(K:O_)(t:TA):TI:=fun σ H R=>t σ H λvs H1=>∃(l m:R_),vs=[.ref l,.ref m]/\(∃xs,SqX K b H1 l xs)/\(∃ys,SqX K c H1 m ys)/\R (Itz K b c l m) H1
theorem Ex.lt(x:Ex b h l vs):l<h.objs.size:=by
 cases b with
 |true=>refine xea x λo e _=>?_;exact F2 e
 |false=>refine xea x λo e _=>?_;exact F2 e
theorem aDw(n l m:Nat)(a:l<n)(b:m<n):Yd (n+4) (n+2) (n+3) n (n+1) l m:=by
 refine⟨(show([n+4,n+2,n+3,n,n+1]:J_).Nodup from ?_),(show l∉([n+4,n+3,n,n+1]:J_)from ?_),(show m∉([n+4,n+3,n,n+1]:J_)from ?_)⟩
 .simp only[O0,C4,F6,A2h,A8f,R6,and_true,A6h];lia
 .simp only[C4,F6,A2h,A8f];lia
 .simp only[C4,F6,A2h,A8f];lia
theorem aEy(b c:Bool)(G:Gl X "zip")(L:X.mg "zip" = o4)(j:PA X [e1,e2] t)(M:starEach [e1,e2] X.env=[(o6,eval e1 X.env),(o6,eval e2 X.env)]:=by rfl)(e:starEach [e2] X.env=[(o6,eval e2 X.env)]:=by rfl) :
  PI X (.Tuple es n tpos) (.Call (.Name "zip" p) [e1,e2] [] pos) (iZip b c X.K t):=by
 intro f s σ H R I h;refine Call_ (Lh I G L PyProof.Rows.boot_zip (A4b (thn (j pos f s σ H _ I h) λus i E=>?_) (by rw[M,e]) (by rw[e];rfl)));refine AN E λvs x d Q P=>?_;obtain⟨l,m,rfl,⟨xs,U⟩,⟨ys,V⟩,q⟩:=P;refine AN Q.two λu v k S T=>?_;subst k;cases(show u=Value.ref l from S);cases(show v=Value.ref m from T);refine xea (d.sq U) λW _ r=>xea (d.sq V) λY _ w=>callType_new F.called_zip A6 (F.typeCall_zip_2 _ _) (F.newCall_zip_2 _ _) (λobj=>F.args_object_init_3 obj _ _) F.entry_zip_new (YF (b:=b) (c:=c) l m W.toArray Y.toArray) ⟨r,w,λg o z y A B C=>?_⟩;refine⟨⟨_,o,Z⟩,wpAny_pyIter_zip (s:={i with heap:=g}) o ?_⟩;have N:=r.lt;have O:=w.lt;have D:=aDw i.heap.objs.size l m N O;refine⟨i.heap.objs.size+4,_,_,_,x,Z,d.kept (t':=i.toks) C,Zl D,⟨o,z,⟨_,_,y⟩,A,B⟩,λa j=>?_,q⟩;have le:i.heap.objs.size<=a:=by
  simp only[C4,F6,A2h]at j;rcases j with t|t|t|t|t<;>rw[t]<;>first|exact C0 _|exact W9 _ _
 exact d.fpOk le (d.hok.fresh le)
def aGF(b:Bool)(K:O_)(t:TA):TI:=fun σ H R=>t σ H λvs H1=>∃(l:R_),vs=[.ref l]/\(∃xs,SqX K b H1 l xs)/\R (Ite K b l) H1
theorem Mx(b:Bool)(y:Gl X "enumerate")(z:X.mg "enumerate" = o4)(i:PA X [e1] t)(A:starEach [e1] X.env=[(o6,eval e1 X.env)]:=by rfl) :
  PI X (.Tuple es n tpos) (.Call (.Name "enumerate" p) [e1] [] pos) (aGF b X.K t):=by
 intro d s σ H R I h;refine Call_ (Lh I y z PyProof.Rows.boot_enumerate (A4b (thn (i pos d s σ H _ I h) λus c x=>?_) A Z));refine AN x λvs r f C B=>?_;obtain⟨l,rfl,⟨xs,E⟩,q⟩:=B;refine xea C.one λu j D=>?_;subst j;cases(show u=Value.ref l from D);refine xea (f.sq E) λG _ o=>callType_new F.called_enumerate A6 (F.typeCall_enumerate_1 _) (F.newCall_enumerate_1 _) (λobj=>F.args_object_init_2 obj _) F.entry_enumerate_new (Vu (b:=b) l G.toArray) ⟨o,λg k v w=>?_⟩;refine⟨⟨_,k,Z⟩,wpAny_pyIter_enum (s:={c with heap:=g}) k ?_⟩;have m:=o.lt;refine⟨c.heap.objs.size+1,_,_,_,r,Z,f.kept (t':=c.toks) w,Yg (e:=c.heap.objs.size+1) (I:=c.heap.objs.size) (l:=l) (Nat.succ_ne_self _) (J8 (W4 m)) (J8 m),⟨⟨_,k⟩,v⟩,λa i=>?_,q⟩;have le:c.heap.objs.size<=a:=by
  simp only[C4,F6,A2h]at i;rcases i with t|t<;>rw[t]<;>first|exact C0 _|exact W9 _ _
 exact f.fpOk le (f.hok.fresh le)
end
section
variable{K:O_}{b c:Bool}{l m:R_}{xs ys:List V}{σ:St}{H:Hp}
theorem Qb{K:O_}{i j:Nat}{σ:St}{H:Hp}(h:H T=o3 (.tup [x,y]))(q:Q ((σ.set i (o3 x)).set j (o3 y)) H):aEA K 2 (Um (LM i) (Um (LM j) aD9)) (.ref T) σ H Q :=
 ⟨T,_,Z,SqT.of h,Z,x,_,Z,y,_,Z,Z,q⟩
theorem Lj{g:TG}{t:TS}{D:IE}(a:Nat->St->Hp->Prop)(u:a 0 σ H)(w:∀i σ H,i<=xs.length->a i σ H->SqX K b H l xs)
  (A:∀i x σ H T,xs[i]?=o3 x->a i σ H->H T=o4->g (.ref T) σ (upd H T (.tup [.int i,x])) fun f k=>t {D with nx:=a (i+1),ct:=a (i+1),bk:=D.nx} f k) (v:∀σ H,a xs.length σ H->D.nx σ H) :
  ∃W:Nat->Nat->St->Hp->Prop,(∃m,W 0 m σ H)/\∀i m σ H,W i m σ H ->
   ((Ite K b l).stop i H/\D.nx σ H)\/((Ite K b l).go i H/\∃N:St->Hp->Prop,(∀σ' d,N σ' d->∃s,s<m/\W (i+1) s σ' d)/\∀x d,(Ite K b l).yld i H x d->g x σ d fun f k=>t {D with nx:=N,ct:=N,bk:=D.nx} f k):=by
 refine⟨λi m σ H=>m=xs.length-i/\i<=xs.length/\a i σ H,⟨xs.length,by simp,J9 _,u⟩,?_⟩;intro i m σ H j;refine xa2 j λn hi p=>?_;clear j;subst n;have q:=w i σ H hi p;by_cases h:i<xs.length
 .refine .inr ⟨⟨xs,xs[i],q,by simp[h]⟩,a (i+1),fun σ' d E=>⟨xs.length-(i+1),by lia,Z,h,E⟩,λx d y=>?_⟩;refine CC y λT z o C r B=>?_;clear y;subst o;subst r;exact A i z σ _ T (B xs q) p C
 .have e:i=xs.length:=by lia
  subst e;exact .inl ⟨⟨xs,q,Z⟩,v σ H p⟩
variable{k:Nat}{cs:J_}{g:TG}{tc:TT}{te:TE}{fin:List V->Hp->Prop}
theorem aB5(d:Nat->List V->Hp->Prop)(w:d 0 [] H)(B:∀i a H,d i a H->SqX K b H l xs/\SqX K c H m ys)
  (C:∀i x y a H T,xs[i]?=o3 x->ys[i]?=o3 y->d i a H->H T=o4->Bt k cs g tc te σ (.ref T) a (upd H T (.tup [x,y])) (d (i+1))) (A:∀a H,d (min xs.length ys.length) a H->fin a H):Fk k cs g tc te (Itz K b c l m) σ H fin:=by
 refine⟨λi n a H=>n=min xs.length ys.length-i/\i<=min xs.length ys.length/\d i a H,⟨min xs.length ys.length,by simp,J9 _,w⟩,?_⟩;intro i n a H f;refine xa2 f λh hi p=>?_;clear f;subst h;obtain⟨s,t⟩:=B i a H p;by_cases q:i<min xs.length ys.length
 .have E:i<xs.length:=by lia
  have F:i<ys.length:=by lia
  refine .inr ⟨⟨xs,ys,xs[i],ys[i],s,t,by simp[E],by simp[F]⟩,d (i+1),λu v I=>⟨min xs.length ys.length-(i+1),by lia,Z,q,I⟩,λx v y=>?_⟩;refine BV y λT z L j G o D r=>?_;clear y;subst j;subst o;exact C i z L a _ T (D xs s) (r ys t) p G
 .have e:i=min xs.length ys.length:=by lia
  subst e;exact .inl ⟨⟨xs,ys,s,t,by lia⟩,A a H p⟩
theorem aB4(d:Nat->List V->Hp->Prop)(t:d 0 [] H)(w:∀i ch a H,x.cps.toList[i]?=o3 ch->d i a H->Bt k cs g tc te σ (.str ⟨#[ch]⟩) a H (d (i+1)))(u:∀a H,d x.cps.toList.length a H->fin a H):Fk k cs g tc te (Its x) σ H fin:=by
 have s:x.cps.toList.length=x.cps.size:=by simp
 refine⟨λi m a H=>m=x.cps.size-i/\i<=x.cps.size/\d i a H,⟨x.cps.size,by simp,J9 _,t⟩,?_⟩;intro i m a H h;refine xa2 h λj hi p=>?_;clear h;subst j;by_cases f:i<x.cps.size
 .refine .inr ⟨f,d (i+1),λq r z=>⟨x.cps.size-(i+1),by lia,Z,f,z⟩,λv r y=>?_⟩;refine Jy y λe ch o n=>?_;clear y;subst n;subst e;exact w i ch a _ (by simpa using o) p
 .have e:i=x.cps.size:=by lia
  subst e;exact .inl ⟨Z,u a H (by rw[s];exact p)⟩
end
theorem PE.or{t u:TE}(h:PE X e t)(h':PE X e u):PE X e (fun σ H Q=>t σ H Q\/u σ H Q):=by
 intro a s σ H Q I q;rcases q with q|q
 .exact h a s σ H Q I q
 .exact h' a s σ H Q I q
theorem rm(h:Di b A)(c:a<=b:=by first|decide|lia):Di a A:=h.mono c
structure Cal(P:N_)(w:Q_)(K:O_)(mg:C_)(n9:T_)(CX:CXT)(k:Nat)(x:Str)(ps:K_)(sp:Sp):Prop where
ex:∃(f:R_)(fd:E_),AL P w K mg n9 CX k f fd ps sp/\mg x=o3 (.ref f)/\keepIn K (.ref f)=o5/\CM K fd ps []
structure BR(P:N_)(w:Q_)(K:O_)(mg:C_)(n9:T_)(CX:CXT)(k:Nat)(C:R_)(m:Str)(ps:K_)(sp:Sp):Prop where
ex:∃(f:R_)(fd:E_),AL P w K mg n9 CX k f fd ps sp/\Qs K C m f/\CM K fd ps []
cl:Cls K C
structure SU(P:N_)(w:Q_)(K:O_)(mg:C_)(n9:T_)(CX:CXT)(k:Nat)(x:Str)(C:R_)(ps:K_)(sp:Sp):Prop where
ex:∃(f:R_)(fd:E_),AL P w K mg n9 CX k f fd ps sp/\Mk K C f/\mg x=o3 (.ref C)/\CM K fd ps []
section
variable{X:Cx}{CX:CXT}{k:Nat}{C:R_}{ps:K_}{sp:Sp}{E:XK}{x m:Str}{p pos apos:Pos}{e o:Expr}{es:List Expr}{ta:TE}{t:TA}
theorem Ar(c:Cal X.prog X.w X.K X.mg X.n9 CX k x ps sp)(n:Di k X.A)(i:Gl X x)(q:GB CX X E)(d:PA X (e::es) t)(a:(x==("__debug__" : Str))=o6:=by decide)
  (h:starEach (e::es) X.env=(o6,eval e X.env)::starEach es X.env:=by rfl) (b:(backTo pos (starEach es X.env)).any (·.1)=o6:=by rfl):PE X (.Call (.Name x p) (e::es) [] pos) (aDn sp [] E t):=by
 exact CC c.ex λf r F l j g=>aCm F n i l j g .nil q d a h b
theorem AD(i:PE X o ta)(c:BR X.prog X.w X.K X.mg X.n9 CX k C m ps sp)(l:Di k X.A)(q:GB CX X E)(g:PA X (e::es) t)
  (b:starEach (e::es) X.env=(o6,eval e X.env)::starEach es X.env:=by rfl) (a:(backTo pos (starEach es X.env)).any (·.1)=o6:=by rfl)
  (n:eval (.Call (.Attribute o m apos) (e::es) [] pos) X.env=(do
   let d <-eval o X.env;standAt apos.atName;let (f,first) <-holding [d] (getMethod d m pl);callWith pos f first (backTo pos (starEach (e::es) X.env)) (backToKw pos (keywordEach [] X.env))):=by rfl):PE X (.Call (.Attribute o m apos) (e::es) [] pos) (VY C m sp [] E ta t):=by
 exact AN c.ex λf r F j h=>aCp i c.cl j F l h .nil q g b a n
theorem Lq(c:SU X.prog X.w X.K X.mg X.n9 CX k x C ps sp)(l:Di (k+1) X.A)(i:Gl X x)(n:GB CX X E)(d:PA X (e::es) t)(a:(x==("__debug__" : Str))=o6:=by decide)
  (h:starEach (e::es) X.env=(o6,eval e X.env)::starEach es X.env:=by rfl) (b:(backTo pos (starEach es X.env)).any (·.1)=o6:=by rfl):PE X (.Call (.Name x p) (e::es) [] pos) (VZ C sp [] E t):=by
 exact CC c.ex λf q F M j g=>aCo M F l i j g .nil n d a h b
theorem TL(c:SU X.prog X.w X.K X.mg X.n9 CX k x C ps sp)(h:Di (k+1) X.A)(d:Gl X x)(i:GB CX X E)(a:(x==("__debug__" : Str))=o6:=by decide):PE X (.Call (.Name x p) [] [] pos) (VZ C sp [] E OV):=by
 exact CC c.ex λf j F M g b=>ZU M F h d g b .nil i a
theorem BZ(c:Gl X x)(a:∃tk,X.mg x=o3 (.int i tk))(b:(x==("__debug__" : Str))=o6:=by decide):PE X (.Name x pos) (tC (.int i)):=by
 obtain⟨tk,a⟩:=a;exact RW c a ⟨tk,Z⟩ b
theorem OH{z:Str}(c:Gl X x)(a:∃tk,X.mg x=o3 (.str z tk))(b:(x==("__debug__" : Str))=o6:=by decide):PE X (.Name x pos) (tC (.str z)):=by
 obtain⟨tk,a⟩:=a;exact RW c a ⟨tk,Z⟩ b
theorem aCn(c:Gl X x)(d:X.mg x=o3 (.ref a))(b:(x==("__debug__" : Str))=o6:=by decide):PE X (.Name x pos) (tC (.ref a)):=RW c d Z b
end
noncomputable def cOk(So:Scope)(No:K_)(scope:Scope)(N:K_)(k:Nat)(cs:J_):Bool :=
 scope.names.all (λy=>y.2 != .cell) && (scope.kind==.function && (scope.names.all (λy=>y.2 != .local || scope.names.lookup y.1==o3 .local) && (scope.names.all (λy=>y.2 != .free || (So.names.lookup y.1==o3 .cell || So.names.lookup y.1==o3 .free)) &&
  (N.length==k+cs.length && (List.range cs.length).all λj=>match N[k+j]?,No[cs.getD j 0]? with
   |some x,o3 y=>x==y && scope.names.lookup x==o3 .free
   |_,_=>o6))))
theorem Bn.of{No:K_}{k:Nat}(p:X.env.scope=So)(o:X.N=No)(h:cOk So No a N k cs=o5):Bn X a N k cs:=by
 subst p o;unfold cOk at h;simp only[Q0,S9,bne_iff_ne,ne_eq,Bool.or_eq_true,B0a,N2]at h;refine xa5 h λf g i l m n=>⟨f,g,λy b e=>?_,λy b e=>?_,m,λj q=>?_⟩
 .rcases i y b with z|z
  .exact absurd e z
  .exact z
 .rcases l y b with z|z
  .exact absurd e z
  .exact z
 .have z:=n j q;split at z
  .rename_i x y c d;simp only[Q0,B0a]at z;obtain⟨r,s⟩:=z;subst r;exact⟨x,c,d,s⟩
  .cases z
theorem FP{σ:St}{H:Hp}{A B:Hp->Prop}(h:A H):aFO σ H λb a=>if b=o5 then A a else B a:=by
 show if o5=o5 then A H else B H;exact Cr h
theorem OT{d:TE}{σ:St}{H:Hp}{Q:VK}{a b2:Bool}(e:a=o5->∀b:VK,b (.bl b2) H->d σ H b)(q:Q (.bl (a && b2)) H):∃c,V.bl a=.bl c/\if c=o5 then d σ H Q else Q (.bl o6) H:=by
 cases a with
 |true=>exact⟨o5,Z,Cr (e Z Q q)⟩
 |false=>exact⟨o6,Z,Bc q⟩
theorem Zm{u:TT}{σ:St}{H:Hp}{Q:Bool->Hp->Prop}{a b2:Bool}(c:a=o5->∀b:Bool->Hp->Prop,b b2 H->u σ H b)(q:Q (a && b2) H):if a=o5 then u σ H Q else Q o6 H:=by
 cases a with
 |true=>exact Cr (c Z Q q)
 |false=>exact Bc q
section
variable{X:Cx}{scope:Scope}{N:K_}{s:P_}{H:Hp}{ex:H_}{x y:Str}{px py pos:Pos}{k:Nat}
theorem AY(b:N.Nodup)(hi:N[i]?=o3 x)(a:(relabel scope X.env).names.lookup x=o3 .local):PG (cxC X scope N s H ex) (.Name x pos) (LM i):=AU (X:=cxC X scope N s H ex) b hi (.inl a) (.inr a)
theorem TH{i j:Nat}(b:X.calm=o5)(a:N.Nodup)(hi:N[i]?=o3 x)(c:N[j]?=o3 y)(d:(relabel scope X.env).names.lookup x=o3 .local)(e:(relabel scope X.env).names.lookup y=o3 .local) :
  PG (cxC X scope N s H ex) (.Tuple [.Name x px,.Name y py] k pos) (aEA X.K 2 (Um (LM i) (Um (LM j) aD9))) :=
 Nr (X:=cxC X scope N s H ex) b (CW (AY a hi d) (CW (AY a c e) Lp))
end
theorem AR.strs:∀(l:K_)(k:Nat),AR (l.map V.str) (strsFrom k l)
|[],_=>.nil
|x::r,k=>.cons ⟨k,Z⟩ (AR.strs r (k+1))
section
variable{X:Cx}
theorem Ua:MtR X "str.split" (λx xs H Q=>∃a b,x=.str a/\xs=[.str b]/\(b.length==0)=o6/\a.length<=100000/\∀p,H p=o4->Q (.ref p) (upd H p (.lst ((Txt.split a b).map V.str)))):=by
 intro g s σ H x xs v us Q I z r h;refine CB h λa b k l n o q=>?_;clear h;subst k;subst l;obtain⟨t,rfl⟩:=z;refine xea r.one λu j w=>?_;subst j;obtain⟨m,rfl⟩:=w;have big:a.length+2<=sizeLine:=D0 (U6 o 2) A6;have fin:∀(c:F_)(tk:Nat),AR ((Txt.split a b).map V.str) c->EP X g σ Q (.ref s.heap.objs.size) {s with heap:=s.heap.push {cls:=.type "list",data:=.seq c.toArray},toks:=tk}:=λc tk y =>
  ⟨.ref _,_,I.lnew (t':=tk) y (by rw[B8];exact D0 (split_le a b) big),Z,q _ I.fresh⟩
 by_cases d:(decide (a.length<b.length) || decide (Builtin.Str.strKind a<Builtin.Str.strKind b))=o5
 .refine A7c F.slot_str_split (A9d _ _ _) F.entry_str_split (B0g _ _) (meets_str_split_cannot_occur a b t m d) (fin _ s.toks ?_);unfold Txt.split;rw[A0e d];exact .cons ⟨t,Z⟩ .nil
 .have f:=A0a.mpr d;by_cases i:(Builtin.Str.occurrences a b 0 a.length (a.length+1)).isEmpty=o5
  .refine A7c F.slot_str_split (A9d _ _ _) F.entry_str_split (B0g _ _) (meets_str_split_not_found a b t m f n i) (fin _ s.toks ?_);unfold Txt.split;rw[A0c d,A0e i];exact .cons ⟨t,Z⟩ .nil
  .have e:Txt.split a b=Builtin.Str.partsBetween a (Builtin.Str.occurrences a b 0 a.length (a.length+1)) b.length:=by
    unfold Txt.split;rw[A0c d,A0c i]
   refine A7c F.slot_str_split (A9d _ _ _) F.entry_str_split (B0g _ _) (meets_str_split_sep a b t m f n (A0a.mpr i) A0 (by rw[<-e];exact D0 (split_le a b) big)) ?_;refine fin _ _ ?_;rw[e];exact AR.strs _ _
theorem Sw:MtR X "str.partition" (λx xs H Q=>∃a b,x=.str a/\xs=[.str b]/\(b.length==0)=o6/\a.length<=100000/\∀p,H p=o4->Q (.ref p) (upd H p (.tup [.str (Txt.partition a b).1,.str (Txt.partition a b).2.1,.str (Txt.partition a b).2.2]))):=by
 intro d s σ H x xs v us Q I y r h;refine CB h λa b g j m k q=>?_;clear h;subst g;subst j;obtain⟨t,rfl⟩:=y;refine xea r.one λu f n=>?_;subst f;obtain⟨z,rfl⟩:=n;have fin:∀(c:F_)(tk:Nat),AR [.str (Txt.partition a b).1,.str (Txt.partition a b).2.1,.str (Txt.partition a b).2.2] c->EP X d σ Q (.ref s.heap.objs.size) {s with heap:=s.heap.push {cls:=.type "tuple",data:=.seq c.toArray},toks:=tk}:=λc tk w =>
  ⟨.ref _,_,I.laid (t':=tk) (o:=.tup [.str (Txt.partition a b).1,.str (Txt.partition a b).2.1,.str (Txt.partition a b).2.2]) (λ_ _ e=>C2 _ e) (C0 _) ⟨by show 3<=sizeLine;decide,c,w,_,F0 _ Z,Z,_,Z⟩,Z,q _ I.fresh⟩
 refine A7c F.slot_str_partition (A9d _ _ _) F.entry_str_partition (F.args_str_partition_2 _ _) (meets_str_partition a b t z m (D0 k A6)) ?_;show EP X d σ Q _ _;cases e:Builtin.Str.occurrences a b 0 a.length 1 with
 |nil =>
  refine fin _ _ ?_;unfold Txt.partition;rw[e];exact .cons ⟨_,Z⟩ (.cons ⟨_,Z⟩ (.cons ⟨_,Z⟩ .nil))
 |cons i l =>
  refine fin _ _ ?_;unfold Txt.partition;rw[e];exact .cons ⟨_,Z⟩ (.cons ⟨_,Z⟩ (.cons ⟨_,Z⟩ .nil))
theorem AR.tstrs:∀{l:K_}{a:F_},AR (l.map V.str) a->∃b:List (Str×Tok),a=strValues b/\b.map (·.1)=l
|[],_,.nil=>⟨[],Z,Z⟩
|x::r,_,.cons ⟨t,e⟩ rr=>by
 refine xea (AR.tstrs rr) λb c d=>?_;subst e c;exact⟨(x,t)::b,Z,by rw[F5,d]⟩
theorem OJ:MtR X "str.join" (λx xs H Q=>∃(a:Str)(p:R_)(l:K_),x=.str a/\xs=[.ref p]/\SqL X.K H p (l.map V.str)/\JoinOk a l=o5/\Q (.str (Str.join a l)) H):=by
 intro g s σ H x xs v us Q I o r h;refine BV h λa p l c d i f q=>?_;clear h;subst c;subst d;obtain⟨t,rfl⟩:=o;refine xea r.one λu b j=>?_;subst b;cases(show u=Value.ref p from j);refine AS (I.list i) λm n pl _=>?_;refine xea (AR.tstrs n) λw b e=>?_;subst b;refine SC.join (texts:=l) pl.isList e f λt' k=>⟨.str _,H,I.tok k,⟨t',Z⟩,?_⟩
 have:Txt.join a l=Str.join a l:=StrLaws.glued_eq_join a l;rw[this];exact q
theorem Uw(n:Int):∀{ns:I_}{a:F_},AR (ns.map V.int) a->a.countP (λy=>match y with|.int i _=>i==n|_=>o6)=ns.countP (· == n)
|[],_,.nil=>rfl
|x::r,_,.cons ⟨t,e⟩ rr=>by
 subst e;rw[Z0,Z0,Uw n rr]
theorem Zi{ns:I_}{a:F_}(h:AR (ns.map V.int) a){y:S_}(b:y∈a):∃i t,y=.int i t:=by
 induction ns generalizing a with
 |nil=>cases h;simp at b
 |cons n r c =>
  cases h with
  |cons q d =>
   obtain⟨t,e⟩:=q;rcases C4.mp b with z|z
   .exact⟨n,t,z.trans e⟩
   .exact c d z
theorem aBe:MtR X "list.count" (λx xs H Q=>∃(l:R_)(ns:I_)(n:Int),x=.ref l/\xs=[.int n]/\H l=o3 (.lst (ns.map V.int))/\Q (.int (ns.countP (· == n):Nat)) H):=by
 intro g s σ H x xs v us Q I w r h;refine Fz h λl ns n d f m q=>?_;clear h;subst d;subst f;cases w;refine xea r.one λu b o=>?_;subst b;obtain⟨tk,rfl⟩:=o;refine DC (I.lstM m) λz a k j A e=>A7c F.slot_list_count ⟨_,e,Z⟩ F.entry_list_count (F.args_list_count_2 _ _) (MeetsSeq.list_count l a.toArray k (.int n tk) (λy=>match y with|.int i _=>i==n|_=>o6) (λy p=>?_)) ⟨e,?_⟩
 .refine xe2 (Zi j (by simpa using p)) λi t c=>?_;subst c;exact PySem.MeetsSeq.EqGives.int i n t tk
 .refine⟨.int _,H,I.tok _,⟨_,Z⟩,?_⟩;have:(List.countP (λy=>match y with|Value.int i _=>i==n|_=>o6) a.toArray.toList)=ns.countP (· == n):=Uw n (by simpa using j);rw[this];exact q
end
end L2
namespace L2
open PySem
section
variable{X:Cx}{es es':List Expr}{t t':TA}{pos:Pos}
theorem AI{j}(a:PA X es t):PA X (.Constant (.int i) j pos::es) (CD (tC (.int i)) t):=Aa Ae a
theorem Pt{z:Str}{j}(a:PA X es t):PA X (.Constant (.str z) j pos::es) (CD (tC (.str z)) t):=Aa Fs a
theorem Vc(h:PA X es' t')(a:PA X es t):PA X (.List es' pos::es) (CD (aC0 t') t):=Aa (Cp h) a
theorem AZ{x1}(h:PA X es' t')(a:PA X es t):PA X (.Tuple es' x1 pos::es) (CD (Yj t') t):=Aa (Dr h) a
theorem AV{c:Operator}(h:OpR X (binaryOp c) r)(f:PE X a d)(g:PE X b e)(i:PA X es t):PA X (.BinOp a c b pos::es) (CD (tOp r d e) t):=Aa (AG h f g) i
theorem GQ{K:O_}(h:X.K=K):IxR X (JL K):=h▸An
theorem aBI{K:O_}(h:X.K=K):IxR X (aE4 K):=h▸Ax
end
theorem AT{P:Prop}(h:∀G:Prop,(P->G)->G):P:=h P id
theorem xq1{α:Sort _}{a:α}{P Q:α->Prop}(h:P a)(k:Q a):∃x,P x/\Q x:=⟨a,h,k⟩
theorem xq2{α β:Sort _}{a:α}{b:β}{P Q R:α->β->Prop}(h:P a b)(h':Q a b)(k:R a b):∃x y,P x y/\Q x y/\R x y:=⟨a,b,h,h',k⟩
theorem xq3{α β γ:Sort _}{a:α}{b:β}{c:γ}{P Q R S:α->β->γ->Prop}(h:P a b c)(h':Q a b c)(d:R a b c)(k:S a b c):∃x y z,P x y z/\Q x y z/\R x y z/\S x y z:=⟨a,b,c,h,h',d,k⟩
theorem xq4{α β γ δ:Sort _}{a:α}{b:β}{c:γ}{d:δ}{P Q R S T:α->β->γ->δ->Prop}(h:P a b c d)(h':Q a b c d)(e:R a b c d)(f:S a b c d)(k:T a b c d):∃x y z w,P x y z w/\Q x y z w/\R x y z w/\S x y z w/\T x y z w:=⟨a,b,c,d,h,h',e,f,k⟩
theorem xq5{K:O_}{f:Str}{H:Hp}{a C c:R_}{fs:List (Str×V)}{v:V}{Q:V->Prop}(h:H a=o3 (.ins C c fs))(d:Cls K C)(e:BI K C f)(g:fs.lookup f=o3 v)(k:Q v):∃b C c fs w,V.ref a=.ref b/\H b=o3 (.ins C c fs)/\Cls K C/\BI K C f/\fs.lookup f=o3 w/\Q w:=⟨a,C,c,fs,v,Z,h,d,e,g,k⟩
theorem xw2{α β:Sort _}{a:α}{b:β}{P:α->Prop}{Q:α->β->Prop}{K:α->β->Prop}(e:P a)(f:Q a b)(k:K a b):∃c,P c/\∃d,Q c d/\K c d:=⟨a,e,b,f,k⟩
theorem xw3{α β γ:Sort _}{a:α}{b:β}{c:γ}{P:α->Prop}{Q:α->β->Prop}{R:α->β->γ->Prop}{K:α->β->γ->Prop}(g:P a)(h:Q a b)(i:R a b c)(k:K a b c):∃d,P d/\∃e,Q d e/\∃f,R d e f/\K d e f:=⟨a,g,b,h,c,i,k⟩
theorem xwb{α β γ:Sort _}{a:α}{b:β}{c:γ}{P:α->Prop}{Q:α->β->γ->Prop}{R:α->β->γ->Prop}{K:α->β->γ->Prop}(g:P a)(h:Q a b c)(i:R a b c)(k:K a b c):∃d,P d/\∃e f,Q d e f/\R d e f/\K d e f:=⟨a,g,b,c,h,i,k⟩
theorem xwm{α β γ δ:Sort _}{a:α}{b:β}{c:γ}{d:δ}{P:α->Prop}{Q:α->β->γ->δ->Prop}{R:α->β->γ->δ->Prop}{S:α->β->γ->δ->Prop}{K:α->β->γ->δ->Prop}(i:P a)(j:Q a b c d)(l:R a b c d)(m:S a b c d)(k:K a b c d):∃e,P e/\∃f g h,Q e f g h/\R e f g h/\S e f g h/\K e f g h:=⟨a,i,b,c,d,j,l,m,k⟩
theorem xwi{α β γ δ ε:Sort _}{a:α}{b:β}{c:γ}{d:δ}{e:ε}{P:α->Prop}{Q:α->β->γ->δ->ε->Prop}{R:α->β->γ->δ->ε->Prop}{S:α->β->γ->δ->ε->Prop}{T:α->β->γ->δ->ε->Prop}{K:α->β->γ->δ->ε->Prop}(l:P a)(m:Q a b c d e)(n:R a b c d e)(o:S a b c d e)(p:T a b c d e)(k:K a b c d e):∃f,P f/\∃g h i j,Q f g h i j/\R f g h i j/\S f g h i j/\T f g h i j/\K f g h i j:=⟨a,l,b,c,d,e,m,n,o,p,k⟩
theorem xwf{α β γ δ ε ζ:Sort _}{a:α}{b:β}{c:γ}{d:δ}{e:ε}{f:ζ}{P:α->Prop}{Q:α->β->γ->δ->ε->ζ->Prop}{R:α->β->γ->δ->ε->ζ->Prop}{S:α->β->γ->δ->ε->ζ->Prop}{T:α->β->γ->δ->ε->ζ->Prop}{U:α->β->γ->δ->ε->ζ->Prop}{K:α->β->γ->δ->ε->ζ->Prop}(n:P a)(o:Q a b c d e f)(p:R a b c d e f)(q:S a b c d e f)(r:T a b c d e f)(s:U a b c d e f)(k:K a b c d e f):∃g,P g/\∃h i j l m,Q g h i j l m/\R g h i j l m/\S g h i j l m/\T g h i j l m/\U g h i j l m/\K g h i j l m:=⟨a,n,b,c,d,e,f,o,p,q,r,s,k⟩
theorem xwn{α β γ δ ε:Sort _}{a:α}{b:β}{c:γ}{d:δ}{e:ε}{P:α->Prop}{Q:α->β->γ->δ->Prop}{R:α->β->γ->δ->Prop}{S:α->β->γ->δ->Prop}{T:α->β->γ->δ->ε->Prop}{K:α->β->γ->δ->ε->Prop}(l:P a)(m:Q a b c d)(n:R a b c d)(o:S a b c d)(p:T a b c d e)(k:K a b c d e):∃f,P f/\∃g h i,Q f g h i/\R f g h i/\S f g h i/\∃j,T f g h i j/\K f g h i j:=⟨a,l,b,c,d,m,n,o,e,p,k⟩
theorem xwj{α β γ δ ε ζ:Sort _}{a:α}{b:β}{c:γ}{d:δ}{e:ε}{f:ζ}{P:α->Prop}{Q:α->β->Prop}{R:α->β->γ->δ->ε->ζ->Prop}{S:α->β->γ->δ->ε->ζ->Prop}{T:α->β->γ->δ->ε->ζ->Prop}{U:α->β->γ->δ->ε->ζ->Prop}{K:α->β->γ->δ->ε->ζ->Prop}(n:P a)(o:Q a b)(p:R a b c d e f)(q:S a b c d e f)(r:T a b c d e f)(s:U a b c d e f)(k:K a b c d e f):∃g,P g/\∃h,Q g h/\∃i j l m,R g h i j l m/\S g h i j l m/\T g h i j l m/\U g h i j l m/\K g h i j l m:=⟨a,n,b,o,c,d,e,f,p,q,r,s,k⟩
theorem Bj{A B:TS}{D:IE}{σ:St}{H:Hp}(h:let r:=B D;let s:=σ;∀k:St->Hp->Prop,(∀{σ H},r σ H->k σ H)->let E:IE:={D with nx:=k};A E s H):Zo A B D σ H:=h _ λz=>z
end L2
namespace Nu
open PySem PySem.NumText PyProof.Rows
theorem ext{a b:Str}(h:a.cps.toList=b.cps.toList):a=b:=by
 obtain⟨⟨l⟩⟩:=a;obtain⟨⟨r⟩⟩:=b;cases h;rfl
theorem len(x:Str):x.length=x.cps.toList.length:=by simp[Str.length]
end Nu
namespace Tx
open PySem PySem.Builtin PySem.Builtin.Str PyProof.Rows
theorem CQ(a b:Str):(a++b).cps.toList=a.cps.toList++b.cps.toList:=cps_toList_append a b
noncomputable def jl(sep:J_):List (List Nat)->List Nat
|[]=>[]
|[x]=>x
|x::y::r=>x++sep++jl sep (y::r)
theorem Fj(a:Str):∀b:List Str,(Str.join a b).cps.toList=jl a.cps.toList (b.map λt=>t.cps.toList)
|[]=>rfl
|[x]=>rfl
|x::y::r=>by
 have e:Str.join a (x::y::r)=x++a++Str.join a (y::r):=rfl;rw[e,CQ,CQ,Fj a (y::r)];rfl
theorem SN{c:Nat}:∀{x y A B:J_},c∉x->c∉y->x++c::A=y++c::B->x=y/\A=B
|[],[],A,B,_,_,h=>⟨Z,by simpa using h⟩
|[],y::ys,A,B,_,hy,h=>by
 simp at h;exact absurd (by rw[h.1];exact C8) hy
|x::xs,[],A,B,hx,_,h=>by
 simp at h;exact absurd (by rw[<-h.1];exact C8) hx
|x::xs,y::ys,A,B,hx,hy,h=>by
 simp at h;obtain⟨e,h⟩:=h;obtain⟨a,b⟩:=SN (x:=xs) (y:=ys) (λz=>hx (C9 _ z)) (λz=>hy (C9 _ z)) h;exact⟨by rw[e,a],b⟩
theorem VD(c:Nat)(s:J_):∀(as bs:List (List Nat)),as≠[]->bs≠[]->(∀t∈as,c∉t)->(∀t∈bs,c∉t)->jl (c::s) as=jl (c::s) bs->as=bs
|[],_,h,_,_,_,_=>absurd Z h
|_,[],_,h,_,_,_=>absurd Z h
|[x],[y],_,_,_,_,e=>by
 have a:x=y:=e;rw[a]
|[x],y::z::r,_,_,ha,_,e=>by
 have a:x=y++c::s++jl (c::s) (z::r):=e;exact absurd (by rw[a];simp) (ha x C8)
|x::z::r,[y],_,_,_,hb,e=>by
 have a:x++c::s++jl (c::s) (z::r)=y:=e;exact absurd (by rw[<-a];simp) (hb y C8)
|x::x2::r,y::y2::r',_,_,ha,hb,e=>by
 have a:x++c::(s++jl (c::s) (x2::r))=y++c::(s++jl (c::s) (y2::r')):=by
  have:x++c::s++jl (c::s) (x2::r)=y++c::s++jl (c::s) (y2::r'):=e
  simpa using this
 obtain⟨d,f⟩:=SN (ha x C8) (hb y C8) a;have g:=List.append_cancel_left f;rw[d,VD c s (x2::r) (y2::r') B0 B0 (λt b=>ha t (C9 _ b)) (λt b=>hb t (C9 _ b)) g]
theorem Re {as bs:K_} (h:as.map (λt=>t.cps.toList)=bs.map λt=>t.cps.toList):as=bs:=by
 induction as generalizing bs with
 |nil=>cases bs with|nil=>rfl|cons=>simp at h
 |cons a r c =>
  cases bs with
  |nil=>simp at h
  |cons b q =>
   simp at h;rw[Nu.ext (a:=a) (b:=b) (by simpa using h.1),c (by simpa using h.2)]
theorem Ti(c:Nat)(b:K_)(d:b≠[])(g:∀t∈b,c∉t.cps.toList):Txt.split (Str.join ⟨#[c]⟩ b) ⟨#[c]⟩=b:=by
 refine Re (VD c [] _ _ ?_ ?_ ?_ ?_ ?_)
 .intro h;have:=split_pos (Str.join ⟨#[c]⟩ b) ⟨#[c]⟩;have i:(Txt.split (Str.join ⟨#[c]⟩ b) ⟨#[c]⟩).length=0:=by simpa using A2f List.length h
  lia
 .simpa using d
 .intro t f;refine xea (F1.mp f) λp e a=>?_;subst a;exact StrLaws.split_free _ c p e
 .intro t f;refine xea (F1.mp f) λp e a=>?_;subst a;exact g p e
 .have h:=A2f (λz:Str=>z.cps.toList) (StrLaws.join_split (Str.join ⟨#[c]⟩ b) ⟨#[c]⟩);rw[Fj,Fj]at h;exact h
theorem GK(c:Nat)(a b:Str)(h:c∉a.cps.toList):Txt.partition (a++⟨#[c]⟩++b) ⟨#[c]⟩=(a,⟨#[c]⟩,b):=by
 have d:c∈(a++⟨#[c]⟩++b).cps.toList:=by rw[CQ,CQ];simp
 have v:=StrLaws.partition_sum (a++⟨#[c]⟩++b) ⟨#[c]⟩;have s:=partition_head (a++⟨#[c]⟩++b) ⟨#[c]⟩;have g:=StrLaws.found_one (a++⟨#[c]⟩++b) c;rw[A0d d]at g;have f:(Txt.partition (a++⟨#[c]⟩++b) ⟨#[c]⟩).2.1=⟨#[c]⟩:=by
  unfold Txt.partition;cases e:occurrences (a++⟨#[c]⟩++b) ⟨#[c]⟩ 0 (a++⟨#[c]⟩++b).length 1 with
  |nil=>rw[e]at g;simp at g
  |cons i l=>rfl
 have m:c∉(Txt.partition (a++⟨#[c]⟩++b) ⟨#[c]⟩).1.cps.toList:=by
  rcases s with ⟨_,no⟩|⟨i,e,r,no⟩
  .obtain⟨j,t⟩:=L7 d;exact absurd ((StrLaws.subAt_one _ c j).mpr t) (no j)
  .rw[e];exact StrLaws.part_free _ c 0 i (by have:i+1<=_:=r.1;lia) λk _ u=>no k u
 have e:(Txt.partition (a++⟨#[c]⟩++b) ⟨#[c]⟩).1.cps.toList++(Txt.partition (a++⟨#[c]⟩++b) ⟨#[c]⟩).2.1.cps.toList++(Txt.partition (a++⟨#[c]⟩++b) ⟨#[c]⟩).2.2.cps.toList=a.cps.toList++[c]++b.cps.toList:=by
  have n:=A2f (λz:Str=>z.cps.toList) v;rw[CQ,CQ,CQ,CQ]at n;exact n
 rw[f]at e;have o:(Txt.partition (a++⟨#[c]⟩++b) ⟨#[c]⟩).1.cps.toList++c::(Txt.partition (a++⟨#[c]⟩++b) ⟨#[c]⟩).2.2.cps.toList=a.cps.toList++c::b.cps.toList:=by simpa using e
 obtain⟨p,q⟩:=SN m h o;exact Prod.ext (Nu.ext p) (Prod.ext f (Nu.ext q))
theorem MS{n:Int}(a:0<=n)(b:n<=9):(Str.ofString (toString n))=(⟨#[48+n.toNat]⟩:Str):=by
 obtain⟨m,rfl⟩:=J6 a;exact(show ∀m:Nat,m<10->(Str.ofString (toString (m:Int)))=(⟨#[48+(m:Int).toNat]⟩:Str) by decide +kernel) m A0
end Tx
namespace Tx
open PySem PySem.Builtin PySem.Builtin.Str PyProof.Rows
theorem VC:∀a:List (List Nat),jl [] a=a.flatten
|[]=>rfl
|[x]=>by simp[jl]
|x::y::r=>by
 show x++[]++jl [] (y::r)=_;rw[VC (y::r)];simp
theorem WJ(c:Str)(m:Nat):∀(l:K_)(b:Nat),(∀t∈l,t.length<=m)->l.foldl (λa t=>a+t.length+c.length) b<=b+l.length*(m+c.length)
|[],b,_=>by simp
|t::r,b,h=>by
 have e:=h t C8;have f:=WJ c m r (b+t.length+c.length) λz d=>h z (C9 _ d);rw[T3,D8,Nat.succ_mul];lia
theorem OM(m:Nat)(h:∀t∈l,t.length<=m)(d:l.length*(m+b.length)<=100000):JoinOk b l=o5:=by
 unfold JoinOk;have c:=WJ b m l 0 h;have e:l.toArray.foldl (λa t=>a+t.length+b.length) 0=l.foldl (λa t=>a+t.length+b.length) 0:=by simp
 rw[e];have:tooLong (l.foldl (λa t=>a+t.length+b.length) 0)=o6:=by
  unfold tooLong;refine A0f ?_;have:(100000:Nat)<=sizeLine:=by decide
  lia
 rw[this];rfl
theorem app_len(a b:Str):(a++b).length=a.length+b.length:=by
 rw[Nu.len,Nu.len,Nu.len,CQ,C6]
end Tx
namespace Tx
open PySem PySem.Builtin PySem.Builtin.Str PyProof.Rows
theorem aAt(x:Str)(c d k:Nat)(e:x.cps.toList[k]?=o3 c)(a:x.cps.toList[k+1]?=o3 d):StrLaws.At x ⟨#[c,d]⟩ x.length k:=by
 have l:=(B9.mp a).1;refine⟨?_,?_⟩
 .show k+2<=x.length;rw[Nu.len];lia
 .rw[StrLaws.subAt_eq];show((x.cps.toList.drop k).take 2==[c,d])=o5;have b:x.cps.toList.drop k=c::d::x.cps.toList.drop (k+2):=by
   rw[Q8 A0,(B9.mp e).2,Q8 l,(B9.mp a).2]
  rw[b];simp
def Led(c d:Nat)(l:J_):Prop:=∀k:Nat,l[k]?=o3 c->l[k+1]?=o3 d
theorem Pr{c d a b:Nat}(l:Led c d x.cps.toList)(m:b<=x.length)(i:∀k,a<=k->k<b->¬StrLaws.At x ⟨#[c,d]⟩ x.length k):c∉(strSub x a b).cps.toList:=by
 intro g;rw[StrLaws.strSub_toList]at g;obtain⟨j,e⟩:=L7 g;have f:j<b-a:=by
  have h:=(B9.mp e).1;rw[J3]at h;lia
 rw[W7 f,K5]at e;exact i (a+j) A0 A0 (aAt x c d (a+j) e (l _ e))
theorem Oe{c d:Nat}(j:Led c d x.cps.toList):∀(b:J_)(a f:Nat),StrLaws.ChainG x ⟨#[c,d]⟩ x.length a b f->(∀k,f<=k->¬StrLaws.At x ⟨#[c,d]⟩ x.length k)->∀p∈StrLaws.partsFrom x 2 a b,c∉p.cps.toList
|[],a,f,h,hn,p,hp=>by
 have e:=h;subst e;rw[D4.mp hp];exact Pr j (C0 _) λk l _=>hn k l
|g::r,a,f,h,hn,p,hp=>by
 rcases C4.mp hp with rfl|i
 .exact Pr j (by have:g+2<=_:=h.2.1.1;lia) h.2.2.1
 .exact Oe j r _ f h.2.2.2 hn p i
theorem aCG(x:Str):¬Builtin.Str.strKind x<Builtin.Str.strKind (⟨#[59,32]⟩:Str):=by
 have e:Builtin.Str.strKind (⟨#[59,32]⟩:Str)=1:=by simp[Builtin.Str.strKind]
 rw[e];unfold Builtin.Str.strKind;split
 .decide
 .split<;>decide
theorem Tj(l:Led 59 32 x.cps.toList):∀p∈Txt.split x ⟨#[59,32]⟩,59∉p.cps.toList:=by
 refine xea (StrLaws.occ_tight x ⟨#[59,32]⟩ A6) λf b i=>?_;have whole:59∈x.cps.toList->∃k,StrLaws.At x ⟨#[59,32]⟩ x.length k:=λa=>by
  obtain⟨j,g⟩:=L7 a;exact⟨j,aAt x 59 32 j g (l j g)⟩
 unfold Txt.split;split
 .rename_i e;intro p d;rw[D4.mp d];intro a;obtain⟨k,c⟩:=whole a;have o:=c.1;rw[Bool.or_eq_true,A8b,A8b]at e;rcases e with h|h
  .have q:=h;lia
  .exact aCG x h
 .split
  .rename_i m;intro p d;rw[D4.mp d];intro a;obtain⟨k,c⟩:=whole a;rw[List.isEmpty_iff.mp m]at b;have n:f=0:=b;exact i k A0 c
  .rw[StrLaws.partsBetween_eq];exact Oe l _ 0 f b i
theorem aBR{c d:Nat}(a:c≠d):∀b:List (List Nat),(∀t∈b,c∉t)->Led c d (jl [c,d] b)
|[],_=>λk h=>by simp[jl]at h
|[x],hf=>λk h=>absurd (D5 (show x[k]?=o3 c from h)) (hf x C8)
|x::y::r,hf=>λk h=>by
 have j:=aBR a (y::r) λt i=>hf t (C9 _ i);have e:jl [c,d] (x::y::r)=x++(c::d::jl [c,d] (y::r)):=by
  show x++[c,d]++jl [c,d] (y::r)=_;simp
 rw[e]at h⊢;by_cases f:k<x.length
 .rw[M5 f]at h;exact absurd (D5 h) (hf x C8)
 .rw[J0 A0]at h;rw[J0 A0];obtain⟨m,g⟩:∃m,k-x.length=m:=⟨_,Z⟩
  rw[show k+1-x.length=m+1 by lia];rw[g]at h;cases m with
  |zero=>rfl
  |succ m =>
   cases m with
   |zero =>
    have:o3 d=o3 c:=h;exact absurd (A1d this).symm a
   |succ m =>
    rw[Y9,Y9]at h⊢;exact j m h
theorem Th(b:K_)(e:b≠[])(g:∀t∈b,59∉t.cps.toList):Txt.split (Str.join ⟨#[59,32]⟩ b) ⟨#[59,32]⟩=b:=by
 have f:Led 59 32 (Str.join ⟨#[59,32]⟩ b).cps.toList:=by
  rw[Fj];refine aBR A6 _ λt d=>?_;refine xea (F1.mp d) λp c a=>?_;subst a;exact g p c
 refine Re (VD 59 [32] _ _ ?_ ?_ ?_ ?_ ?_)
 .intro h;have:=split_pos (Str.join ⟨#[59,32]⟩ b) ⟨#[59,32]⟩;have i:(Txt.split (Str.join ⟨#[59,32]⟩ b) ⟨#[59,32]⟩).length=0:=by simpa using A2f List.length h
  lia
 .simpa using e
 .intro t d;refine xea (F1.mp d) λp c a=>?_;subst a;exact Tj f p c
 .intro t d;refine xea (F1.mp d) λp c a=>?_;subst a;exact g p c
 .have h:=A2f (λz:Str=>z.cps.toList) (StrLaws.join_split (Str.join ⟨#[59,32]⟩ b) ⟨#[59,32]⟩);rw[Fj,Fj]at h;exact h
end Tx
namespace L2
open PySem PySem.Spec PyProof.Rows
section
variable{κ:Type}[DecidableEq κ]
noncomputable def BK(kvs:List (κ×V))(k:κ):Option V:=(kvs.find? λkv=>decide (kv.1=k)).map (·.2)
noncomputable def EG(kvs:List (κ×V))(k:κ)(v:V):List (κ×V) :=
 if(kvs.any λkv=>decide (kv.1=k))=o5 then kvs.map (λkv=>if kv.1=k then(kv.1,v)else kv)else kvs++[(k,v)]
theorem BW{p:κ×V}{r:List (κ×V)}{k:κ}(e:p.1=k):BK (p::r) k=o3 p.2:=by simp[BK,R9,e]
theorem BD{p:κ×V}{r:List (κ×V)}{k:κ}(e:¬p.1=k):BK (p::r) k=BK r k:=by simp[BK,R9,e]
theorem JE(k:κ):∀kvs:List (κ×V),(kvs.any λa=>decide (a.1=k))=(BK kvs k).isSome
|[]=>rfl
|p::r=>by
 rw[U5];by_cases e:p.1=k
 .simp only[BW e,A0d e,Bool.true_or,Option.isSome_some]
 .rw[BD e,A0f e,Bool.false_or];exact JE k r
theorem SW(k j:κ)(y:V):∀kvs:List (κ×V),BK (kvs.map λa=>if a.1=k then(a.1,y)else a) j=(BK kvs j).map λx=>if j=k then y else x
|[]=>rfl
|p::r=>by
 have b:=SW k j y r;rw[F5];by_cases h:p.1=k
 .rw[A0e h];by_cases e:p.1=j
  .rw[BW (p:=(p.1,y)) e,BW e,Z7,A0e (e.symm.trans h)]
  .rw[BD (p:=(p.1,y)) e,BD e,b]
 .rw[A0c h];by_cases e:p.1=j
  .rw[BW (p:=p) e,BW e,Z7,A0c (λz=>h (e.trans z))]
  .rw[BD (p:=p) e,BD e,b]
theorem QS(k j:κ)(y:V):∀kvs:List (κ×V),BK kvs k=o4->BK (kvs++[(k,y)]) j=if j=k then o3 y else BK kvs j
|[],_=>by
 by_cases e:k=j
 .rw[A0e e.symm];exact BW (p:=(k,y)) e
 .rw[A0c (λz=>e z.symm)];exact BD (p:=(k,y)) e
|p::r,hn=>by
 rw[List.cons_append];have a:¬p.1=k:=λz=>by rw[BW z]at hn;cases hn
 rw[BD a]at hn;have b:=QS k j y r hn;by_cases e:p.1=j
 .rw[BW e,BW e,A0c (λz=>a (e.trans z))]
 .rw[BD e,BD e,b]
theorem Iv(kvs:List (κ×V))(k j:κ)(y:V):BK (EG kvs k y) j=if j=k then o3 y else BK kvs j:=by
 unfold EG;by_cases a:(kvs.any λc=>decide (c.1=k))=o5
 .rw[A0e a,SW];rw[JE]at a;by_cases e:j=k
  .obtain⟨x,b⟩:=Option.isSome_iff_exists.mp a;rw[A0e e,e,b,Z7,A0e rfl]
  .rw[A0c e];cases BK kvs j with
   |none=>rfl
   |some x=>rw[Z7,A0c e]
 .rw[A0c a];refine QS k j y kvs ?_;rw[JE]at a;cases q:BK kvs k with
  |none=>rfl
  |some x=>rw[q]at a;exact(a Z).elim
theorem GP(kvs:List (κ×V))(k:κ)(v:V):(EG kvs k v).length<=kvs.length+1:=by
 unfold EG;split
 .rw[B8];lia
 .rw[C6,D8,R8];lia
theorem Mw{kvs:List (κ×V)}{k:κ}(v:V)(h:BK kvs k=o4):EG kvs k v=kvs++[(k,v)]:=by
 unfold EG;rw[JE,h];exact A0c A6
theorem JC.isSome_eq(r:JC o u):o.isSome=u.isSome:=by
 cases o with
 |none=>cases u with
  |none=>rfl
  |some _=>exact(show False from r).elim
 |some _=>cases u with
  |none=>exact(show False from r).elim
  |some _=>rfl
theorem JC.getD(r:JC o u)(a:Bf d d'):Bf (o.getD d) (u.getD d'):=by
 cases o with
 |none=>cases u with
  |none=>exact a
  |some _=>exact(show False from r).elim
 |some _=>cases u with
  |none=>exact(show False from r).elim
  |some _=>exact r
theorem KV.val{kvs:List (κ×V)}{vs:List (κ×Value)}(r:KV kvs vs)(k:κ):JC (BK kvs k) (valueAt vs k):=by
 unfold KV at r;induction r with
 |nil=>exact True.intro
 |@cons p q g qs h t f =>
  obtain⟨c,d⟩:=h;by_cases e:p.1=k
  .have a:=c.symm.trans e;have b:valueAt (q::qs) k=o3 q.2:=by simp[valueAt,R9,a]
   rw[BW e,b];exact d
  .have a:¬q.1=k:=λz=>e (c.trans z);have b:valueAt (q::qs) k=valueAt qs k:=by simp[valueAt,R9,a]
   rw[BD e,b];exact f
theorem KV.any(r:KV kvs vs)(k:κ):(kvs.any λa=>decide (a.1=k))=vs.any λa=>decide (a.1=k):=by
 unfold KV at r;induction r with
 |nil=>rfl
 |cons h t b=>rw[U5,U5,b,h.1]
theorem KV.repl(r:KV kvs vs)(k:κ)(f:Bf y u) :
  KV (kvs.map λa=>if a.1=k then(a.1,y)else a) (vs.map λa=>if a.1=k then(a.1,u)else a):=by
 unfold KV at r⊢;induction r with
 |nil=>exact .nil
 |@cons p q g qs h t d =>
  rw[F5,F5];refine .cons ?_ d;obtain⟨b,c⟩:=h;by_cases e:p.1=k
  .rw[A0e e,A0e (b.symm.trans e)];exact⟨b,f⟩
  .rw[A0c e,A0c (λz=>e (b.trans z))];exact⟨b,c⟩
theorem KV.put(r:KV kvs vs)(k:κ)(a:Bf y u):KV (EG kvs k y) (stored vs k u):=by
 unfold EG stored;rw[r.any k];by_cases e:(vs.any λb=>decide (b.1=k))=o5
 .rw[A0e e,A0e e];exact r.repl k a
 .rw[A0c e,A0c e];exact A4g r ⟨Z,a⟩
theorem KV.length(r:KV kvs vs):kvs.length=vs.length:=A1e r
end
theorem Ri{k:Key}(r:Bf (kV k) u):(Ck P w).is k u=o5:=by
 cases k with
 |inl i=>obtain⟨t,e⟩:=(show ∃t,u=Value.int i t from r);subst e;exact Ud P w i t
 |inr x=>obtain⟨t,e⟩:=(show ∃t,u=Value.str x t from r);subst e;exact Uc P w x t
theorem Rj:∀{ks:List Key}{us:F_},AR (ks.map kV) us->ItemsAre (Ck P w) ks us
|[],_,r=>by rw[Z3]at r;cases r;exact .nil
|k::ks,_,r=>by
 rw[F5]at r;cases r with
 |cons h t=>exact .cons (Ri h) (Rj t)
abbrev KT(H:Hp):List (List Key×V)->List (List Key×Addr×Value)->Prop:=Paired λp q=>p.1=q.1/\H q.2.1=o3 (.tup (p.1.map kV))/\Bf p.2 q.2.2
theorem KT.val{H:Hp}{kvs:List (List Key×V)}{xs:List (List Key×Addr×Value)}(r:KT H kvs xs)(k:List Key):JC (BK kvs k) ((atKey xs k).map (·.2)):=by
 induction r with
 |nil=>exact True.intro
 |@cons p q g qs h t f =>
  refine xa2 h λc _ d=>?_;by_cases e:p.1=k
  .have a:=c.symm.trans e;have b:atKey (q::qs) k=o3 q.2:=by simp[atKey,R9,a]
   rw[BW e,b];exact d
  .have a:¬q.1=k:=λz=>e (c.trans z);have b:atKey (q::qs) k=atKey qs k:=by simp[atKey,R9,a]
   rw[BD e,b];exact f
theorem KT.repl(r:KT H kvs xs)(k:List Key)(g:Bf y u) :
  KT H (kvs.map λb=>if b.1=k then(b.1,y)else b) (xs.map (putAt k u)):=by
 induction r with
 |nil=>exact .nil
 |@cons p q i qs h t f =>
  rw[F5,F5];refine .cons ?_ f;refine xa2 h λa c d=>?_;unfold putAt;by_cases e:p.1=k
  .rw[A0e e,A0e (a.symm.trans e)];exact⟨a,c,g⟩
  .rw[A0c e,A0c (λz=>e (a.trans z))];exact⟨a,c,d⟩
theorem KT.put(r:KT H kvs xs)(k:List Key)(c:H b=o3 (.tup (k.map kV)))(a:Bf y u) :
  KT H (EG kvs k y) (storedH xs k b u):=by
 have e:(kvs.any λd=>decide (d.1=k))=(atKey xs k).isSome:=by
  rw[JE,(r.val k).isSome_eq,Option.isSome_map]
 unfold EG storedH;rw[e];by_cases q:(atKey xs k).isSome=o5
 .rw[A0e q,A0e q];exact r.repl k a
 .rw[A0c q,A0c q];exact A4g r ⟨Z,c,a⟩
theorem KT.keeps(r:KT H kvs xs)(c:∀b ys,H b=o3 (.tup ys)->a b=o3 (.tup ys)):KT a kvs xs :=
 Paired.mapP r λ_ _ z=>⟨z.1,c _ _ z.2.1,z.2.2⟩
section
variable{P:N_}{w:Q_}{H:Hp}{h:T_}{a:R_}
theorem aDj(ok:HOk P w H h)(e:Rd H a u):BQ P w H h a u:=e.ok ok
theorem Qj(ok:HOk P w H h)(e:Rd H a (.dK kvs)):kvs.length<=sizeLine/\(a==sysModules)=o6/\∃vs,KV kvs vs/\h.DictOf (Ck P w) a vs :=
 show BQ P w H h a (.dK kvs)from aDj ok e
theorem aF4(ok:HOk P w H h)(e:H a=o3 (.dK kvs)):kvs.length<=sizeLine/\(a==sysModules)=o6/\∃vs,KV kvs vs/\h.DictOf (Ck P w) a vs:=Qj ok (.inl e)
theorem NM(ok:HOk P w H h)(e:H a=o3 (.tup (ks.map kV))):(tupleKind (Ck P w)).is h ks a:=by
 refine Jy (show BQ P w H h a (.tup (ks.map kV))from ok a _ e) λ_ b r c=>?_;refine AS c λo f g d=>?_;refine xe d λn i=>?_;exact⟨o,b.toArray,n,f,g,i,by simpa using Rj r⟩
theorem On(ok:HOk P w H h)(e:Rd H a (.dT kvs)):kvs.length<=sizeLine/\(a==sysModules)=o6 /\
  ∃xs,KT H kvs xs/\h.DictOfH (tupleKind (Ck P w)) a xs:=by
 refine CU (show BQ P w H h a (.dT kvs)from aDj ok e) λz y xs r c=>?_;refine BV c λo g f i j k n s=>?_;refine⟨z,y,xs,r,o,g,f,i,j,k,n,λx b=>?_,s⟩;have all:∀{l:List (List Key×V)}{m:List (List Key×Addr×Value)},KT H l m->∀x∈m,(tupleKind (Ck P w)).is h x.1 x.2.1:=by
  intro l m q;induction q with
  |nil=>intro x b;exact nomatch b
  |@cons p q v qs d t u =>
   intro x b;rcases C4.mp b with e|b
   .subst e;exact NM ok (by rw[<-d.1];exact d.2.1)
   .exact u x b
 exact all r x b
theorem aF7(ok:HOk P w H h)(e:H a=o3 (.dT kvs)):kvs.length<=sizeLine/\(a==sysModules)=o6 /\
 ∃xs,KT H kvs xs/\h.DictOfH (tupleKind (Ck P w)) a xs:=On ok (.inl e)
end
def GC(H:Hp)(a:R_)(y:V)(r:Option V):Prop :=
 (∃kvs k,Rd H a (.dK kvs)/\y=kV k/\r=BK kvs k)\/∃kvs k b,Rd H a (.dT kvs)/\y=.ref b/\H b=o3 (.tup (k.map kV))/\r=BK kvs k
def Mm(H:Hp)(a:R_)(y v:V)(H':Hp):Prop :=
 (∃kvs k,H a=o3 (.dK kvs)/\y=kV k/\kvs.length<sizeLine/\H'=upd H a (.dK (EG kvs k v))) \/
 ∃kvs k b,H a=o3 (.dT kvs)/\y=.ref b/\H b=o3 (.tup (k.map kV))/\kvs.length<sizeLine/\H'=upd H a (.dT (EG kvs k v))
theorem GC.k{H:Hp}{a:R_}{kvs:List (Key×V)}{k:Key}(e:H a=o3 (.dK kvs)):GC H a (kV k) (BK kvs k):=.inl ⟨kvs,k,.inl e,Z,Z⟩
theorem GC.t{H:Hp}{a b:R_}{kvs:List (List Key×V)}{k:List Key}(e:H a=o3 (.dT kvs))(c:H b=o3 (.tup (k.map kV))):GC H a (.ref b) (BK kvs k):=.inr ⟨kvs,k,b,.inl e,Z,c,Z⟩
theorem Mm.k{H:Hp}{a:R_}{kvs:List (Key×V)}{k:Key}{v:V}(e:H a=o3 (.dK kvs))(b:kvs.length<sizeLine):Mm H a (kV k) v (upd H a (.dK (EG kvs k v))):=.inl ⟨kvs,k,e,Z,b,Z⟩
theorem Mm.t{H:Hp}{a b:R_}{kvs:List (List Key×V)}{k:List Key}{v:V}(e:H a=o3 (.dT kvs))(c:H b=o3 (.tup (k.map kV)))(d:kvs.length<sizeLine) :
 Mm H a (.ref b) v (upd H a (.dT (EG kvs k v))):=.inr ⟨kvs,k,b,e,Z,c,d,Z⟩
section
variable{X:Cx}{o0:A_}{σ:St}{H:Hp}{s:P_}{a:R_}{y v:V}{u r:S_}{o:Option V}{A:Around}{E:B_}
theorem Inv.big(I:Inv X o0 σ H s):sysModules<s.heap.objs.size:=by
 have h:=(I.mod.glob.keeps I.bk).lt;exact V5 A6 h
theorem YW(D:A.units+1<cLine)(I:Inv X o0 σ H s)(g:GC H a y (o3 v))(q:Bf y u)(h:∀f t,Inv X o0 σ H t->Bf v f->Q f t) :
  wpAny (model X.prog X.w) A (getItem (.ref a) u) Q E s:=by
 rcases g with ⟨kvs,k,e,j,l⟩|⟨kvs,k,b,e,j,x,l⟩
 .subst j;exact CU (Qj I.hok e) λz B vs c i=>xea (JC.some_of (v:=v) (o:=valueAt vs k) (by rw[l];exact c.val k)) λf n d=>wpAny_getItem_of (Ri q) i.mapOf n (h f _ (I.tok _) d)
 .subst j;cases(show u=Value.ref b from q);refine CU (On I.hok e) λz B xs c i=>xea (JC.some_of (v:=v) (o:=(atKey xs k).map (·.2)) (by rw[l];exact c.val k)) λf n d=>xea (D7.mp n) λp C m=>wpAny_getItem_heap (A7d D) (NM I.hok x) i C ?_;rw[m];exact h f _ (I.tok _) d
theorem aB9(p:A.units+1<cLine)(I:Inv X o0 σ H s)(g:GC H a y o)(j:Bf y u)(h:∀m,Inv X o0 σ H m->Q (.bool (!o.isSome)) m) :
  wpAny (model X.prog X.w) A (compareOp .NotIn u (.ref a)) Q E s:=by
 rcases g with ⟨kvs,k,e,f,l⟩|⟨kvs,k,b,e,f,n,l⟩
 .subst f;refine CU (Qj I.hok e) λz i vs c d=>wpAny_notIn_of (Ri j) i d.mapOf ?_;rw[<-(c.val k).isSome_eq,<-l];exact h _ (I.tok _)
 .subst f;cases(show u=Value.ref b from j);refine CU (On I.hok e) λz i xs c d=>wpAny_notIn_heap (A7d p) (NM I.hok n) i d ?_;have q:=(c.val k).isSome_eq;rw[Option.isSome_map]at q;rw[<-q,<-l];exact h _ (I.tok _)
theorem SI{c:HO}(I:Inv X o0 σ H s)(h:Mut (H a))(g:Heap.SameBut a s.heap h')(f:∃q,h'.get? a=o3 q)(new:BQ X.prog X.w (upd H a c) h' a c) :
  Inv X o0 σ (upd H a c) {s with heap:=h',toks:=t'} :=
 I.write (x:=a) (e:=a) h (.inl Z) (λb q d z=>(g.2 b d).trans z) f new
theorem aD2{c:Hp}(z:kvs.length<=sizeLine)(e:(a==sysModules)=o6)(b:KV kvs vs)(d:h'.DictOf (Ck P w) a vs) :
 BQ P w c h' a (.dK kvs):=⟨z,e,vs,b,d⟩
theorem YV(V:A.units+1<cLine)(I:Inv X o0 σ H s)(g:Mm H a y v D)(L:Bf y u)(K:Bf v r)(h:∀M,Inv X o0 σ D M->Q () M) :
  wpAny (model X.prog X.w) A (setItem (.ref a) u r) Q E s:=by
 rcases g with ⟨kvs,k,e,n,l,m⟩|⟨kvs,k,b,e,n,F,l,m⟩
 .subst n m;refine CU (aF4 I.hok e) λz p vs d j=>?_;have B:vs.length<=sizeLine:=by rw[<-d.length];exact z
  have t:(EG kvs k v).length<=sizeLine:=by have:=GP kvs k v;lia
  refine wpAny_setItem_pairs (hsz:=B) (Ri L) j λh' f x=>h _ ?_;have U:∃q,h'.get? a=o3 q:=let ⟨q,_,_,i,_⟩:=f;⟨q,i⟩;exact SI I (by rw[e];exact True.intro) x U (aD2 t p (d.put k K) f)
 .subst n m;cases(show u=Value.ref b from L);refine CU (aF7 I.hok e) λz p xs d j=>?_;have B:xs.length<=sizeLine:=by rw[<-A1e d];exact z
  have t:(EG kvs k v).length<=sizeLine:=by have:=GP kvs k v;lia
  refine wpAny_setItem_heap (hsz:=B) (A7d V) (NM I.hok F) j λh' f x=>h _ ?_;refine BV f λq O N i P R S C=>?_;refine xa C λ_ T=>?_;refine SI I (by rw[e];exact True.intro) x ⟨q,i⟩ ⟨t,p,_,(d.put k F K).keeps λc ys G=>?_,q,O,N,i,P,R,S,T⟩;rw[Av (AE G e (λz=>nomatch z))];exact G
end
def aFV(i:Expr):Prop:=∀ov iv,subscripted i o6 ov iv=operate [ov,iv] (getItem ov iv)
theorem aCy{prog:N_}{w:Q_}{A:Around}{E:B_}{s:P_}{g:Env}{b a:Expr}{pos:Pos}{T id:String}{Q:B_}
  (m:typeLookup (.type T) "__getitem__" = pure (o3 (.builtin id))) (n:aFV a)
  (h:wpAny (model prog w) A (eval b g) (λo e=>wpAny (model prog w) A (eval a g) (λi c=>c.TypeIs o T/\wpAny (model prog w) A (getItem o i) Q E c) E e) E s) :
  wpAny (model prog w) A (eval (.Subscript b a pos) g) Q E s:=by
 refine Subscript_ (A3e h (λo e j=>A3e j (λi c d=>?_) λ_ _ x=>x) λ_ _ x=>x);obtain⟨l,d⟩:=d;unfold subscriptTail;refine A0b ?_;rw[getitemInPython_of_ne l.not_modules];refine A0b (wpAny_specialOf l m ?_);have fin:wpAny (model prog w) A (subscripted a o6 o i) (λr f=>wpAny (model prog w) A (letTemporaryGo b o r >>= λ_=>pure r) Q E f) E c:=by
  rw[n o i];exact wpAny_operating (A3e d (λr f k=>A0b (wpAny_letTemporaryGo (A0h k))) λ_ _ x=>x)
 first
  |exact A0h (A0b fin)
  |exact A0b (A0h (A0b fin))
  |exact A0b fin
theorem Us{c:A_}(I:Inv X c σ H s)(g:GC H a y o):s.TypeIs (.ref a) "dict" := by
 rcases g with ⟨kvs,k,e,_,_⟩|⟨kvs,k,b,e,_,_,_⟩
 .exact CU (Qj I.hok e) λ_ _ vs _ d=>d.typeIs
 .exact CU (On I.hok e) λ_ _ xs _ d=>d.typeIs
def aHA(td ty:TE):TE:=fun σ H Q=>td σ H λx H1=>ty σ H1 λy H2=>∃a v,x=.ref a/\GC H2 a y (o3 v)/\Q v H2
def aCz(ty td:TE):TE:=fun σ H Q=>ty σ H λy H1=>td σ H1 λx H2=>∃a o,x=.ref a/\GC H2 a y o/\Q (.bl (!o.isSome)) H2
def aGo(td ty tv:TE):TS:=λD σ H=>tv σ H λv H1=>td σ H1 λx H2=>ty σ H2 λy H3=>∃a H4,x=.ref a/\Mm H3 a y v H4/\D.nx σ H4
section
variable{X:Cx}{o i e value:Expr}{pos pos' tpos:Pos}{td ty tv:TE}
theorem RY(q:X.A.units+1<cLine)(n:PE X o td)(hi:PE X i ty)(p:aFV i):PE X (.Subscript o i pos) (aHA td ty):=by
 intro b s σ H Q I h;refine aCy PySem.F.slot_dict_getitem.lookup p (thn (n b s σ H _ I h) λu B ⟨x,f,k,w,r⟩=>thn (hi b B σ f _ k r) λC D ⟨y,j,d,z,a,v,m,g,t⟩=>?_);subst m;obtain rfl:u=Value.ref a:=w;exact⟨Us d g,YW q d g z λG E l c=>⟨v,j,l,c,t⟩⟩
theorem Yn(q:X.A.units+1<cLine)(hi:PE X i ty)(p:PE X o td):PC X .NotIn i o (aCz ty td):=by
 intro b s σ H Q I h;refine thn (hi b s σ H _ I h) λC B c=>AN c λy f k z t=>thn (p b B σ f _ k t) λu D c=>?_;refine AN c λx j l w d=>?_;refine AN d λa r n g v=>?_;subst n;obtain rfl:u=Value.ref a:=w;exact aB9 q l g z λE m=>⟨.bl (!r.isSome),j,m,Z,v⟩
theorem FH(t:X.A.units+1<cLine)(p:PE X o td)(hi:PE X i ty)(w:PE X value tv)(q:swapsWith value (o3 (.Subscript o i pos')) pos.line X.env=pure o6) :
  PS X (.Assign [.Subscript o i pos'] value pos) (aGo td ty tv):=by
 intro b s σ H D I h;refine wpAny_Assign_Subscript (thn (w b s σ H _ I h) λr K ⟨v,c,j,E,z⟩=>thn (p b K σ c _ j z) λu L ⟨x,d,k,F,B⟩=>thn (hi b L σ d _ k B) λN O ⟨y,M,l,G,a,f,n,g,C⟩=>?_) q;subst n;obtain rfl:u=Value.ref a:=F;exact YV t l g G E λP m=>⟨σ,f,m,C⟩
end
theorem aA1(h:T_)(a:sysModules<h.objs.size):BQ P w H (h.push {cls:=.type "dict",data:=.dict #[]}) h.objs.size (.dK []) :=
 ⟨J9 _,beq_eq_false_iff_ne.mpr (A1b (J8 a)),[],.nil,Heap.DictOf.new h⟩
theorem aA2(h:T_)(a:sysModules<h.objs.size):BQ P w H (h.push {cls:=.type "dict",data:=.dict #[]}) h.objs.size (.dT []) :=
 ⟨J9 _,beq_eq_false_iff_ne.mpr (A1b (J8 a)),[],.nil,_,#[],0,F0 _ Z,⟨Z,Z,Z⟩,Z,Z,R6⟩
def aFI:TE:=λ_ H Q=>∀p,H p=o4->Q (.ref p) (upd H p (.dK []))
def aFJ:TE:=λ_ H Q=>∀p,H p=o4->Q (.ref p) (upd H p (.dT []))
section
variable{X:Cx}{pos:Pos}
theorem MB:PE X (.Dict [] [] pos) aFI:=λb s σ H Q I h =>
 wpAny_Dict_empty ⟨.ref s.heap.objs.size,_,I.laid (a:=s.heap.objs.size) (o:=.dK []) (t':=s.toks) (λ_ _ q=>C2 _ q) (C0 _) (aA1 s.heap I.big),Z,h _ (I.hok.fresh (C0 _))⟩
theorem Mz:PE X (.Dict [] [] pos) aFJ:=λb s σ H Q I h =>
 wpAny_Dict_empty ⟨.ref s.heap.objs.size,_,I.laid (a:=s.heap.objs.size) (o:=.dT []) (t':=s.toks) (λ_ _ q=>C2 _ q) (C0 _) (aA2 s.heap I.big),Z,h _ (I.hok.fresh (C0 _))⟩
end
structure M1(X:Cx)(o:Expr)(m:Str)(apos:Pos)(e:Expr)(cpos:Pos):Prop where
n9:attributeBase o m X.env (eval o X.env)=eval o X.env
few:((backTo cpos (starEach [e] X.env)).all (λx=>!x.1) && (backToKw cpos (keywordEach [] X.env)).all (λx=>x.1.isSome)
 && decide (([e]:List Expr).length+([]:List Keyword).length+(if([]:List Keyword).isEmpty then 0 else 1)<30))=o5
line:(apos.endLine==cpos.line)=o5
trees:backTo cpos (starEach [e] X.env)=[(o6,eval e X.env)]
structure M2(X:Cx)(o:Expr)(m:Str)(apos:Pos)(e f:Expr)(cpos:Pos):Prop where
n9:attributeBase o m X.env (eval o X.env)=eval o X.env
few:((backTo cpos (starEach [e,f] X.env)).all (λx=>!x.1) && (backToKw cpos (keywordEach [] X.env)).all (λx=>x.1.isSome)
 && decide (([e,f]:List Expr).length+([]:List Keyword).length+(if([]:List Keyword).isEmpty then 0 else 1)<30))=o5
line:(apos.endLine==cpos.line)=o5
trees:backTo cpos (starEach [e,f] X.env)=[(o6,eval e X.env),(o6,eval f X.env)]
def IsD(H:Hp)(a:R_):Prop:=(∃kvs,Rd H a (.dK kvs))\/∃kvs,Rd H a (.dT kvs)
theorem aBG(I:Inv X g σ H s)(d:IsD H a) :
  s.TypeIs (.ref a) "dict" /\ (∀b,Value.ref a=.ref b->∃c,s.heap.get? b=o3 c/\c.dict=o4)/\(a==sysModules)=o6:=by
 rcases d with ⟨kvs,e⟩|⟨kvs,e⟩
 .refine CU (Qj I.hok e) λ_ j vs _ f=>⟨f.typeIs,λb q=>?_,j⟩
  cases q;exact CL f λc _ _ h i _=>⟨c,h,i.2.1⟩
 .refine CU (On I.hok e) λ_ j xs _ f=>⟨f.typeIs,λb q=>?_,j⟩
  cases q;exact CL f λc _ _ h i _=>⟨c,h,i.2.1⟩
section
variable{X:Cx}{o0:A_}{σ:St}{H:Hp}{s:P_}{a:R_}{y d:V}{u r:S_}{o:Option V}{A:Around}{E:B_}
theorem aD0(t:A.units+1<cLine)(I:Inv X o0 σ H s)(g:GC H a y o)(m:Bf y u)(h:∀p n,Inv X o0 σ H n->Bf (o.getD .non) p->Q p n) :
  wpAny (model X.prog X.w) A (call (.builtin "dict.get") [.ref a,u]) Q E s:=by
 rcases g with ⟨kvs,k,e,i,l⟩|⟨kvs,k,b,e,i,q,l⟩
 .subst i;refine CU (Qj I.hok e) λz j vs c f=>call_meetsIn A4c f.typeIs A7a (PySem.F.args_dict_get_2 _ _) (meets_dict_get (Ck X.prog X.w) a (Ri m) j) ⟨_,f.mapOf,h _ _ (I.tok _) ?_⟩;rw[l];exact(c.val k).getD Z
 .subst i;cases(show u=Value.ref b from m);refine CU (On I.hok e) λz j xs c f=>call_meetsIn A4c f.typeIs A7a (PySem.F.args_dict_get_2 _ _) (meetsH_dict_get (tupleKind (Ck X.prog X.w)) a b j) ⟨A7d t,k,xs,NM I.hok q,f,h _ _ (I.tok _) ?_⟩;rw[l];exact(c.val k).getD Z
theorem aD1(v:A.units+1<cLine)(I:Inv X o0 σ H s)(g:GC H a y o)(n:Bf y u)(m:Bf d r)(h:∀q p,Inv X o0 σ H p->Bf (o.getD d) q->Q q p) :
  wpAny (model X.prog X.w) A (call (.builtin "dict.get") [.ref a,u,r]) Q E s:=by
 rcases g with ⟨kvs,k,e,i,l⟩|⟨kvs,k,b,e,i,t,l⟩
 .subst i;refine CU (Qj I.hok e) λz j vs c f=>call_meetsIn A4c f.typeIs A7a (PySem.F.args_dict_get_3 _ _ _) (meets_dict_get_default (Ck X.prog X.w) a (Ri n) j r) ⟨_,f.mapOf,h _ _ (I.tok _) ?_⟩;rw[l];exact(c.val k).getD m
 .subst i;cases(show u=Value.ref b from n);refine CU (On I.hok e) λz j xs c f=>call_meetsIn A4c f.typeIs A7a (PySem.F.args_dict_get_3 _ _ _) (meetsH_dict_get_default (tupleKind (Ck X.prog X.w)) a b j r) ⟨A7d v,k,xs,NM I.hok t,f,h _ _ (I.tok _) ?_⟩;rw[l];exact(c.val k).getD m
end
def aFG(td ty:TE):TE:=fun σ H Q=>td σ H λx H1=>∃a,x=.ref a/\IsD H1 a/\ty σ H1 λy H2=>∃o,GC H2 a y o/\Q (o.getD .non) H2
def aFH(td ty tx:TE):TE:=fun σ H Q=>td σ H λx H1=>∃a,x=.ref a/\IsD H1 a/\ty σ H1 λy H2=>tx σ H2 λz H3=>∃o,GC H3 a y o/\Q (o.getD z) H3
section
variable{X:Cx}{o e f:Expr}{apos cpos:Pos}{td ty tx:TE}
theorem JN(w:X.A.units+1<cLine)(v:PE X o td)(t:PE X e ty)(m:M1 X o "get" apos e cpos):PE X (.Call (.Attribute o "get" apos) [e] [] cpos) (aFG td ty):=by
 intro b s σ H Q I h;refine wpAny_Call_method m.n9 m.few m.line PySem.F.plainAttrs_dict A4c PySem.F.type_dict_get (thn (v b s σ H _ I h) λu E r=>?_);refine AN r λx k j C i=>?_;refine AS i λa q d z=>?_;subst q;obtain rfl:u=Value.ref a:=C;refine xa2 (aBG j d) λG K _=>⟨G,K,?_⟩
 rw[m.trees];refine A9e Z (B0b (A8c (thn (t b E σ k _ j z) λL N ⟨y,l,n,D,M,g,B⟩=>Calls.spliced_nil ?_)));exact aD0 w n g D λP O p c=>⟨_,l,p,c,B⟩
theorem TK(D:X.A.units+1<cLine)(C:PE X o td)(w:PE X e ty)(B:PE X f tx)(m:M2 X o "get" apos e f cpos):PE X (.Call (.Attribute o "get" apos) [e,f] [] cpos) (aFH td ty tx):=by
 intro b s σ H Q I h;refine wpAny_Call_method m.n9 m.few m.line PySem.F.plainAttrs_dict A4c PySem.F.type_dict_get (thn (C b s σ H _ I h) λu O v=>?_);refine AN v λx k j L i=>?_;refine AS i λa t d E=>?_;subst t;obtain rfl:u=Value.ref a:=L;refine xa2 (aBG j d) λR S _=>⟨R,S,?_⟩
 rw[m.trees];refine A9e Z (B0b (A8c (thn (w b O σ k _ j E) λU P ⟨y,l,p,M,G⟩ =>
  A8c (thn (B b P σ l _ p G) λT W ⟨z,n,q,N,V,g,K⟩=>Calls.spliced_nil ?_))))
 exact aD1 D q g M N λw' Y r c=>⟨_,n,r,c,K⟩
end
section
variable{X:Cx}
theorem RX{K:O_}(b:X.K=K)(d:PE X e a)(c:attributeBase e f X.env (eval e X.env)=eval e X.env):PE X (.Attribute e f pos) (aHB K a f):=b▸AC d c
theorem Od(ns:I_):∀k,k<=ns.length->preSum (λi=>ns.getD i 0) k=(ns.take k).sum
|0,_=>by simp[preSum]
|k+1,h=>by
 have h':=h;show preSum _ k+ns.getD k 0=_;rw[Od ns k (N8 h'),F4,C5 h',D3,C5 h',List.sum_append];show _+ns[k]=_+(ns[k]+0)
 rw[T9]
theorem Gw{ns:I_}{a:F_}(f:AR (ns.map V.int) a):∀(i:Nat) v,a.toArray[i]?=o3 v->∃t,v=.int (ns.getD i 0) t:=λi v e=>by
 have e:a[i]?=o3 v:=by simpa using e
 cases c:ns[i]? with
 |none =>
  have:a[i]?=o4:=f.none_of (by rw[C1,c];rfl);rw[e]at this;cases this
 |some b =>
  refine xea (f.get (i:=i) (x:=V.int b) (by rw[C1,c];rfl)) λu d g=>?_;rw[e]at d;cases d;rw[D3,c];obtain⟨t,rfl⟩:=g;exact⟨t,Z⟩
theorem aAy(y:X.calm=o5):FE X (.builtin "sum") (λxs H Q=>∃(p:R_)(ns:I_),xs=[.ref p]/\SqL X.K H p (ns.map V.int)/\Q (.int ns.sum) H):=by
 intro g s σ H xs us Q I r h;refine AN h λp ns j B q=>?_;clear h;subst j;cases r with
 |cons C D =>
  cases D;cases(show _=Value.ref p from C);refine AS (I.list B) λf v pl E=>?_;have d:p<s.heap.objs.size:=by refine BJ pl λo n e _=>?_;exact F2 e
  have k:=J8 d;have len:f.toArray.size=ns.length:=by rw[F3,<-v.length,B8]
  refine call_sum_walkAnyS (A6d pl.isList ?_);refine⟨s.heap.objs.size,_,_,_,_,_,_,λi=>ns.getD i 0,Z,(Walks.list (A:=X.A.in1) (I.ok.hd y) s.heap.objs.size p k f.toArray).toS,⟨⟨_,F0 _ Z,Z,Z⟩,?_⟩,?_,Gw v,?_⟩
  .exact pl.isList.at λo e=>C2 _ e
  .intro b c;show b<(s.heap.push _).objs.size;rw[O9];rcases C4.mp c with rfl|c
   .exact U3 _
   .rcases C4.mp c with rfl|c
    .exact W4 d
    .cases c
  .intro a t' u;have w:Inv X g σ H {s with heap:=a.heap,toks:=a.toks}:=I.kept λb o e=>u.heap b o (by intro z;exact J8 (F2 e) (by simpa using z)) (C2 _ e);have x:a={s with heap:=a.heap,toks:=a.toks}:=by
    obtain⟨F,l,m,t,G⟩:=u;cases a;simp only at l m t;subst l;subst m;subst t;rfl
   rw[x,len,Od ns _ (C0 _),F8];exact⟨.int ns.sum,H,w,⟨t',Z⟩,q⟩
theorem LA(E:X.calm=o5):FE X (.builtin "min") (λxs H Q=>∃(p:R_)(ns:I_),xs=[.ref p]/\SqL X.K H p (ns.map V.int)/\ns≠[]/\∀m∈ns,(∀x∈ns,m<=x)->Q (.int m) H):=by
 intro g s σ H xs us Q I r h;refine CC h λp ns k G M q=>?_;clear h;subst k;cases r with
 |cons N O =>
  cases O;cases(show _=Value.ref p from N);refine AS (I.list G) λa u pl P=>?_;have d:p<s.heap.objs.size:=by refine BJ pl λo n e _=>?_;exact F2 e
  have l:=J8 d;have len:a.toArray.size=ns.length:=by rw[F3,<-u.length,B8]
  have pos:=V1.mpr M;refine call_min_walk (A6d pl.isList ?_);refine⟨s.heap.objs.size,_,_,_,_,_,_,Z,(Walks.list (A:=X.A.in1) (I.ok.hd E) s.heap.objs.size p l a.toArray),⟨⟨_,F0 _ Z,Z,Z⟩,?_⟩,?_,by rw[len];exact pos,CmpOf.ints_lt (λi=>ns.getD i 0) (Gw u),?_⟩
  .exact pl.isList.at λo e=>C2 _ e
  .intro b c;show b<(s.heap.push _).objs.size;rw[O9];rcases C4.mp c with rfl|c
   .exact U3 _
   .rcases C4.mp c with rfl|c
    .exact W4 d
    .cases c
  .intro v h' tk y kk;have B:Inv X g σ H {s with heap:=h',toks:=tk}:=I.kept λb o e=>kk b o (by intro z;exact J8 (F2 e) (by simpa using z)) (C2 _ e);obtain⟨t,rfl⟩:=Gw u _ _ y;obtain⟨w,b2⟩:=argBest_lt (λi=>ns.getD i 0) (a.toArray.size-1);generalize argBest (λi j=>decide (ns.getD i 0<ns.getD j 0)) (a.toArray.size-1)=z at w b2 y⊢;rw[len]at w b2;have f:z<ns.length:=by lia
   have D:ns.getD z 0=ns[z]:=by rw[D3,C5 f];rfl
   refine⟨.int _,H,B,⟨t,Z⟩,q _ (by rw[D];exact O3 f) λx L=>?_⟩;obtain⟨j,F,e⟩:=X8.mp L;have:=b2 j A0;have C:ns.getD j 0=x:=by rw[D3,C5 F,<-e];rfl
   rw[<-C];exact this
theorem LB(E:X.calm=o5):FE X (.builtin "max") (λxs H Q=>∃(p:R_)(ns:I_),xs=[.ref p]/\SqL X.K H p (ns.map V.int)/\ns≠[]/\∀m∈ns,(∀x∈ns,x<=m)->Q (.int m) H):=by
 intro g s σ H xs us Q I r h;refine CC h λp ns k G M q=>?_;clear h;subst k;cases r with
 |cons N O =>
  cases O;cases(show _=Value.ref p from N);refine AS (I.list G) λa u pl P=>?_;have d:p<s.heap.objs.size:=by refine BJ pl λo n e _=>?_;exact F2 e
  have l:=J8 d;have len:a.toArray.size=ns.length:=by rw[F3,<-u.length,B8]
  have pos:=V1.mpr M;refine call_max_walk (A6d pl.isList ?_);refine⟨s.heap.objs.size,_,_,_,_,_,_,Z,(Walks.list (A:=X.A.in1) (I.ok.hd E) s.heap.objs.size p l a.toArray),⟨⟨_,F0 _ Z,Z,Z⟩,?_⟩,?_,by rw[len];exact pos,CmpOf.ints_gt (λi=>ns.getD i 0) (Gw u),?_⟩
  .exact pl.isList.at λo e=>C2 _ e
  .intro b c;show b<(s.heap.push _).objs.size;rw[O9];rcases C4.mp c with rfl|c
   .exact U3 _
   .rcases C4.mp c with rfl|c
    .exact W4 d
    .cases c
  .intro v h' tk y kk;have B:Inv X g σ H {s with heap:=h',toks:=tk}:=I.kept λb o e=>kk b o (by intro z;exact J8 (F2 e) (by simpa using z)) (C2 _ e);obtain⟨t,rfl⟩:=Gw u _ _ y;obtain⟨w,b2⟩:=argBest_gt (λi=>ns.getD i 0) (a.toArray.size-1);generalize argBest (λi j=>decide (ns.getD i 0 > ns.getD j 0)) (a.toArray.size-1)=z at w b2 y⊢;rw[len]at w b2;have f:z<ns.length:=by lia
   have D:ns.getD z 0=ns[z]:=by rw[D3,C5 f];rfl
   refine⟨.int _,H,B,⟨t,Z⟩,q _ (by rw[D];exact O3 f) λx L=>?_⟩;obtain⟨j,F,e⟩:=X8.mp L;have:=b2 j A0;have C:ns.getD j 0=x:=by rw[D3,C5 F,<-e];rfl
   rw[<-C];exact this
end
theorem aAq(ns a:I_):((List.range (min ns.length a.length)).all (λj=>ns.getD j 0==a.getD j 0) && ns.length==a.length)=decide (ns=a):=by
 rw[S1,Q0,S9,B0a,decide_eq_true_iff];constructor
 .intro b;obtain⟨c,d⟩:=b;refine List.ext_getElem d λi e f=>?_;have:=c i (N2.mpr A0);rw[B0a,D3,D3,C5 e,C5 f]at this;exact this
 .rintro rfl;exact⟨λx _=>beq_iff_eq.mpr Z,Z⟩
section
variable{X:Cx}
theorem Yh{H:Hp}{ns:I_}{a:F_}(i:AR (ns.map V.int) a){A:Around}{s:P_}{d:I_}{b:F_}(c:AR (d.map V.int) b)(j:Nat)(g:j<a.toArray.size)(h:j<b.toArray.size):PySem.SeqAt.EqAt A s a.toArray[j] b.toArray[j] (ns.getD j 0==d.getD j 0):=by
 obtain⟨t,e⟩:=Gw i j _ (C3 g);obtain⟨u,f⟩:=Gw c j _ (C3 h);rw[e,f];exact PySem.SeqAt.EqAt.int_int _ t _ u
theorem Yo(w:X.A.units+64<cLine):OpR X (compareOp .NotEq) (λx y H Q=>∃(a b:R_)(ns e:I_),x=.ref a/\y=.ref b/\SqT X.K H a (ns.map V.int)/\SqT X.K H b (e.map V.int)/\Q (.bl (!decide (ns=e))) H):=by
 intro f s σ H x y v u Q I r t h;refine Cm h λa b ns e c d k l q=>?_;clear h;subst c;subst d;cases r;cases t;refine AS (I.tuple k) λxs g o _=>AS (I.tuple l) λys i p _=>PySem.SeqAt.RcNeAt.tuples o p A0 (λj m n=>Yh (H:=H) g i j m n) _ _ _ _ ?_;rw[F3,F3,<-g.length,<-i.length,B8,B8,aAq];exact⟨.bl _,H,I,Z,q⟩
end
section
variable{prog:N_}{w:Q_}{A:Around}{E:B_}{s:P_}{d it:R_}{o:Obj}{es:Array DictEntry}{ep i:Nat}
theorem TB(f:(d==sysModules)=o6)(b:s.heap.get? d=o3 o)(e:o.ExactDict)(c:o.data=.dict es ep)
  (q:Q (.ref s.heap.objs.size) {s with heap:=s.heap.push {cls:=.type "dict_keyiterator",data:=.fields #[.ref d,.int 0 0,.int es.size 0,.int ep 0]} }):wpAny (model prog w) A (pyIter (.ref d)) Q E s:=by
 have a:s.TypeIs (.ref d) "dict" := ⟨o,b,e.1⟩
 refine wpAny_pyIter_slot a F.slot_dict_iter (A5b F.slot_dict_iter a F.entry_dict_iter ?_ (F.args_dict_iter_1 _));unfold Builtin.«dict.__iter__»;refine A0b ?_;unfold Builtin.Dict.dictSlotNone;refine A0b (wpAny_notOrdered_dict a ?_);show wpAny _ _ (pure (Value.ref d)) _ _ s;refine A0h ?_;show wpAny _ _ (Builtin.Dict.showsAll d >>= _) _ _ s;unfold Builtin.Dict.showsAll;rw[A0c (by rw[f];exact D9)];refine A0b (A0h ?_);refine A0b (A9a b c ?_);refine A0b (wpAny_dictEpoch b c ?_);refine A0b (A6e (A0h ⟨_,Z,"dict_keyiterator",_,⟨_,F0 _ Z,Z⟩,F.slot_dict_keyiterator_next.lookup,?_⟩));simpa[rawInt] using q
theorem ZQ(a:s.heap.IsKeyIter it d i es.size ep)(g:s.heap.get? d=o3 o)(f:o.data=.dict es ep)(hi:i<es.size)
  (q:∀h',h'.IsKeyIter it d (i+1) es.size ep->Heap.SameBut it s.heap h'->Q (o3 es[i].key) {s with heap:=h'}):wpAny (model prog w) A (pyNext (.ref it)) Q E s:=by
 refine AS (id a) λj c h b=>?_;unfold pyNext;refine A0b (A6c (wpAny_callSpecial?_slot (name:=Str.ofString "__next__") a.typeIs A6a (A5b A6a a.typeIs F.entry_dict_keyiterator_next ?_ (F.args_dict_keyiterator_next_1 _))));refine A0b (A0h ?_);refine A0b ?_;refine A0b ?_
 (first|refine A0b (A5e a.typeIs (A0h ?_))|refine A0b (A7b a.typeIs (A0h ?_)));refine A0b (wpAny_fieldsOf c b ?_)
 have e:Builtin.Dict_items.ownsTuple "dict_keyiterator" = o6:=A6;simp only[e,N3,A4h];show wpAny _ _ (if(Value.ref d==Value.none)=o5 then _ else _) _ _ s;rw[A0c (show ¬((Value.ref d==Value.none)=o5)from D9)];refine A0b (A0h ?_);refine A0b (A9a g f ?_);rw[A0c B0];refine A0b (A0h ?_);refine A0b (wpAny_dictEpoch g f ?_);rw[A0c B0];refine A0h ?_;simp only[show ¬((i:Int)<0)from by lia,A4h,L8,C3 hi];refine A0b ?_
 (first|refine A0b (A5e a.typeIs (A0h ?_))|refine A0b (A7b a.typeIs (A0h ?_)));refine A0b (wpAny_isOneOf_keyiter a.typeIs ?_)
 show wpAny _ _ (setField (.ref it) 1 (rawInt ((i:Int)+1)) >>= _) _ _ s;refine A0b (B0c c b B0 ?_);have next:(s.heap.update it (Obj.mapFields (·.setIfInBounds 1 (rawInt ((i:Int)+1))))).IsKeyIter it d (i+1) es.size ep:=⟨_,X6 _ c (Obj.isFreed_of_fields (A8d b _)),(Obj.cls_mapFields ..).trans h,by rw[A8d b];simp[rawInt]⟩
 refine A0b (A6b ?_);refine A0b (wpAny_isOneOf_keyiter (s:={s with heap:=s.heap.update it (Obj.mapFields (·.setIfInBounds 1 (rawInt ((i:Int)+1))))}) next.typeIs ?_);show wpAny _ _ (pure es[i].key) _ _ _;exact A0h (A0h ⟨_,Z,A0h (q _ next (A8a ..))⟩)
theorem aCt(k:A.handled=o4)(c:s.heap.IsKeyIter it d i es.size ep)(j:s.heap.get? d=o3 o)(h:o.data=.dict es ep)(hi:es.size<=i)
  (q:∀h',Heap.ExtBut it s.heap h'->Q o4 {s with heap:=h'}):wpAny (model prog w) A (pyNext (.ref it)) Q E s:=by
 refine AS (id c) λn e l g=>?_;unfold pyNext;refine A0b (A6c (wpAny_callSpecial?_slot (name:=Str.ofString "__next__") c.typeIs A6a (A5b A6a c.typeIs F.entry_dict_keyiterator_next ?_ (F.args_dict_keyiterator_next_1 _))));refine A0b (A0h ?_);refine A0b ?_;refine A0b ?_
 (first|refine A0b (A5e c.typeIs (A0h ?_))|refine A0b (A7b c.typeIs (A0h ?_)));refine A0b (wpAny_fieldsOf e g ?_)
 have f:Builtin.Dict_items.ownsTuple "dict_keyiterator" = o6:=A6;simp only[f,N3,A4h];show wpAny _ _ (if(Value.ref d==Value.none)=o5 then _ else _) _ _ s;rw[A0c (show ¬((Value.ref d==Value.none)=o5)from D9)];refine A0b (A0h ?_);refine A0b (A9a j h ?_);rw[A0c B0];refine A0b (A0h ?_);refine A0b (wpAny_dictEpoch j h ?_);rw[A0c B0];refine A0h ?_;simp only[show ¬((i:Int)<0)from by lia,A4h,L8,U1 hi];refine A0b ?_
 (first|refine A0b (A5e c.typeIs (A0h ?_))|refine A0b (A7b c.typeIs (A0h ?_)))
 show wpAny _ _ (setField (.ref it) 0 .none >>= _) _ _ s;refine A0b (B0c e g B0 ?_);show wpAny _ _ (newExc (.type "StopIteration") [] >>= _) _ _ _;refine A0b ?_;simp only[newExc,newTuple];refine A0b (A6e ?_ (by size_fits));refine A0b (m:=firstArgMember _ _) (wpAny_of_eq (a:=Value.none) (by first|rfl|(simp only[firstArgMember];rfl)) ?_);refine A6e ?_ (by size_fits);simp only[raiseNew];refine A0b (wpAny_handled ?_);rw[show A.in1.handled=o4 from k];refine A0b (A0h (wpAny_throw ?_));refine A0b (wpAny_isInstance (T:="StopIteration") (b:=o5) ⟨_,F0 _ Z,Z⟩ isSubtype_stop ?_);exact A0h (q _ (((A8a ..).extBut.push _).push _))
end
noncomputable def Itd(a:R_)(o:Obj)(kvs:List (List Key×V)):It :=
 ⟨λi H=>H a=o3 (.frz o (.dT kvs))/\i<kvs.length,λi H x H'=>H'=H/\∃b k v,x=.ref b/\kvs[i]?=o3 (k,v)/\H b=o3 (.tup (k.map kV)),λi H=>H a=o3 (.frz o (.dT kvs))/\kvs.length<=i⟩
theorem aBA(ok:HOk P w H h)(e:H a=o3 (.frz o (.dT kvs))) :
  h.get? a=o3 o/\∃(xs:List (List Key×Addr×Value))(b:Array DictEntry)(c:Nat),KT H kvs xs/\o.data=.dict b c/\b.toList=xs.map (entryOfKey (tupleKind (Ck P w))):=by
 refine xa3 (show BQ P w H h a (.frz o (.dT kvs))from ok a _ e) λg z y d=>?_;refine xea d λxs r f=>?_;refine BV f λn b c i l j k m=>?_;rw[g]at i;cases i;exact⟨g,xs,b,c,r,j,k⟩
theorem KT.at_:∀{kvs:List (List Key×V)}{xs:List (List Key×Addr×Value)}{i:Nat}{x:List Key×Addr×Value},KT H kvs xs->xs[i]?=o3 x->∃v,kvs[i]?=o3 (x.1,v)/\H x.2.1=o3 (.tup (x.1.map kV)):=by
 intro kvs xs i x r;induction r generalizing i with
 |nil=>intro e;simp at e
 |@cons p q g qs h t f =>
  intro e;cases i with
  |zero =>
   have e:q=x:=by simpa using e
   subst e;exact xa2 h λa d _=>⟨p.2,by rw[List.getElem?_cons_zero,<-a],by rw[<-a];exact d⟩
  |succ i =>
   exact xea (f (i:=i) (by simpa using e)) λv b c=>⟨v,by simpa using b,c⟩
theorem OU{P:N_}{w:Q_}{K:O_}{tg:Expr}(a it:R_)(o:Obj)(kvs:List (List Key×V))(l:Array DictEntry)(N:Nat)(r:o.data=.dict l N)(hz:l.size=kvs.length):QM P w K tg (Itd a o kvs) [it] it (λi h=>h.IsKeyIter it a i l.size N) where
 mem:=by simp
 obj:=λi h st b f=>by
  obtain rfl:b=it:=by simpa using f
  exact AS st λo e c d=>⟨o,e,λv z=>(by rw[d]at z;cases z)⟩
 keep:=λi h h' st k=>st.at λo e=>k it B0 o e
 item:=by
  intro X C G B O i m s σ H E I p st D;subst C G B;obtain⟨F,hi⟩:=D;refine xa (aBA I.hok F) λA L=>?_;refine CL L λxs ab aa kt j M=>?_;rw[r]at j;cases j;have g:i<l.size:=by lia
  refine xa5 (p it B0) λt u f2 x f4 y=>ZQ st A r g λh' n sb=>?_;have R:=I.turned (t':=s.toks) (λb o f e=>(sb.2 b f).trans e) t u x f4 y;have Q:i<xs.length:=by rw[<-size_of_entries M];exact g
  refine xea (KT.at_ kt (C5 Q)) λv S T=>?_;have Y:l[i].key=.ref xs[i].2.1:=by
   have:=entry_at M i;rw[C3 g,C5 Q]at this;rw[A1d this];rfl
  exact AS (id n) λq e c d=>⟨_,Z,Ul (s:={s with heap:=h'}) e c d A6 ⟨.ref xs[i].2.1,H,R,Y,⟨Z,_,_,v,Z,S,T⟩,n,λb f=>(p b f).1⟩⟩
 done:=by
  intro X C G B O i m s σ H E I p st D;subst C G B;obtain⟨F,hi⟩:=D;obtain⟨A,_⟩:=aBA I.hok F;exact xa5 (p it B0) λt u f2 x f4 y=>aCt (I.ok.hd O) st A r A0 λh' U=>⟨Z,I.turned (t':=s.toks) (λb o f e=>U b o f e) t u x f4 y⟩
 self:=λ_ _ _ _ _ st h=>wpAny_pyIter_keyiter st h
theorem aD8{a:R_}{o:Obj}{kvs:List (List Key×V)}{g:TG}{w:TS}{D:IE}{σ:St}{H:Hp}(c:Nat->St->Hp->Prop)(B:c 0 σ H)(E:∀i σ H,i<=kvs.length->c i σ H->H a=o3 (.frz o (.dT kvs)))
  (F:∀i b k v σ H,kvs[i]?=o3 (k,v)->H b=o3 (.tup (k.map kV))->c i σ H->g (.ref b) σ H fun h q=>w {D with nx:=c (i+1),ct:=c (i+1),bk:=D.nx} h q) (C:∀σ H,c kvs.length σ H->D.nx σ H) :
  ∃W:Nat->Nat->St->Hp->Prop,(∃m,W 0 m σ H)/\∀i m σ H,W i m σ H ->
   ((Itd a o kvs).stop i H/\D.nx σ H)\/((Itd a o kvs).go i H/\∃N:St->Hp->Prop,(∀σ' d,N σ' d->∃u,u<m/\W (i+1) u σ' d)/\∀x d,(Itd a o kvs).yld i H x d->g x σ d fun h q=>w {D with nx:=N,ct:=N,bk:=D.nx} h q):=by
 refine⟨λi m σ H=>m=kvs.length-i/\i<=kvs.length/\c i σ H,⟨kvs.length,by simp,J9 _,B⟩,?_⟩;intro i m σ H l;refine xa2 l λf hi p=>?_;clear l;subst f;have e:=E i σ H hi p;by_cases t:i<kvs.length
 .refine .inr ⟨⟨e,t⟩,c (i+1),fun σ' d z=>⟨_,by lia,Z,by lia,z⟩,?_⟩;intro x d n;refine xa n λf j=>?_;refine CL j λb k v r y A=>?_;clear j;clear n;subst f;subst r;exact F i b k v σ _ y A p
 .have s:i=kvs.length:=by lia
  subst s;exact .inl ⟨⟨e,C0 _⟩,C σ H p⟩
section
variable{X:Cx}
def aFT(i j:Int):Prop:=0<j/\j<2^64
theorem TN:OpR X (binaryOp .FloorDiv) (rI aFT λi j=>.int (i/j)):=opI λi j _ _ _ _ _ a q=>by
 have c:(0:Int)<j:=a.1;have d:j<2^64:=a.2;refine floordiv_int A0 (by rw[V7 i A0];exact q) (.inl (PyProof.noPylong_of_log2 ?_));have b:j.natAbs<2^64:=by lia
 exact F9 ((Nat.log2_lt A0).mpr b) A6
end
end L2
namespace L2
open PySem PySem.W PyProof.Rows
section
variable{rk:Nat->Int}{n:Nat}
structure aAa(n:Nat)(p:Array Nat):Prop where
sz:p.size=n
pm:p.Perm (List.range n).toArray
noncomputable def kk(rk:Nat->Int)(p:Array Nat)(i:Nat):Int:=rk (p.getD i 0)
def Up(rk:Nat->Int)(p:Array Nat)(m:Nat):Prop:=∀i j,i<=j->j<m->kk rk p i<=kk rk p j
end
end L2
namespace L2
open PySem PySem.W PySem.Spec PyProof.Rows
noncomputable def Da:List Int->List Int->Bool
|[],[]=>o6
|[],_::_=>o5
|_::_,[]=>o6
|a::as,b::bs=>if a=b then Da as bs else decide (a<b)
theorem PZ:∀a,Da a a=o6
|[]=>rfl
|a::as=>by unfold Da;rw[A0e rfl];exact PZ as
theorem MJ:∀{a b c:I_},Da a c=o5->Da a b=o5\/Da b c=o5
|[],[],_,h=>.inr h
|[],_::_,_,_=>.inl Z
|_::_,_,[],h=>by cases h
|a::as,[],c::cs,_=>.inr Z
|a::as,b::bs,c::cs,h=>by
 unfold Da at h⊢;by_cases e:a=c
 .subst e;rw[A0e rfl]at h;by_cases d:a=b
  .subst d;rw[A0e rfl,A0e rfl];exact MJ h
  .rw[A0c d,A0c (λz=>d z.symm)];rcases Int.lt_or_gt_of_ne d with z|z
   .exact .inl (A0d z)
   .exact .inr (A0d z)
 .rw[A0c e]at h;have h:=A2b h;by_cases d:a=b
  .subst d;rw[A0c e];exact .inr (A0d h)
  .rw[A0c d];by_cases z:a<b
   .exact .inl (A0d z)
   .by_cases f:b=c
    .lia
    .rw[A0c f];exact .inr (A0d A0)
theorem Ug:∀{a b:I_},Da a b=o6->Da b a=o6->a=b
|[],[],_,_=>rfl
|[],_::_,h,_=>by cases h
|_::_,[],_,h=>by cases h
|a::as,b::bs,h,h'=>by
 unfold Da at h h';by_cases c:a=b
 .subst c;rw[A0e rfl]at h h';rw[Ug h h']
 .rw[A0c c]at h;rw[A0c (λz=>c z.symm)]at h';have:=of_decide_eq_false h;have:=of_decide_eq_false h';lia
theorem aBS(h:Da a b=o5):Da b a=o6:=by
 cases e:Da b a with
 |false=>rfl
 |true =>
  rcases MJ (b:=b) (show Da a b=o5 from h)with z|z
  ·
   have:Da a a=o5\/Da a a=o6:=by cases Da a a<;>simp
   exact absurd (lexI_two h e) B0
  .rw[PZ]at z;cases z
where lexI_two:∀{a b:I_},Da a b=o5->Da b a=o5->o6=o5
|[],[],h,_=>h
|[],_::_,_,h=>h
|_::_,[],h,_=>h
|a::as,b::bs,h,h'=>by
 unfold Da at h h';by_cases c:a=b
 .subst c;rw[A0e rfl]at h h';exact lexI_two h h'
 .rw[A0c c]at h;rw[A0c (λz=>c z.symm)]at h';have:=A2b h;have:=A2b h';lia
noncomputable def Ty(rows:List (List Int))(i:Nat):Int:=((rows.countP λr=>Da r (rows.getD i []):Nat):Int)
theorem Rq{α:Type}{p q:α->Bool}:∀{l:List α}{x:α},x∈l->(∀y,p y=o5->q y=o5)->p x=o6->q x=o5->l.countP p<l.countP q
|y::l,x,a,h,hp,hq=>by
 rw[Z0,Z0];have le:l.countP p<=l.countP q:=List.countP_mono_left λz _=>h z;rcases C4.mp a with rfl|a
 .rw[hp,hq];simp only[N3,A4h,A7h];lia
 .have:=Rq a h hp hq;by_cases b:p y=o5
  .rw[b,h y b];lia
  .rw[A0c b];split<;>lia
theorem ZP{rows:List (List Int)}{i j:Nat}(hi:i<rows.length):decide (Ty rows i<Ty rows j)=Da (rows.getD i []) (rows.getD j []):=by
 have d:rows.getD i []∈rows:=by
  rw[D3,C5 hi];exact O3 hi
 unfold Ty;generalize rows.getD i []=a at *
 generalize rows.getD j []=b;cases h:Da a b with
 |true =>
  refine A0d ?_;have:=Rq (p:=λr=>Da r a) (q:=λr=>Da r b) d (λy c=>?_) (PZ a) h
  .lia
  .rcases MJ (b:=b) c with z|z
   .exact z
   .rw[aBS h]at z;cases z
 |false =>
  refine A0f ?_;have:=List.countP_mono_left (l:=rows) (p:=λr=>Da r b) (q:=λr=>Da r a) λy _ c=>?_
  .lia
  .rcases MJ (b:=a) c with z|z
   .exact z
   .rw[h]at z;cases z
section
variable{prog:N_}{w:Q_}{A:Around}{E:B_}
theorem WE:∀{xs ys:I_}{us vs:F_}{i:Nat},AR (xs.map V.int) us->AR (ys.map V.int) vs->Q (Da xs ys) s->KatLex prog w A b (decide (xs.length<ys.length)) Q (us.zip vs) i s
|[],[],_,_,i,.nil,.nil,q=>q
|[],y::ys,_,_,i,.nil,.cons _ _,q=>by
 show Q (decide (0<ys.length+1)) s;rw[A0d (Nat.succ_pos _)];exact q
|x::xs,[],_,_,i,.cons _ _,.nil,q=>by
 show Q (decide (xs.length+1<0)) s;rw[A0f (N5 _)];exact q
|x::xs,y::ys,u::us,v::vs,i,.cons r1 t1,.cons r2 t2,q=>by
 obtain⟨t,rfl⟩:=(show ∃t,u=.int x t from r1)
 obtain⟨t',rfl⟩:=(show ∃t,v=.int y t from r2)
 refine wpAny_eqBool_int ?_;unfold Da at q;by_cases e:x=y
 .subst e;rw[A0e rfl]at q;simp only[beq_self_eq_true,A7h];have h:=WE (b:=b) (i:=i+1) t1 t2 q;rw[show decide ((x::xs).length<(x::ys).length)=decide (xs.length<ys.length) by simp];exact h
 .rw[A0c e]at q;have a:(x==y)=o6:=by simpa using e
  simp only[a,N3,A4h];cases b && i==0 with
  |true=>exact oneLt_int q
  |false =>
   exact kat_one _ _ (wpAny_lt_int q)
end
section
variable{X:Cx}
theorem VV{H:Hp}{h:T_}(ok:HOk X.prog X.w H h){items:List (Addr×List Int)}(l:∀q∈items,H q.1=o3 (.tup (q.2.map V.int))/\q.2≠[]){i:Nat}(hi:i<items.length) :
  ∃(b:R_)(o:Obj)(us:F_)(m:Nat),(items.map λq=>Value.ref q.1).getD i Value.none=.ref b/\h.get? b=o3 o/\o.cls=.type "tuple" /\ o.data=.seq us.toArray m/\AR (((items.map (·.2)).getD i []).map V.int) us:=by
 have k:=O3 hi;obtain⟨j,p⟩:=l _ k;refine Jy (show BQ X.prog X.w H h _ (.tup _)from ok _ _ j) λ_ a r f=>?_;refine AS f λo e c g=>?_;refine xe g λn d=>?_;refine⟨_,o,a,n,?_,e,c,d,?_⟩
 .rw[D3,C1,C5 hi];rfl
 .rw[D3,C1,C5 hi];exact r
theorem Ro(ok:HOk X.prog X.w H h):∀{items:List (Addr×List Int)},(∀q∈items,H q.1=o3 (.tup (q.2.map V.int))/\q.2≠[])->∃fs:List Value,KatTups h (items.map λq=>Value.ref q.1) fs/\fs.length=items.length/\∀v∈fs,∃x t,v=.int x t
|[],_=>⟨[],.nil,Z,λv a=>nomatch a⟩
|q::items,hq=>by
 refine AS (Ro ok λy b=>hq y (C9 _ b)) λfs j k l=>?_;obtain⟨e,s⟩:=hq q (C8 ..);refine Jy (show BQ X.prog X.w H h _ (.tup _)from ok _ _ e) λ_ p r f=>?_;refine AS f λo i c g=>?_;refine xe g λn d=>?_
 match m:q.2,s with
 |x::xs,_ =>
  rw[m]at r;cases r with
  |@cons _ u _ us z A =>
   obtain⟨t,rfl⟩:=(show ∃t,u=.int x t from z)
   refine⟨.int x t::fs,.cons i c d B0 j,by rw[D8,D8,k],λv a=>?_⟩;rcases C4.mp a with rfl|a
   .exact⟨x,t,Z⟩
   .exact l v a
end
end L2
namespace L2
open PySem PySem.W PySem.Spec PyProof.Rows
def aEB(tl:TE):TI:=fun σ H R=>tl σ H λx H1=>∃a kvs,x=.ref a/\Rd H1 a (.dT kvs)/\∀o H2,H2 a=o3 (.frz o (.dT kvs))->(∀b u,H1 b=o3 u->b≠a->H2 b=o3 u)->R (Itd a o kvs) H2
theorem Pp(P:PE X l N):PI X T l (aEB N):=by
 intro g s σ H R I h;refine thn (P g s σ H _ I h) λv d ⟨x,C,k,S,Q⟩=>AN Q λa kvs e f q=>?_;subst e;cases S;rcases f with f|⟨o,f⟩
 .refine CU (show BQ X.prog X.w C d.heap a (.dT kvs)from k.hok a _ f) λz y xs r j=>?_;refine BV j λo m t i A p B M=>?_;have G:m.size=kvs.length:=by rw[size_of_entries B,<-A1e r]
  have D:Inv X g σ (upd C a (.frz o (.dT kvs))) d:=SI (t':=d.toks) k (by rw[f];exact True.intro) ⟨Z,λ_ _=>Z⟩ ⟨o,i⟩ ⟨i,z,y,xs,KT.keeps r λc ys L=>(by rw[Av (AE L f (λz=>nomatch z))];exact L),o,m,t,i,A,p,B,M⟩;refine TB y i A p ⟨d.heap.objs.size,[d.heap.objs.size],_,_,_,Z,D.kept (t':=d.toks) λb o e=>C2 _ e,OU a _ o kvs m t p G,⟨_,F0 _ Z,Z,Z⟩,λb F=>?_,q o _ Af λb u e n=>by rw[Av n];exact e⟩;obtain rfl:b=d.heap.objs.size:=by simpa using F
  exact D.fpOk (C0 _) (D.hok.fresh (C0 _))
 .refine xa3 (show BQ X.prog X.w C d.heap a (.frz o (.dT kvs))from k.hok a _ f) λi z y j=>?_;refine xea j λxs r K=>?_;refine BV K λU m t E A p B M=>?_;have O:=A1d (i.symm.trans E);subst O;have G:m.size=kvs.length:=by rw[size_of_entries B,<-A1e r]
  refine TB y i A p ⟨d.heap.objs.size,[d.heap.objs.size],_,_,_,Z,k.kept (t':=d.toks) λb o e=>C2 _ e,OU a _ o kvs m t p G,⟨_,F0 _ Z,Z,Z⟩,λb F=>?_,q o _ f λb u e n=>e⟩;obtain rfl:b=d.heap.objs.size:=by simpa using F
  exact k.fpOk (C0 _) (k.hok.fresh (C0 _))
theorem QK(d:R_)(i:(d==sysModules)=o6):Meets (Builtin.«dict.__len__» {pos:=[Value.ref d]}) λ_ R s=>∃o a f,s.heap.get? d=o3 o/\o.data=Data.dict a f/\R (Except.ok (Flow.ret (Value.int (a.size:Int) s.toks))) {s with toks:=s.toks+1}:=by
 intro prog w A R s c;refine CL c λo a f j b h=>?_;show wpAny (model prog w) A.in1 (do
  let n <-dictSize d;let m <-Builtin.Dict.pendingCount d
  retInt (↑n+↑m)) _ _ s
 refine A0b (A0b (A9a j b (A0h (A0b (wpAny_pendingCount_other i (A3e (wpAny_ret_mkInt (Q:=λv g=>R (Except.ok (Flow.ret v)) g) ?_) (λfin g ⟨v,e,q⟩=>by subst e;exact q) (λ_ _ x=>x)))))));show R (Except.ok (Flow.ret (Value.int ((a.size:Int)+((0:Nat):Int)) s.toks))) _;rw[show((a.size:Int)+((0:Nat):Int))=(a.size:Int) by lia];exact h
section
variable{X:Cx}
theorem YZ:FE X (.builtin "len") (λxs H Q=>∃a kvs,xs=[V.ref a]/\Rd H a (.dT kvs)/\Q (.int kvs.length) H):=by
 intro g s σ H xs us Q I r h;refine AN h λa kvs c m q=>?_;clear h;subst c;refine xea (QR r) λu b v=>?_;subst b;cases v;refine CU (On I.hok m) λz y xs d e=>?_;have w:=e.typeIs;refine BV e λo f i j A k l B=>?_;have p:f.size=kvs.length:=by
  have:=A2f List.length l;rw[B8,D6]at this;rw[this,A1e d]
 rw[sizeLine_eq]at z;refine call_len_meets (n:=(kvs.length:Int)) w F.slot_dict_len F.entry_dict_len (F.args_dict_len_1 _) (QK a y) A0 A0 (λx t=>⟨o,f,i,j,k,?_⟩) ⟨.int kvs.length,H,I.tok _,⟨_,Z⟩,q⟩;rw[p];exact t
end
end L2
namespace L2
open PySem PySem.W PySem.Spec PyProof.Rows
def LG:Sp:=λvs H Q _=>∃(t:R_)(x y:Int)(r:I_),vs=[.ref t]/\H t=o3 (.tup ((x::y::r).map V.int))/\∀u,H u=o4->Q (.ref u) (upd H u (.tup [.int y,.int x]))
structure It3 where
a:Addr
x:Int
y:Int
r:List Int
noncomputable def It3.ns(q:It3):List Int:=q.x::q.y::q.r
section
variable{X:Cx}{o0:A_}{σ:St}{H H':Hp}{s:P_}{k:Nat}{f b:R_}{fd:E_}{ps:K_}
theorem DX.stay(fp:DX X o0 H b)(a:H' b=o4):DX X o0 H' b:=⟨a,fp.2⟩
theorem DX.turn(fp:DX X o0 H b)(I:Inv X o0 σ H s)(kp:∀c o,c≠b->s.heap.get? c=o3 o->h'.get? c=o3 o):Inv X o0 σ H {s with heap:=h',toks:=t'} :=
 I.turned kp fp.1 fp.2.1 fp.2.2.2.1 fp.2.2.2.2.1 fp.2.2.2.2.2
theorem DX.nost(fp:DX X o0 H b)(I:Inv X o0 σ H s):b∉frs X.stack:=λz=>by
 rcases C4.mp (I.stkSub b z)with y|y
 .exact fp.2.1 y
 .exact fp.2.2.1 y
theorem WG{m:Around}{P:PySem.Fin->Shared->Prop}{E:B_}(I:Inv X o0 σ H s){a g:R_}{h c:Nat}{ks out:M_}{st:SortSt}(r:DX X o0 H a)(q:DX X o0 H g)(j:g≠a)(v:s.heap.get? g=o3 (seqObj "list" ks c))(t:s.heap.get? a=o3 (seqObj "list" #[] h))(l:(arrOf st).map (·.2)=out)(u:failedOf st=o4)(x:out.size<=sizeLine)(y:ks.size<=sizeLine)
  (fin:∀(h':T_)(p:Nat),Inv X o0 σ H {s with heap:=h'}->h'.get? a=o3 (seqObj "list" out p)->P (.done (.ret .none)) {s with heap:=h'}):wpAny (model X.prog X.w) m (ksk_tail a o6 h (.ref g) st) P E s:=by
 unfold ksk_tail;have n:Inv X o0 σ H {s with heap:=s.heap.update g (Obj.mapSeq λ_=>#[])}:=q.turn (t':=s.toks) I λb o i e=>by rw[P3 _ _ _ _ i];exact e
 have d:(s.heap.update g (Obj.mapSeq λ_=>#[])).get? a=o3 (seqObj "list" #[] h):=by rw[P3 _ _ _ _ (A1b j)];exact t
 refine A0b (listUpdate_at v Z (A0b (wpAny_letGo (A0b (seqEpoch_at d Z (A0b (listUpdate_at d Z ?_ (hsz2:=?_))))))) (hsz:=y))
 .rw[u];simp only[bne_self_eq_false,N3,A4h];rw[l];refine A0h (fin _ _ (r.turn (s:={s with heap:=s.heap.update g (Obj.mapSeq λ_=>#[])}) (t':=s.toks) n λb o i e=>by rw[P3 _ _ _ _ i];exact e) (get?_update_seq d _))
 .simp only[N3,A4h];rw[l];exact Nat.le_succ_of_le x
end
theorem aDy{k:Nat}{tc:TT}{fin:List V->Hp->Prop}(d:Nat->List V->Hp->Prop)(z:d 0 [] H)(B:∀i c H,i<=kvs.length->d i c H->H a=o3 (.frz r (.dT kvs)))
  (C:∀i b kk v c H,kvs[i]?=o3 (kk,v)->H b=o3 (.tup (kk.map kV))->d i c H->Bt k cs g tc s σ (.ref b) c H (d (i+1))) (A:∀c H,d kvs.length c H->fin c H):Fk k cs g tc s (Itd a r kvs) σ H fin:=by
 refine⟨λi m c H=>m=kvs.length-i/\i<=kvs.length/\d i c H,⟨kvs.length,by simp,J9 _,z⟩,?_⟩;intro i m c H l;refine xa2 l λf hi p=>?_;clear l;subst f;have q:=B i c H hi p;by_cases h:i<kvs.length
 .refine .inr ⟨⟨q,h⟩,d (i+1),λo t D=>⟨kvs.length-(i+1),by lia,Z,h,D⟩,λx t y=>?_⟩;refine xa y λf j=>?_;refine CL j λb kk v n u w=>?_;clear j;clear y;subst f;subst n;exact C i b kk v c _ u w p
 .have e:i=kvs.length:=by lia
  subst e;exact .inl ⟨⟨q,C0 _⟩,A c H p⟩
end L2
namespace PyProof.Rows
open PySem
theorem DG{P:Prop}(h:∀G:Prop,(P->G)->G):P:=h P id
noncomputable def MP:Bool->Keyed->Array Keyed->Nat->Nat->Nat->StateT SortSt Sem (Option Nat):=sortPriv% PySem.Builtin.gallop
section
variable{prog:N_}{w:Q_}{A:Around}{E:B_}{s:P_}
noncomputable def aF0(left:Bool)(key:Keyed)(arr:Array Keyed)(n9 i:Nat):StateT SortSt Sem (Option Bool):=elem' arr (n9+i) >>= λx=>if left=o5 then lt' x key else lt' key x >>= λr=>pure (r.map λb=>!b)
def aC3(prog:N_)(w:Q_)(A:Around)(E:B_)(s:P_)(left:Bool)(key:Keyed)(st:SortSt)(x:Keyed)(b:Bool):Prop :=
 (left=o5->∀Q:Option Bool->SortSt->Prop,Q (o3 b) st->wpS (model prog w) A E s (lt' x key) Q st)/\(left=o6->∀Q:Option Bool->SortSt->Prop,Q (o3 (!b)) st->wpS (model prog w) A E s (lt' key x) Q st)
theorem Qn{left:Bool}{b:Keyed}{arr:Array Keyed}{a n i:Nat}{st:SortSt}{B:Nat->Bool}{Q:Option Bool->SortSt->Prop}(g:a+n<=arr.size)(f:∀i x,i<n->arr[a+i]?=o3 x->aC3 prog w A E s left b st x (B i))(hi:i<n)(h:Q (o3 (B i)) st):wpS (model prog w) A E s (aF0 left b arr a i) Q st:=by
 unfold aF0;have c:a+i<arr.size:=by omega
 refine A0g ?_;rw[elem'_eq,C3 c];refine A1a ?_;obtain⟨d,e⟩:=f i arr[a+i] hi (C3 c);cases left with
 |true =>
  rw[A0e rfl];exact d Z _ h
 |false =>
  rw[A0c B0];refine A0g (e Z _ (A1a ?_));show Q (o3 (!!B i)) st;rw[Bool.not_not];exact h
theorem aDq{γ:Type}{f:Nat->(Option γ×Nat×Nat)->StateT SortSt Sem (ForInStep (Option γ×Nat×Nat))}{m n:Nat}{C:Nat->Bool}{st:SortSt}(t:m<=n+1)
  (p:∀x l o i,(m<=o->i (.done (o4,l,o)) st)->(o<m->C o=o5->i (.yield (o4,o,2*o+1)) st)->(o<m->C o=o6->i (.done (o4,l,o)) st)->wpS (model prog w) A E s (f x (o4,l,o)) i st) :
  wpS (model prog w) A E s (forIn [0:n] (o4,0,1) f) (λr a=>a=st/\∃l o,r=(o4,l,o)/\l<o/\(l=0\/(l<m/\C l=o5))/\(m<=o\/C o=o6)) st:=by
 refine A3a (I:=λx r a=>a=st/\∃l o,r=(o4,l,o)/\x<o/\l<o/\(l=0\/(l<m/\C l=o5))) ?_ ?_ ⟨Z,0,1,Z,by omega,by omega,.inl Z⟩
 .intro x c a _ _ g;refine DC g λd l o e q b=>?_;refine xa b λk j=>?_;clear b;clear g;subst d;subst e;refine p x l o _ (λz=>?_) (λz y=>?_) (λz y=>?_)
  .exact⟨Z,l,o,Z,k,j,.inl z⟩
  .exact⟨Z,o,2*o+1,Z,by omega,by omega,.inr ⟨z,y⟩⟩
  .exact⟨Z,l,o,Z,k,j,.inr y⟩
 .intro c a h;refine DC h λd l o e q b=>?_;refine xa b λk j=>?_;clear b;clear h;subst d;subst e;exact⟨Z,l,o,Z,k,j,.inl B1⟩
theorem aAw{γ:Type}{f:Nat->(Option γ×Nat×Nat)->StateT SortSt Sem (ForInStep (Option γ×Nat×Nat))}{n lo hi:Nat}{B:Nat->Bool}{st:SortSt}(u:hi<=n)(D:lo<=hi)(mono:∀i j,i<=j->j<n->B j=o5->B i=o5)(v:∀i,i<lo->B i=o5)(C:∀i,hi<=i->i<n->B i=o6)
  (F:∀x l h p,(h<=l->p (.done (o4,l,h)) st)->(l<h->h<=n->B (l+(h-l)/2)=o5->p (.yield (o4,l+(h-l)/2+1,h)) st)->(l<h->h<=n->B (l+(h-l)/2)=o6->p (.yield (o4,l,l+(h-l)/2)) st)->(l<h->h<=n)->wpS (model prog w) A E s (f x (o4,l,h)) p st) :
  wpS (model prog w) A E s (forIn [0:n] (o4,lo,hi) f) (λr a=>a=st/\∃l h,r=(o4,l,h)/\h<=n/\(∀i,i<h->B i=o5)/\(∀i,h<=i->i<n->B i=o6)) st:=by
 refine A3a (I:=λx r a=>a=st/\∃l h,r=(o4,l,h)/\l<=h/\h-l<=n-x/\h<=n/\(∀i,i<l->B i=o5)/\(∀i,h<=i->i<n->B i=o6)) ?_ ?_ ⟨Z,lo,hi,Z,D,by omega,u,v,C⟩
 .intro x c a _ K m;refine DC m λd l h g G b=>?_;refine xa3 b λH k q t=>?_;clear b;clear m;subst d;subst g;refine F x l h _ (λz=>?_) (λz _ y=>?_) (λz _ y=>?_) (λ_=>k)
  .exact⟨Z,l,h,Z,k,λi hi=>q i B1,t⟩
  .exact⟨Z,_,h,Z,by omega,by omega,k,λi hi=>mono i _ B1 B1 y,t⟩
  .refine⟨Z,l,_,Z,by omega,by omega,by omega,q,λi hi u=>?_⟩;cases e:B i with
   |false=>rfl
   |true=>rw[mono _ i hi u e]at y;cases y
 .intro c a o;refine DC o λd l h g G b=>?_;refine xa3 b λH k q t=>?_;clear b;clear o;subst d;subst g;exact⟨Z,l,h,Z,k,λi hi=>q i B1,t⟩
theorem Rk{left:Bool}{H:Keyed}{arr:Array Keyed}{f n a:Nat}{st:SortSt}{B:Nat->Bool}{Q:Option Nat->SortSt->Prop}(G:f+n<=arr.size)(V:a<n)(D:∀i x,i<n->arr[f+i]?=o3 x->aC3 prog w A E s left H st x (B i))(mono:∀i j,i<=j->j<n->B j=o5->B i=o5)(k:∀h,h<=n->(∀i,i<h->B i=o5)->(∀i,h<=i->i<n->B i=o6)->Q (o3 h) st):wpS (model prog w) A E s (MP left H arr f n a) Q st:=by
 have g:∀i j,i<=j->j<n->B i=o6->B j=o6:=λi j W X z=>by
  cases e:B j with
  |false=>rfl
  |true=>rw[mono i j W X e]at z;cases z
 refine A0g (Qn (i:=a) G D V ?_);dsimp only;cases U:B a with
 |true =>
  rw[A0e rfl];refine A0g (A4a (aDq (m:=n-a) (C:=λo=>B (a+o)) B1 ?_) ?_)
  .intro x l o N q t u;dsimp only;by_cases z:o ≥ n-a
   .rw[A0e z];exact A1a (q z)
   rw[A0c z];refine A0g (Qn (i:=a+o) G D B1 ?_);dsimp only;cases e:B (a+o)with
   |true=>exact A1a (t B1 e)
   |false=>exact A1a (u B1 e)
  .intro r v I;refine DC I λc l o d lo b=>?_;refine xa b λF P=>?_;clear b;clear I;subst c;subst d;dsimp only;refine A0g (A4a (aAw (lo:=a+l+1) (hi:=a+min o (n-a)) B1 ?_ mono ?_ ?_ ?_) ?_)
   .rcases F with z|z<;>omega
   .intro i hi;rcases F with z|z
    .exact mono i a B1 V U
    .exact mono i (a+l) B1 B1 z.2
   .intro i hi p;rcases P with z|z
    .omega
    .by_cases y:n-a<=o
     .omega
     .exact g (a+o) i B1 p z
   .intro x l h N q t u T;dsimp only;by_cases z:l ≥ h
    .rw[A0e z];exact A1a (q z)
    rw[A0c z];have:=T B1;refine A0g (Qn (i:=l+(h-l)/2) G D B1 ?_);dsimp only;cases e:B (l+(h-l)/2)with
    |true=>exact A1a (t B1 this e)
    |false=>exact A1a (u B1 this e)
   .intro r v K;refine DC K λc Y h d p b=>?_;refine xa b λR S=>?_;clear b;clear K;subst c;subst d;exact A1a (k h p R S)
 |false =>
  rw[A0c B0];refine A0g (A4a (aDq (m:=a+1) (C:=λo=>!B (a-o)) B1 ?_) ?_)
  .intro x l o N q t u;dsimp only;by_cases z:o ≥ a+1
   .rw[A0e z];exact A1a (q z)
   rw[A0c z];refine A0g (Qn (i:=a-o) G D B1 ?_);dsimp only;cases e:B (a-o)with
   |true=>exact A1a (u B1 (by rw[e];rfl))
   |false=>exact A1a (t B1 (by rw[e];rfl))
  .intro r v L;refine DC L λc l o d lo b=>?_;refine xa b λF P=>?_;clear b;clear L;subst c;subst d;dsimp only;have O:B (a-l)=o6:=by
    rcases F with z|z
    .rw[z];exact U
    .simpa using z.2
   refine A0g (A4a (aAw (lo:=a+1-min o (a+1)) (hi:=a-l) B1 ?_ mono ?_ ?_ ?_) ?_)
   .rcases F with z|z<;>omega
   .intro i hi;rcases P with z|z
    .omega
    .by_cases y:a+1<=o
     .omega
     .have z:B (a-o)=o5:=by simpa using z
      exact mono i (a-o) B1 B1 z
   .intro i hi p;exact g (a-l) i hi p O
   .intro x l h N q t u T;dsimp only;by_cases z:l ≥ h
    .rw[A0e z];exact A1a (q z)
    rw[A0c z];have:=T B1;refine A0g (Qn (i:=l+(h-l)/2) G D B1 ?_);dsimp only;cases e:B (l+(h-l)/2)with
    |true=>exact A1a (t B1 this e)
    |false=>exact A1a (u B1 this e)
   .intro r v M;refine DC M λc Y h d p b=>?_;refine xa b λR S=>?_;clear b;clear M;subst c;subst d;exact A1a (k h p R S)
end
end PyProof.Rows
namespace PyProof.Rows
open PySem
def SoA(rk:Keyed->Nat)(a:Array Keyed):Prop:=∀(i j:Nat)(x y:Keyed),i<=j->a[i]?=o3 x->a[j]?=o3 y->rk x<=rk y
structure MI(rk:Keyed->Nat)(a b out:Array Keyed)(ia ib:Nat):Prop where
pm:out.toList.Perm (a.toList.take ia++b.toList.take ib)
so:out.toList.Pairwise (λx y=>rk x<=rk y)
ba:∀o∈out.toList,∀i x,ia<=i->a[i]?=o3 x->rk o<=rk x
bb:∀o∈out.toList,∀i x,ib<=i->b[i]?=o3 x->rk o<=rk x
section
variable{rk:Keyed->Nat}{a b out:Array Keyed}{ia ib:Nat}
theorem MI.nil:MI rk a b #[] 0 0:=⟨by simp,by simp,λo h=>by simp at h,λo h=>by simp at h⟩
theorem QT{a:Array Keyed}{i:Nat}{x:Keyed}(h:a[i]?=o3 x):a.toList.take (i+1)=a.toList.take i++[x]:=by
 rw[F4,M4,h];rfl
theorem MI.pushA{x:Keyed}(h:MI rk a b out ia ib)(k:SoA rk a)(e:a[ia]?=o3 x)(le:∀j y,ib<=j->b[j]?=o3 y->rk x<=rk y):MI rk a b (out.push x) (ia+1) ib:=by
 have f:∀o,o∈(out.push x).toList->o∈out.toList\/o=x:=λo c=>by
  rw[M7,J7,D4]at c;exact c
 refine⟨?_,?_,λo c i y hi d=>?_,λo c i y hi d=>?_⟩
 .rw[M7,QT e,N7];refine(h.pm.append_right _).trans ?_;rw[N7];exact List.Perm.append_left _ List.perm_append_comm
 .rw[M7,U7];refine⟨h.so,by simp,λo c y g=>?_⟩;rw[D4.mp g];exact h.ba o c ia x (C0 _) e
 .rcases f o c with z|rfl
  .exact h.ba o z i y A0 d
  .exact k ia i _ y A0 e d
 .rcases f o c with z|rfl
  .exact h.bb o z i y hi d
  .exact le i y hi d
theorem MI.pushB{x:Keyed}(h:MI rk a b out ia ib)(k:SoA rk b)(e:b[ib]?=o3 x)(le:∀j y,ia<=j->a[j]?=o3 y->rk x<=rk y):MI rk a b (out.push x) ia (ib+1):=by
 have f:∀o,o∈(out.push x).toList->o∈out.toList\/o=x:=λo c=>by
  rw[M7,J7,D4]at c;exact c
 refine⟨?_,?_,λo c i y hi d=>?_,λo c i y hi d=>?_⟩
 .rw[M7,QT e,<-N7];exact h.pm.append_right _
 .rw[M7,U7];refine⟨h.so,by simp,λo c y g=>?_⟩;rw[D4.mp g];exact h.bb o c ib x (C0 _) e
 .rcases f o c with z|rfl
  .exact h.ba o z i y hi d
  .exact le i y hi d
 .rcases f o c with z|rfl
  .exact h.bb o z i y A0 d
  .exact k ib i _ y A0 e d
theorem Ur{a:Array Keyed}{i k:Nat}(h:i+k<a.size):a.extract i (i+(k+1))=(a.extract i (i+k)).push a[i+k]:=by
 apply Array.toList_inj.mp;rw[M7,S8,S8];simp only[List.extract,Y4];rw[F4];congr 1;rw[K5,M4,C3 h];rfl
theorem MI.addA(d:SoA rk a)(h:MI rk a b out ia ib):∀{k:Nat},ia+k<=a.size->(∀i x,ia<=i->i<ia+k->a[i]?=o3 x->∀j y,ib<=j->b[j]?=o3 y->rk x<=rk y)->MI rk a b (out++a.extract ia (ia+k)) (ia+k) ib
|0,_,_=>by rw[K8,S2 A0,Q5];exact h
|k+1,hk,le=>by
 have c:ia+k<a.size:=by lia
 have:=(MI.addA d h (k:=k) A0 (λi x e f=>le i x e A0)).pushA d (C3 c) (le _ _ A0 A0 (C3 c));rw[Ur c,W5];exact this
theorem MI.addB(d:SoA rk b)(h:MI rk a b out ia ib):∀{k:Nat},ib+k<=b.size->(∀i x,ib<=i->i<ib+k->b[i]?=o3 x->∀j y,ia<=j->a[j]?=o3 y->rk x<=rk y)->MI rk a b (out++b.extract ib (ib+k)) ia (ib+k)
|0,_,_=>by rw[K8,S2 A0,Q5];exact h
|k+1,hk,le=>by
 have c:ib+k<b.size:=by lia
 have:=(MI.addB d h (k:=k) A0 (λi x e f=>le i x e A0)).pushB d (C3 c) (le _ _ A0 A0 (C3 c));rw[Ur c,W5];exact this
structure Mgd(rk:Keyed->Nat)(a b out:Array Keyed):Prop where
pm:out.toList.Perm (a.toList++b.toList)
so:out.toList.Pairwise (λx y=>rk x<=rk y)
theorem MI.whole(h:MI rk a b out a.size b.size):Mgd rk a b out:=by
 refine⟨?_,h.so⟩;have:=h.pm;rw[show a.size=a.toList.length from D6.symm,show b.size=b.toList.length from D6.symm,F8,F8]at this;exact this
theorem MI.doneA(f:SoA rk a)(h:MI rk a b out ia b.size)(g:ia<=a.size):Mgd rk a b (out++a.extract ia a.size++b.extract b.size b.size):=by
 have d:=MI.addA f h (k:=a.size-ia) A0 λi x _ _ _ j y l c=>by
  rw[U1 A0]at c;cases c
 rw[show ia+(a.size-ia)=a.size by lia]at d;have e:b.extract b.size b.size=#[]:=by simp
 rw[e,Q5];exact d.whole
theorem MI.doneB(f:SoA rk b)(h:MI rk a b out a.size ib)(g:ib<=b.size):Mgd rk a b (out++a.extract a.size a.size++b.extract ib b.size):=by
 have e:a.extract a.size a.size=#[]:=by simp
 rw[e,Q5];have d:=MI.addB f h (k:=b.size-ib) A0 λi x _ _ _ j y l c=>by
  rw[U1 A0]at c;cases c
 rw[show ib+(b.size-ib)=b.size by lia]at d;exact d.whole
theorem MI.lastA(f:SoA rk a)(g:SoA rk b)(h:MI rk a b out ia ib)(l:ia<=a.size)(m:ib<=b.size)(le:∀i x,ib<=i->b[i]?=o3 x->∀j y,ia<=j->a[j]?=o3 y->rk x<=rk y):Mgd rk a b (out++b.extract ib b.size++a.extract ia a.size):=by
 have c:=MI.addB g h (k:=b.size-ib) A0 λi x c _=>le i x c;rw[show ib+(b.size-ib)=b.size by lia]at c;have e:=MI.addA f c (k:=a.size-ia) A0 λi x _ _ _ j y n d=>by
  rw[U1 A0]at d;cases d
 rw[show ia+(a.size-ia)=a.size by lia]at e;exact e.whole
end
end PyProof.Rows
namespace PyProof.Rows
open PySem
section
variable{prog:N_}{w:Q_}{A:Around}{E:B_}{s:P_}{rk:Keyed->Nat}{S:Keyed->Prop}{κ:SortKind}
def MZ(prog:N_)(w:Q_)(A:Around)(E:B_)(s:P_)(rk:Keyed->Nat)(S:Keyed->Prop)(κ:SortKind):Prop:=∀x y st (Q:Option Bool->SortSt->Prop),S x->S y->kindOf st=κ->Q (o3 (decide (rk x<rk y))) st->wpS (model prog w) A E s (lt' x y) Q st
def EN(st st':SortSt):Prop:=∃g,st'=SortSt.mk' (kindOf st) (arrOf st) (pendingOf st) g (failedOf st)
theorem EN.refl(st:SortSt):EN st st:=⟨gallopOf st,Z⟩
theorem EN.kind{st a:SortSt}(h:EN st a):kindOf a=kindOf st:=by
 obtain⟨g,rfl⟩:=h;rfl
theorem GR{arr:Array Keyed}{i:Nat}{x:Keyed}{st:SortSt}{Q:Keyed->SortSt->Prop}(e:arr[i]?=o3 x)(h:Q x st):wpS (model prog w) A E s (elem' arr i) Q st:=by
 rw[elem'_eq,e];exact A1a h
theorem NN{b:Keyed}{arr:Array Keyed}{a n c:Nat}{st:SortSt}{Q:Option Nat->SortSt->Prop}(u:MZ prog w A E s rk S κ)(t:kindOf st=κ)(l:S b)(g:∀(i:Nat) x,a<=i->i<a+n->arr[i]?=o3 x->S x)(D:∀(i j:Nat) x y,a<=i->i<=j->j<a+n->arr[i]?=o3 x->arr[j]?=o3 y->rk x<=rk y)(C:a+n<=arr.size)(r:c<n)
  (k:∀h,h<=n->(∀(i:Nat) x,a<=i->i<a+h->arr[i]?=o3 x->rk x<=rk b)->(∀(i:Nat) x,a+h<=i->i<a+n->arr[i]?=o3 x->rk b<rk x)->Q (o3 h) st):wpS (model prog w) A E s (MP o6 b arr a n c) Q st:=by
 refine Rk (B:=λi=>(arr[a+i]?).any λx=>!decide (rk b<rk x)) C r (λi x hi e=>?_) (λi j G H z=>?_) λh v o p=>?_
 .refine⟨(λz=>by cases z),λ_ F q=>u _ _ _ _ l (g _ x B1 B1 e) t ?_⟩;have:(o3 (decide (rk b<rk x)))=o3 (!((arr[a+i]?).any λx=>!decide (rk b<rk x))):=by rw[e];simp
  rw[this];exact q
 .have d:arr[a+i]?=o3 arr[a+i]:=C3 B1;have f:arr[a+j]?=o3 arr[a+j]:=C3 B1;have:=D _ _ _ _ B1 (by omega:a+i<=a+j) B1 d f;simp only[d,f,Option.any_some,Bool.not_eq_true',decide_eq_false_iff_not]at z⊢;omega
 .refine k h v (λi x m b2 e=>?_) (λi x m b2 e=>?_)
  .have:=o (i-a) B1;rw[show a+(i-a)=i by omega,e]at this;simp only[Option.any_some,Bool.not_eq_true',decide_eq_false_iff_not]at this;omega
  .have:=p (i-a) B1 B1;rw[show a+(i-a)=i by omega,e]at this
   simpa using this
theorem Qd{b:Keyed}{arr:Array Keyed}{a n c:Nat}{st:SortSt}{Q:Option Nat->SortSt->Prop}(u:MZ prog w A E s rk S κ)(t:kindOf st=κ)(l:S b)(g:∀(i:Nat) x,a<=i->i<a+n->arr[i]?=o3 x->S x)(D:∀(i j:Nat) x y,a<=i->i<=j->j<a+n->arr[i]?=o3 x->arr[j]?=o3 y->rk x<=rk y)(C:a+n<=arr.size)(r:c<n)
  (k:∀h,h<=n->(∀(i:Nat) x,a<=i->i<a+h->arr[i]?=o3 x->rk x<rk b)->(∀(i:Nat) x,a+h<=i->i<a+n->arr[i]?=o3 x->rk b<=rk x)->Q (o3 h) st):wpS (model prog w) A E s (MP o5 b arr a n c) Q st:=by
 refine Rk (B:=λi=>(arr[a+i]?).any λx=>decide (rk x<rk b)) C r (λi x hi e=>?_) (λi j G H z=>?_) λh v o p=>?_
 .refine⟨λ_ F q=>u _ _ _ _ (g _ x B1 B1 e) l t ?_,λz=>by cases z⟩;have:(o3 (decide (rk x<rk b)))=o3 ((arr[a+i]?).any λx=>decide (rk x<rk b)):=by rw[e];simp
  rw[this];exact q
 .have d:arr[a+i]?=o3 arr[a+i]:=C3 B1;have f:arr[a+j]?=o3 arr[a+j]:=C3 B1;have:=D _ _ _ _ B1 (by omega:a+i<=a+j) B1 d f;simp only[d,f,Option.any_some,A8b]at z⊢;omega
 .refine k h v (λi x m b2 e=>?_) (λi x m b2 e=>?_)
  .have:=o (i-a) B1;rw[show a+(i-a)=i by omega,e]at this
   simpa using this
  .have:=p (i-a) B1 B1;rw[show a+(i-a)=i by omega,e]at this
   simpa using this
end
end PyProof.Rows
namespace PyProof.Rows
open PySem
noncomputable def aBZ:Array Keyed->Array Keyed->StateT SortSt Sem (Array Keyed):=sortPriv% PySem.Builtin.mergeLo
structure Lv(rk:Keyed->Nat)(a b out:Array Keyed)(ia ib:Nat):Prop where
mi:MI rk a b out ia ib
la:ia+1<a.size
lb:ib<b.size
section
variable{prog:N_}{w:Q_}{A:Around}{E:B_}{s:P_}{rk:Keyed->Nat}{S:Keyed->Prop}{κ:SortKind}
theorem wpI{M:Model}{α:Type}{c:Prop}[Decidable c]{p q:StateT SortSt Sem α}{Q:α->SortSt->Prop}{st:SortSt}(a:c->wpS M A E s p Q st)(b:¬c->wpS M A E s q Q st):wpS M A E s (if c then p else q) Q st:=by
 by_cases h:c
 .rw[A0e h];exact a h
 .rw[A0c h];exact b h
theorem wpE{M:Model}{α:Type}{x y:Nat}{p q:StateT SortSt Sem α}{Q:α->SortSt->Prop}{st:SortSt}(a:x=y->wpS M A E s p Q st)(b:x≠y->wpS M A E s q Q st):wpS M A E s (if(x==y)=o5 then p else q) Q st:=wpI (λz=>a (eq_of_beq z)) λz=>b λe=>z (beq_iff_eq.mpr e)
theorem wpJ{M:Model}{α β:Type}{c:Prop}[Decidable c]{a:Unit->β->StateT SortSt Sem α}{x y:β}{Q:α->SortSt->Prop}{st:SortSt}(h:∀m,wpS M A E s (a () m) Q st):wpS M A E s (if c then a () x else a () y) Q st:=wpI (λ_=>h x) λ_=>h y
theorem wpC{M:Model}{α:Type}{m:StateT SortSt Sem α}{Q:α->SortSt->Prop}{st:SortSt}(P:(α->SortSt->Prop)->SortSt->Prop)(h:P Q st)(k:P Q st->wpS M A E s m Q st):wpS M A E s m Q st:=k h
theorem wpR{M:Model}{α:Type}{m:StateT SortSt Sem α}{Q:α->SortSt->Prop}{st:SortSt}(F:(α->SortSt->Prop)->Prop)(h:F Q)(k:∀R,F R->wpS M A E s m R st):wpS M A E s m Q st:=k Q h
section
variable{α:Type}{Q:α->SortSt->Prop}{st:SortSt}
theorem bE{arr:Array Keyed}{i:Nat}{x:Keyed}{f:Keyed->StateT SortSt Sem α}(e:arr[i]?=o3 x)(h:wpS (model prog w) A E s (f x) Q st):wpS (model prog w) A E s (elem' arr i >>= f) Q st:=A0g (GR e h)
theorem bL(d:MZ prog w A E s rk S κ)(a:S x)(b:S y)(c:kindOf st=κ)(h:wpS (model prog w) A E s (f (o3 (decide (rk x<rk y)))) Q st):wpS (model prog w) A E s (lt' x y >>= f) Q st:=A0g (d _ _ _ _ a b c h)
theorem bM(h:wpS (model prog w) A E s (f ⟨⟩) Q (g st)):wpS (model prog w) A E s (modify g >>= f) Q st:=A0g (A5a h)
theorem bR{a n c:Nat}(m:MZ prog w A E s rk S κ)(l:kindOf st=κ)(e:S b)(d:∀(i:Nat) x,a<=i->i<a+n->arr[i]?=o3 x->S x)(p:∀(i j:Nat) x y,a<=i->i<=j->j<a+n->arr[i]?=o3 x->arr[j]?=o3 y->rk x<=rk y)(o:a+n<=arr.size)(g:c<n)
 (k:∀h,h<=n->(∀(i:Nat) x,a<=i->i<a+h->arr[i]?=o3 x->rk x<=rk b)->(∀(i:Nat) x,a+h<=i->i<a+n->arr[i]?=o3 x->rk b<rk x)->wpS (model prog w) A E s (f (o3 h)) Q st):wpS (model prog w) A E s (MP o6 b arr a n c >>= f) Q st:=A0g (NN m l e d p o g k)
theorem bG{a n c:Nat}(m:MZ prog w A E s rk S κ)(l:kindOf st=κ)(e:S b)(d:∀(i:Nat) x,a<=i->i<a+n->arr[i]?=o3 x->S x)(p:∀(i j:Nat) x y,a<=i->i<=j->j<a+n->arr[i]?=o3 x->arr[j]?=o3 y->rk x<=rk y)(o:a+n<=arr.size)(g:c<n)
 (k:∀h,h<=n->(∀(i:Nat) x,a<=i->i<a+h->arr[i]?=o3 x->rk x<rk b)->(∀(i:Nat) x,a+h<=i->i<a+n->arr[i]?=o3 x->rk b<=rk x)->wpS (model prog w) A E s (f (o3 h)) Q st):wpS (model prog w) A E s (MP o5 b arr a n c >>= f) Q st:=A0g (Qd m l e d p o g k)
end
theorem Vr{a b:Array Keyed}{st:SortSt}{Q:Array Keyed->SortSt->Prop}(hl:MZ prog w A E s rk S κ)(hk:kindOf st=κ)(na:1<=a.size)(nb:1<=b.size)(Sa:∀(i:Nat) x,a[i]?=o3 x->S x)(Sb:∀(i:Nat) x,b[i]?=o3 x->S x)(U:SoA rk a)(sb:SoA rk b)(first:∀x y,b[0]?=o3 x->a[0]?=o3 y->rk x<=rk y)(last:∀(i:Nat) x y,b[i]?=o3 x->a[a.size-1]?=o3 y->rk x<=rk y)(k:∀out n,Mgd rk a b out->EN st n->Q out n):wpS (model prog w) A E s (aBZ a b) Q st:=by
 have al:∀{i:Nat},i<a.size->∃x,a[i]?=o3 x:=λ{i} h=>⟨_,C3 h⟩
 have am:∀{i:Nat},i<b.size->∃x,b[i]?=o3 x:=λ{i} h=>⟨_,C3 h⟩
 have N:∀{ia:Nat},ia+1=a.size->∀{ib:Nat}(i:Nat) x,ib<=i->b[i]?=o3 x->∀(j:Nat) y,ia<=j->a[j]?=o3 y->rk x<=rk y:=λ{ia} e {ib} i x _ ex j y hj T=>by
  have jl:=(M6.mp T).1;have:j=a.size-1:=by omega
  subst this;exact last i x y ex T
 refine A0g (wpS_lift (A6g ⟨Z,?_⟩));apply DG;intro G d;obtain⟨x0,e0⟩:=am nb;apply d;clear d G;refine bE e0 ?_;have m0:MI rk a b #[x0] 0 1:=by
  have:=MI.pushB (MI.nil (rk:=rk) (a:=a) (b:=b)) sb e0 λj y _ T=>by
   apply DG;intro G d;obtain⟨y0,f0⟩:=al na;apply d;clear d G;exact D0 (first _ _ e0 f0) (U 0 j _ _ (J9 _) f0 T)
  exact this
 refine wpE (λz1=>?_) λz1=>?_
 .refine A1a (k _ _ ?_ (EN.refl st));rw[z1]at m0;have:=m0.doneA U (J9 _);rw[<-z1]at this⊢;exact this
 refine wpE (λz2=>?_) λz2=>?_
 .exact A1a (k _ _ (m0.lastA U sb (J9 _) nb (N z2)) (EN.refl st))
 have z1:1<b.size:=by lia
 have z2:0+1<a.size:=by lia
 refine A0g (A8e ?_);refine A0g (A4a (A3a (I:=λx r n=>EN st n/\∃out ia ib g,r=(o4,out,ia,ib,g)/\Lv rk a b out ia ib/\x<=ia+ib) (Q:=λr n=>EN st n/\∃o t,r=(o3 o,t)/\Mgd rk a b o) ?_ ?_ ⟨EN.refl st,_,_,_,_,Z,⟨m0,z2,z1⟩,J9 _⟩) ?_)
 .rintro x c af _ hx P;apply DG;intro G d;refine xa P λsy u=>?_;refine xe4 u λout ia ib g C=>?_;refine xa2 C λaa lv le=>?_;clear u C;clear P;subst aa;apply d;clear d G;have a6:kindOf af=κ:=by rw[sy.kind,hk]
  refine A0g (A4a (A3a (I:=λx r n=>n=af/\∃B D F ac bc,r=(o4,B,D,F,ac,bc)/\Lv rk a b B D F/\ia+ib+x<=D+F) (Q:=λr n=>n=af/\((∃o t,r=(o3 o,t)/\Mgd rk a b o)\/∃B D F ac bc,r=(o4,B,D,F,ac,bc)/\Lv rk a b B D F/\ia+ib+1<=D+F)) ?_ ?_ ⟨Z,out,ia,ib,0,0,Z,lv,C0 _⟩) ?_)
  .rintro x' c' a4 _ bb P;apply DG;intro G d;refine xa P λan u=>?_;refine xe5 u λB D F ac bc C=>?_;refine xa2 C λab X a0=>?_;clear u C;clear P;subst an;subst ab;apply d;clear d G;apply DG;intro G d;obtain⟨ad,az,au⟩:=X;obtain⟨y,T⟩:=am au;obtain⟨z,ez⟩:=al (Nat.lt_of_succ_lt az);apply d;clear d G;refine bE T (bE ez (bL hl (Sb _ _ T) (Sa _ _ ez) a6 ?_));by_cases lt:rk y<rk z
   .rw[A0d lt];have mi:=ad.pushB sb T λj y' hj M=>by
     have:=U _ _ _ _ hj ez M;lia
    refine wpI (λ_=>bE T ((wpE (λq=>A1a ⟨Z,.inl ⟨_,_,Z,?_⟩⟩) λq=>?_))) λh=>absurd Z h
    .rw[q]at mi⊢;exact mi.doneA U A0
    have K:Lv rk a b (B.push y) D (F+1):=⟨mi,az,by lia⟩
    exact wpI (λ_=>A1a ⟨Z,.inr ⟨_,_,_,_,_,Z,K,by lia⟩⟩) λ_=>A1a ⟨Z,_,_,_,_,_,Z,K,by lia⟩
   .rw[A0f lt];have mi:=ad.pushA U ez λj y' hj M=>by
     have:=sb _ _ _ _ hj T M;lia
    refine wpI (λh=>nomatch h) λ_=>bE ez ((wpE (λq=>A1a ⟨Z,.inl ⟨_,_,Z,mi.lastA U sb A0 (N8 au) (N q)⟩⟩) λq=>?_));have K:Lv rk a b (B.push z) (D+1) F:=⟨mi,by lia,au⟩
    exact wpI (λ_=>A1a ⟨Z,.inr ⟨_,_,_,_,_,Z,K,by lia⟩⟩) λ_=>A1a ⟨Z,_,_,_,_,_,Z,K,by lia⟩
  .rintro c' a4 L;apply DG;intro G d;refine xa L λan u=>?_;refine xe5 u λB D F ac bc C=>?_;refine xa2 C λab X a0=>?_;clear u C;clear L;subst an;subst ab;apply d;clear d G;have:=X.la;have:=X.lb;lia
  rintro r a4 ⟨rfl,z_|z_⟩
  .apply DG;intro G d;refine BJ z_ λo t ao mg=>?_;clear z_;subst ao;exact d (A1a ⟨sy,_,_,Z,mg⟩)
  apply DG;intro G d;refine xe5 z_ λB D F ac bc u=>?_;refine xa2 u λaa X a0=>?_;clear u;clear z_;subst aa;apply d;clear d G;refine A0g (wpS_lift (A6g ⟨Z,?_⟩));refine A0g (A4a (A3a (I:=λx r n=>EN st n/\∃H v f g2 V W,r=(o4,H,v,f,g2,V,W)/\Lv rk a b H v f/\D+F+x<=v+f) (Q:=λr n=>EN st n/\((∃o t,r=(o3 o,t)/\Mgd rk a b o)\/∃H v f g2 V W,r=(o4,H,v,f,g2,V,W)/\Lv rk a b H v f/\D+F<=v+f)) ?_ ?_ ⟨sy,B,D,F,_,_,_,Z,X,C0 _⟩) ?_)
  .rintro x2 c2 Y _ bd P;apply DG;intro G d;refine xa P λag u=>?_;refine xe5 u λH v f g2 V C=>?_;refine AS C λW aq K a1=>?_;clear u C;clear P;subst aq;apply d;clear d G;dsimp -zeta only
   extract_lets s1 out3 s2 ia3 s3 ib3 s4 m3 s5 ac3 bc3 ib4 jp m4
   refine wpR (λR=>(∀o t n,Mgd rk a b o->EN st n->R (.done (o3 o,t)) n)/\∀o i j g p q n,Lv rk a b o i j->D+F+(x2+1)<=i+j->EN st n->R (.done (o4,o,i,j,g,p,q)) n/\R (.yield (o4,o,i,j,g,p,q)) n) ⟨λo t n m s=>⟨s,.inl ⟨_,_,Z,m⟩⟩,λo i j g p q n l e s=>⟨⟨s,.inr ⟨_,_,_,_,_,_,Z,l,by lia⟩⟩,s,_,_,_,_,_,_,Z,l,e⟩⟩ λR ⟨Rd,Rn⟩=>?_;refine wpJ λm=>?_;have O:EN st (SortSt.mk' (kindOf Y) (arrOf Y) (pendingOf Y) m (failedOf Y)):=by
    apply DG;intro G d;obtain⟨gg,rfl⟩:=ag;apply d;clear d G;exact⟨_,Z⟩
   have ay:=O.kind.trans hk;apply DG;intro G d;obtain⟨ad,a7,a8⟩:=K;obtain⟨y,T⟩:=am a8;apply d;clear d G;refine bM (bE T (bR hl ay (Sb _ _ T) (λi x _ _ e=>Sa i x e) (λi j x y _ h _=>U i j x y h) A0 A0 λkk ba h1 h2=>?_));dsimp -zeta only
   extract_lets ac4 jp2 out4 ia4
   have h2:∀(i:Nat) x,v+kk<=i->a[i]?=o3 x->rk y<rk x:=λi x hi ex=>h2 i x hi (by have:=(M6.mp ex).1;lia) ex;refine wpC (λQ st=>∀o i,MI rk a b o i f->i+1<a.size->v<=i->(∀(i':Nat) x,i<=i'->a[i']?=o3 x->rk y<rk x)->wpS (model prog w) A E s (jp2 () o i) Q st) (λo i ae li be gt=>?_) λav=>?_
   .have ah:=ae.pushB sb T λj y' hj M=>N8 (gt j y' hj M);refine bE T ((wpE (λq3=>A1a (Rd _ _ _ ?_ O)) λq3=>?_))
    .have q3:f+1=b.size:=q3;show Mgd rk a b (o.push y++a.extract i a.size++b.extract (f+1) b.size);rw[q3]at ah⊢;exact ah.doneA U A0
    have q3:=q3;obtain⟨z,ez⟩:=al (i:=i) A0;refine bE ez (bG hl ay (Sa _ _ ez) (λi x _ _ e=>Sb i x e) (λi j x y _ h _=>sb i j x y h) (by show f+1+(b.size-(f+1))<=b.size;lia) (by show 0<b.size-(f+1);lia) λk2 ax h3 h4=>?_);dsimp -zeta only
    extract_lets bc4 ia5 jp3 out5 ib5
    have ax:=ax;have h4:∀(j:Nat) x,f+1+k2<=j->b[j]?=o3 x->rk z<=rk x:=λj x hj ex=>h4 j x hj (by have:=(M6.mp ex).1;show j<f+1+(b.size-(f+1));lia) ex;refine wpC (λQ st=>∀o j,MI rk a b o i j->f+1<=j->j<b.size->(∀(j':Nat) x,j<=j'->b[j']?=o3 x->rk z<=rk x)->wpS (model prog w) A E s (jp3 () o j) Q st) (λo j ai lj a9 ge=>?_) λaw=>?_
    .have a3:=ai.pushA U ez ge;refine bE ez ((wpE (λq5=>A1a (Rd _ _ _ (a3.lastA U sb A0 A0 (N q5)) O)) λq5=>?_));have a2:Lv rk a b _ (i+1) j:=⟨a3,by lia,a9⟩
     exact wpI (λ_=>A1a (Rn _ _ _ _ _ _ _ a2 A0 O).1) λ_=>A1a (Rn _ _ _ _ _ _ _ a2 A0 O).2
    .clear_value jp3
     refine wpI (λzk=>?_) λzk=>?_
     .have ai:=MI.addB sb ah (k:=k2) A0 λi x ar as ex j y' hj M=>D0 (N8 (h3 i x ar as ex)) (U _ _ _ _ hj ez M);refine wpE (λq4=>A1a (Rd _ _ _ ?_ O)) λq4=>aw _ _ ai A0 (by have q4:=q4;lia) h4;have q4:f+1+k2=b.size:=q4;show Mgd rk a b (o.push y++b.extract (f+1) (f+1+k2)++a.extract i a.size++b.extract (f+1+k2) b.size);have ak:=ai;rw[q4]at ak⊢;exact ak.doneA U A0
     .have zk:k2=0:=by lia
      subst zk;exact aw _ _ ah (C0 _) A0 h4
   .clear_value jp2
    refine wpI (λzk=>?_) λzk=>?_
    .have ae:=MI.addA U ad (k:=kk) A0 λi x ar as ex j y' hj M=>D0 (h1 i x ar as ex) (sb _ _ _ _ hj T M);refine wpE (λq1=>A1a (Rd _ _ _ (ae.lastA U sb A0 A0 (N q1)) O)) λq1=>wpE (λq2=>A1a (Rd _ _ _ ?_ O)) λq2=>av _ _ ae (by have q1:=q1;have q2:=q2;lia) A0 h2;have q2:v+kk=a.size:=q2;show Mgd rk a b (H++a.extract v (v+kk)++a.extract (v+kk) a.size++b.extract f b.size);have aj:=ae;rw[q2]at aj⊢;exact aj.doneB sb A0
    .have zk:kk=0:=by lia
     subst zk;exact av _ _ ad a7 (C0 _) h2
  .rintro c2 Y L;apply DG;intro G d;refine xa L λag u=>?_;refine xe5 u λH v f g2 V C=>?_;refine AS C λW aq K a1=>?_;clear u C;clear L;subst aq;apply d;clear d G;have:=K.la;have:=K.lb;lia
  rintro r Y ⟨ag,z_|z_⟩
  .apply DG;intro G d;refine BJ z_ λo t ao mg=>?_;clear z_;subst ao;exact d (A1a ⟨ag,_,_,Z,mg⟩)
  apply DG;intro G d;refine xe5 z_ λH v f g2 V u=>?_;refine AS u λW ab K a1=>?_;clear u;clear z_;subst ab;apply d;clear d G;refine A0g (A5a (A1a ?_));refine⟨?_,_,_,_,_,Z,K,by show x+1<=v+f;lia⟩;apply DG;intro G d;obtain⟨gg,rfl⟩:=ag;apply d;clear d G;exact⟨_,Z⟩
 .rintro c af L;apply DG;intro G d;refine xa L λsy u=>?_;refine xe4 u λout ia ib g C=>?_;refine xa2 C λaa lv le=>?_;clear u C;clear L;subst aa;apply d;clear d G;have:=lv.la;have:=lv.lb;lia
 .rintro r af L;apply DG;intro G d;refine NZ L λsy o t a5 mg=>?_;clear L;subst a5;apply d;clear d G;exact A1a (k _ _ mg sy)
end
end PyProof.Rows
namespace PyProof.Rows
open PySem
structure MH(rk:Keyed->Nat)(a b out:Array Keyed)(na nb:Nat):Prop where
pm:out.toList.Perm (a.toList.drop na++b.toList.drop nb)
so:out.toList.Pairwise (λx y=>rk y<=rk x)
ba:∀o∈out.toList,∀i x,i<na->a[i]?=o3 x->rk x<=rk o
bb:∀o∈out.toList,∀i x,i<nb->b[i]?=o3 x->rk x<=rk o
section
variable{rk:Keyed->Nat}{a b out:Array Keyed}{na nb:Nat}
theorem MH.nil:MH rk a b #[] a.size b.size:=by
 refine⟨?_,by simp,λo h=>by simp at h,λo h=>by simp at h⟩;rw[show a.size=a.toList.length from D6.symm,show b.size=b.toList.length from D6.symm,List.drop_length,List.drop_length];exact A7g _
theorem NR{a:Array Keyed}{i:Nat}{x:Keyed}(h:a[i]?=o3 x):a.toList.drop i=x::a.toList.drop (i+1):=by
 obtain⟨c,e⟩:=M6.mp h;rw[Q8 (by rw[D6];exact c),Q9,e]
theorem MH.pushA{x:Keyed}(h:MH rk a b out (na+1) nb)(k:SoA rk a)(e:a[na]?=o3 x)(le:∀j y,j<nb->b[j]?=o3 y->rk y<=rk x):MH rk a b (out.push x) na nb:=by
 have f:∀o,o∈(out.push x).toList->o∈out.toList\/o=x:=λo c=>by
  rw[M7,J7,D4]at c;exact c
 refine⟨?_,?_,λo c i y hi d=>?_,λo c i y hi d=>?_⟩
 .rw[M7,NR e,List.cons_append];exact List.perm_append_singleton x _ |>.trans (h.pm.cons x)
 .rw[M7,U7];refine⟨h.so,by simp,λo c y g=>?_⟩;rw[D4.mp g];exact h.ba o c na x A0 e
 .rcases f o c with z|rfl
  .exact h.ba o z i y A0 d
  .exact k i na y _ A0 d e
 .rcases f o c with z|rfl
  .exact h.bb o z i y hi d
  .exact le i y hi d
theorem MH.pushB{x:Keyed}(h:MH rk a b out na (nb+1))(k:SoA rk b)(e:b[nb]?=o3 x)(le:∀j y,j<na->a[j]?=o3 y->rk y<=rk x):MH rk a b (out.push x) na nb:=by
 have f:∀o,o∈(out.push x).toList->o∈out.toList\/o=x:=λo c=>by
  rw[M7,J7,D4]at c;exact c
 refine⟨?_,?_,λo c i y hi d=>?_,λo c i y hi d=>?_⟩
 .rw[M7,NR e];exact(List.perm_append_singleton x _).trans ((h.pm.cons x).trans List.perm_middle.symm)
 .rw[M7,U7];refine⟨h.so,by simp,λo c y g=>?_⟩;rw[D4.mp g];exact h.bb o c nb x A0 e
 .rcases f o c with z|rfl
  .exact h.ba o z i y hi d
  .exact le i y hi d
 .rcases f o c with z|rfl
  .exact h.bb o z i y A0 d
  .exact k i nb y _ A0 d e
theorem Uq{a:Array Keyed}{i j:Nat}{x:Keyed}(h:a[i]?=o3 x)(c:i<j):(a.extract i j).reverse=(a.extract (i+1) j).reverse.push x:=by
 apply Array.toList_inj.mp;rw[M7,U9,U9,S8,S8];simp only[List.extract];rw[NR h,show j-i=(j-(i+1))+1 by lia,List.take_succ_cons,List.reverse_cons]
theorem MH.addA(d:SoA rk a){n:Nat}(h:MH rk a b out n nb)(l:n<=a.size):∀{k t:Nat},t+k=n->(∀i x,t<=i->i<n->a[i]?=o3 x->∀j y,j<nb->b[j]?=o3 y->rk y<=rk x)->MH rk a b (out++(a.extract t n).reverse) t nb
|0,t,e,_=>by
 have:t=n:=by lia
 subst this;rw[S2 A0,Array.reverse_empty,Q5];exact h
|k+1,t,e,le=>by
 have g:t<a.size:=by lia
 have c:a[t]?=o3 a[t]:=C3 g;have:=(MH.addA d h l (k:=k) (t:=t+1) A0 (λi x m f=>le i x A0 f)).pushA d c (le t _ (C0 _) A0 c);rw[Uq c A0,W5];exact this
theorem MH.addB(d:SoA rk b){n:Nat}(h:MH rk a b out na n)(l:n<=b.size):∀{k t:Nat},t+k=n->(∀i x,t<=i->i<n->b[i]?=o3 x->∀j y,j<na->a[j]?=o3 y->rk y<=rk x)->MH rk a b (out++(b.extract t n).reverse) na t
|0,t,e,_=>by
 have:t=n:=by lia
 subst this;rw[S2 A0,Array.reverse_empty,Q5];exact h
|k+1,t,e,le=>by
 have g:t<b.size:=by lia
 have c:b[t]?=o3 b[t]:=C3 g;have:=(MH.addB d h l (k:=k) (t:=t+1) A0 (λi x m f=>le i x A0 f)).pushB d c (le t _ (C0 _) A0 c);rw[Uq c A0,W5];exact this
theorem MH.whole(h:MH rk a b out 0 0):Mgd rk a b out.reverse:=by
 refine⟨?_,?_⟩
 .rw[U9];exact(List.reverse_perm _).trans h.pm
 .rw[U9,List.pairwise_reverse];exact h.so
theorem MH.doneA(g:SoA rk a)(h:MH rk a b out na 0)(f:na<=a.size):Mgd rk a b (a.extract 0 na++b.extract 0 0++out.reverse):=by
 have c:=(MH.addA g h f (k:=na) (t:=0) A0 λi x _ _ _ j y d=>absurd d A0).whole;have e:b.extract 0 0=#[]:=by simp
 rw[e,Q5];rw[V0,U2]at c;exact c
theorem MH.doneB(g:SoA rk b)(h:MH rk a b out 0 nb)(f:nb<=b.size):Mgd rk a b (a.extract 0 0++b.extract 0 nb++out.reverse):=by
 have c:=(MH.addB g h f (k:=nb) (t:=0) A0 λi x _ _ _ j y d=>absurd d A0).whole;have e:a.extract 0 0=#[]:=by simp
 rw[e,Array.empty_append];rw[V0,U2]at c;exact c
theorem MH.firstB(l:SoA rk a)(m:SoA rk b)(h:MH rk a b out na nb)(e:na<=a.size)(f:nb<=b.size)(le:∀i x,i<na->a[i]?=o3 x->∀j y,j<nb->b[j]?=o3 y->rk y<=rk x):Mgd rk a b (b.extract 0 nb++a.extract 0 na++out.reverse):=by
 have d:=MH.addA l h e (k:=na) (t:=0) A0 λi x _ c=>le i x c;have c:=(MH.addB m d f (k:=nb) (t:=0) A0 λi x _ _ _ j y g=>absurd g A0).whole;rw[V0,V0,U2,U2,<-Array.append_assoc]at c;exact c
end
end PyProof.Rows
namespace PyProof.Rows
open PySem
noncomputable def aBY:Array Keyed->Array Keyed->StateT SortSt Sem (Array Keyed):=sortPriv% PySem.Builtin.mergeHi
structure LvH(rk:Keyed->Nat)(a b out:Array Keyed)(na nb:Nat):Prop where
mh:MH rk a b out na nb
la:1<=na
ka:na<=a.size
lb:2<=nb
kb:nb<=b.size
section
variable{prog:N_}{w:Q_}{A:Around}{E:B_}{s:P_}{rk:Keyed->Nat}{S:Keyed->Prop}{κ:SortKind}
theorem Vs{st:SortSt}(hl:MZ prog w A E s rk S κ)(hk:kindOf st=κ)(na:1<=a.size)(nb:1<=b.size)(Sa:∀(i:Nat) x,a[i]?=o3 x->S x)(Sb:∀(i:Nat) x,b[i]?=o3 x->S x)(Y:SoA rk a)(V:SoA rk b)(first:∀x y,b[0]?=o3 x->a[0]?=o3 y->rk x<=rk y)(last:∀(i:Nat) x y,b[i]?=o3 x->a[a.size-1]?=o3 y->rk x<=rk y)(k:∀out f,Mgd rk a b out->EN st f->Q out f):wpS (model prog w) A E s (aBY a b) Q st:=by
 have ah:∀{i:Nat},i<a.size->∃x,a[i]?=o3 x:=λ{i} h=>⟨_,C3 h⟩
 have as:∀{i:Nat},i<b.size->∃x,b[i]?=o3 x:=λ{i} h=>⟨_,C3 h⟩
 apply DG;intro F d;obtain⟨f0,au⟩:=ah na;apply d;clear d F;have K:∀{nb:Nat},nb=1->∀{na:Nat}(i:Nat) x,i<na->a[i]?=o3 x->∀(j:Nat) y,j<nb->b[j]?=o3 y->rk y<=rk x:=λ{nb} e {na} i x _ ex j y hj T=>by
  have:j=0:=by lia
  subst this;exact D0 (first _ _ T au) (Y 0 i _ _ (J9 _) au ex)
 refine A0g (wpS_lift (A6g ⟨Z,?_⟩));obtain⟨x0,e0⟩:=ah (i:=a.size-1) A0;refine A0g (GR e0 ?_);have m0:MH rk a b #[x0] (a.size-1) b.size:=by
  have:=MH.pushA (na:=a.size-1) (show MH rk a b #[] (a.size-1+1) b.size by rw[T4 na];exact MH.nil) Y e0 λj y _ T=>last j y x0 T e0;exact this
 refine wpE (λz1=>A1a (k _ _ ?_ (EN.refl st))) λz1=>wpE (λz2=>A1a (k _ _ (m0.firstB Y V A0 (C0 _) (K z2)) (EN.refl st))) λz2=>?_
 .rw[z1]at m0⊢;exact m0.doneB V (C0 _)
 refine A0g (A8e ?_);refine A0g (A4a (A3a (I:=λx r f=>EN st f/\∃na nb out g,r=(o4,na,nb,out,g)/\LvH rk a b out na nb/\na+nb+x<=a.size+b.size) (Q:=λr f=>EN st f/\∃o t,r=(o3 o,t)/\Mgd rk a b o) ?_ ?_ ⟨EN.refl st,_,_,_,_,Z,⟨m0,by lia,by lia,by lia,C0 _⟩,by lia⟩) ?_)
 .rintro x c af _ hx P;apply DG;intro F d;refine xa P λsy n=>?_;refine xe4 n λaj nb1 out g D=>?_;refine xa2 D λab lv le=>?_;clear n D;clear P;subst ab;apply d;clear d F;have a5:kindOf af=κ:=by rw[sy.kind,hk]
  refine A0g (A4a (A3a (I:=λx r f=>f=af/\∃u v B ac bc,r=(o4,u,v,B,ac,bc)/\LvH rk a b B u v/\u+v+x<=aj+nb1) (Q:=λr f=>f=af/\((∃o t,r=(o3 o,t)/\Mgd rk a b o)\/∃u v B ac bc,r=(o4,u,v,B,ac,bc)/\LvH rk a b B u v/\u+v+1<=aj+nb1)) ?_ ?_ ⟨Z,aj,nb1,out,0,0,Z,lv,C0 _⟩) ?_)
  .rintro x' c' a1 _ a8 P;apply DG;intro F d;refine xa P λak n=>?_;refine xe5 n λu v B ac bc D=>?_;refine xa2 D λad N ay=>?_;clear n D;clear P;subst ak;subst ad;apply d;clear d F;apply DG;intro F d;obtain⟨mh,a6,ba,bf,bd⟩:=N;apply d;clear d F;obtain⟨y,T⟩:=as (i:=v-1) A0;obtain⟨z,ez⟩:=ah (i:=u-1) A0;refine A0g (GR T (A0g (GR ez (A0g (hl _ _ _ _ (Sb _ _ T) (Sa _ _ ez) a5 ?_)))));by_cases lt:rk y<rk z
   .rw[A0d lt];have mi:=(show MH rk a b B (u-1+1) v by rw[T4 a6];exact mh).pushA Y ez λj y' hj L=>by
     have:=V j (v-1) _ _ A0 L T;lia
    refine wpI (λ_=>A0g (GR ez (wpE (λq=>A1a ⟨Z,.inl ⟨_,_,Z,?_⟩⟩) λq=>?_))) λh=>absurd Z h
    .rw[q]at mi⊢;exact mi.doneB V A0
    have H:LvH rk a b (B.push z) (u-1) v:=⟨mi,by lia,by lia,by lia,by lia⟩
    exact wpI (λ_=>A1a ⟨Z,.inr ⟨_,_,_,_,_,Z,H,by lia⟩⟩) λ_=>A1a ⟨Z,_,_,_,_,_,Z,H,by lia⟩
   .rw[A0f lt];have mi:=(show MH rk a b B u (v-1+1) by rw[T4 A0];exact mh).pushB V T λj y' hj L=>by
     have:=Y j (u-1) _ _ A0 L ez;lia
    refine wpI (λh=>nomatch h) λ_=>A0g (GR T (wpE (λq=>A1a ⟨Z,.inl ⟨_,_,Z,mi.firstB Y V A0 A0 (K q)⟩⟩) λq=>?_));have H:LvH rk a b (B.push y) u (v-1):=⟨mi,by lia,by lia,by lia,by lia⟩
    exact wpI (λ_=>A1a ⟨Z,.inr ⟨_,_,_,_,_,Z,H,by lia⟩⟩) λ_=>A1a ⟨Z,_,_,_,_,_,Z,H,by lia⟩
  .rintro c' a1 M;apply DG;intro F d;refine xa M λak n=>?_;refine xe5 n λu v B ac bc D=>?_;refine xa2 D λad N ay=>?_;clear n D;clear M;subst ak;subst ad;apply d;clear d F;have:=N.la;have:=N.lb;have:=lv.ka;have:=lv.kb;lia
  rintro r a1 ⟨rfl,z_|z_⟩
  .apply DG;intro F d;refine BJ z_ λo t al mg=>?_;clear z_;subst al;exact d (A1a ⟨sy,_,_,Z,mg⟩)
  apply DG;intro F d;refine xe5 z_ λu v B ac bc n=>?_;refine xa2 n λab N ay=>?_;clear n;clear z_;subst ab;apply d;clear d F;refine A0g (wpS_lift (A6g ⟨Z,?_⟩));refine A0g (A4a (A3a (I:=λx r f=>EN st f/\∃C nb2 G g2 W X,r=(o4,C,nb2,G,g2,W,X)/\LvH rk a b G C nb2/\C+nb2+x<=u+v) (Q:=λr f=>EN st f/\((∃o t,r=(o3 o,t)/\Mgd rk a b o)\/∃C nb2 G g2 W X,r=(o4,C,nb2,G,g2,W,X)/\LvH rk a b G C nb2/\C+nb2<=u+v)) ?_ ?_ ⟨sy,u,v,B,_,_,_,Z,N,C0 _⟩) ?_)
  .rintro x2 c2 aa _ a9 P;apply DG;intro F d;refine xa P λag n=>?_;refine xe5 n λC nb2 G g2 W D=>?_;refine AS D λX am H az=>?_;clear n D;clear P;subst am;apply d;clear d F;dsimp -zeta only
   extract_lets s1 na3 s2 nb3 s3 out3 s4 m3 s5 ac3 bc3 nb4 jp m4
   refine wpR (λR=>(∀o t f,Mgd rk a b o->EN st f->R (.done (o3 o,t)) f)/\∀i j o g p q f,LvH rk a b o i j->i+j+(x2+1)<=u+v->EN st f->R (.done (o4,i,j,o,g,p,q)) f/\R (.yield (o4,i,j,o,g,p,q)) f) ⟨λo t f m s=>⟨s,.inl ⟨_,_,Z,m⟩⟩,λi j o g p q f l e s=>⟨⟨s,.inr ⟨_,_,_,_,_,_,Z,l,by lia⟩⟩,s,_,_,_,_,_,_,Z,l,e⟩⟩ λR ⟨Rd,Rn⟩=>?_;refine wpJ λm=>?_;have O:EN st (SortSt.mk' (kindOf aa) (arrOf aa) (pendingOf aa) m (failedOf aa)):=by
    apply DG;intro F d;obtain⟨gg,rfl⟩:=ag;apply d;clear d F;exact⟨_,Z⟩
   have ax:=O.kind.trans hk;apply DG;intro F d;obtain⟨mh,a7,bb,bg,be⟩:=H;apply d;clear d F;obtain⟨y,T⟩:=as (i:=nb2-1) A0;refine A0g (A5a (A0g (GR T (A0g (NN hl ax (Sb _ _ T) (λi x _ _ e=>Sa i x e) (λi j x y _ h _=>Y i j x y h) (by show 0+C<=a.size;lia) (by show C-1<C;lia) λt1 an h1 h2=>?_)))));dsimp -zeta only
   extract_lets k4 ac4 jp2 out4 na4
   have an:=an;have h1:∀(j:Nat) x,j<t1->a[j]?=o3 x->rk x<=rk y:=λj x hj ex=>h1 j x (J9 _) A0 ex;refine wpC (λQ st=>∀i o,MH rk a b o i nb2->1<=i->i<=C->(∀(j:Nat) x,j<i->a[j]?=o3 x->rk x<=rk y)->wpS (model prog w) A E s (jp2 () i o) Q st) (λi o ai li bh ge=>?_) λav=>?_
   .have aq:=(show MH rk a b _ i (nb2-1+1) by rw[T4 A0];exact ai).pushB V T λj y' hj L=>ge j y' hj L;refine A0g (GR T (wpE (λq3=>A1a (Rd _ _ _ (aq.firstB Y V A0 (by show nb2-1<=b.size;lia) (K q3)) O)) λq3=>?_));have q3:=q3;obtain⟨z,ez⟩:=ah (i:=i-1) A0;refine A0g (GR ez (A0g (Qd hl ax (Sa _ _ ez) (λi x _ _ e=>Sb i x e) (λi j x y _ h _=>V i j x y h) (by show 0+(nb2-1)<=b.size;lia) (by show nb2-1-1<nb2-1;lia) λt2 ao h3 h4=>?_)));dsimp -zeta only
    extract_lets k5 bc4 na5 jp3 out5 nb5
    have ao:=ao;have h3:∀(j:Nat) x,j<t2->b[j]?=o3 x->rk x<=rk z:=λj x hj ex=>N8 (h3 j x (J9 _) A0 ex);refine wpC (λQ st=>∀j o,MH rk a b o i j->2<=j->j<=nb2-1->(∀(j':Nat) x,j'<j->b[j']?=o3 x->rk x<=rk z)->wpS (model prog w) A E s (jp3 () j o) Q st) (λj o ae lj bi gz=>?_) λaw=>?_
    .have ar:=(show MH rk a b _ (i-1+1) j by rw[T4 li];exact ae).pushA Y ez λj' y' hj L=>gz j' y' hj L;refine A0g (GR ez (wpE (λq5=>A1a (Rd _ _ _ ?_ O)) λq5=>?_))
     .have q5:i-1=0:=q5;show Mgd rk a b (a.extract 0 (i-1)++b.extract 0 j++(o.push z).reverse);rw[q5]at ar⊢;exact ar.doneB V A0
     have q5:=q5;have a0:LvH rk a b _ (i-1) j:=⟨ar,by lia,by lia,lj,by lia⟩
     exact wpI (λ_=>A1a (Rn _ _ _ _ _ _ _ a0 A0 O).1) λ_=>A1a (Rn _ _ _ _ _ _ _ a0 A0 O).2
    .clear_value jp3
     refine wpI (λU=>?_) λU=>?_
     .have U:=U;have ae:=MH.addB V aq A0 (k:=nb2-1-t2) (t:=t2) A0 λi' x a3 a4 ex j y' hj L=>D0 (Y j (i-1) _ _ A0 L ez) (h4 i' x A0 (by show i'<0+(nb2-1);lia) ex);refine wpE (λq4=>A1a (Rd _ _ _ (ae.firstB Y V A0 (by show t2<=b.size;lia) (K q4)) O)) λq4=>wpE (λq6=>A1a (Rd _ _ _ ?_ O)) λq6=>aw _ _ ae (by have q4:=q4;have q6:=q6;show 2<=t2;lia) ao h3;have q6:=q6;show Mgd rk a b (a.extract 0 i++b.extract 0 t2++(o.push y++(b.extract t2 (nb2-1)).reverse).reverse);subst q6;exact ae.doneA Y A0
     .have U:=U;have U:t2=nb2-1:=by lia
      subst U;exact aw _ _ aq (by show 2<=nb2-1;lia) (C0 _) h3
   .clear_value jp2
    refine wpI (λU=>?_) λU=>?_
    .have U:=U;have ai:=MH.addA Y mh A0 (k:=C-t1) (t:=t1) A0 λi x a3 a4 ex j y' hj L=>D0 (V j (nb2-1) _ _ A0 L T) (N8 (h2 i x A0 (by show i<0+C;lia) ex));refine wpE (λq1=>A1a (Rd _ _ _ ?_ O)) λq1=>av _ _ ai (by have q1:=q1;show 1<=t1;lia) an h1;have q1:=q1;show Mgd rk a b (a.extract 0 t1++b.extract 0 nb2++(G++(a.extract t1 C).reverse).reverse);subst q1;exact ai.doneB V A0
    .have U:=U;have U:t1=C:=by lia
     subst U;exact av _ _ mh a7 (C0 _) h1
  .rintro c2 aa M;apply DG;intro F d;refine xa M λag n=>?_;refine xe5 n λC nb2 G g2 W D=>?_;refine AS D λX am H az=>?_;clear n D;clear M;subst am;apply d;clear d F;have:=H.la;have:=H.lb;have:=N.ka;have:=N.kb;lia
  rintro r aa ⟨ag,z_|z_⟩
  .apply DG;intro F d;refine BJ z_ λo t al mg=>?_;clear z_;subst al;exact d (A1a ⟨ag,_,_,Z,mg⟩)
  apply DG;intro F d;refine xe5 z_ λC nb2 G g2 W n=>?_;refine AS n λX ad H az=>?_;clear n;clear z_;subst ad;apply d;clear d F;refine A0g (A5a (A1a ?_));refine⟨?_,_,_,_,_,Z,H,by show C+nb2+(x+1)<=a.size+b.size;lia⟩;apply DG;intro F d;obtain⟨gg,rfl⟩:=ag;apply d;clear d F;exact⟨_,Z⟩
 .rintro c af M;apply DG;intro F d;refine xa M λsy n=>?_;refine xe4 n λaj nb1 out g D=>?_;refine xa2 D λab lv le=>?_;clear n D;clear M;subst ab;apply d;clear d F;have:=lv.la;have:=lv.lb;lia
 .rintro r af M;apply DG;intro F d;refine NZ M λsy o t a2 mg=>?_;clear M;subst a2;apply d;clear d F;exact A1a (k _ _ mg sy)
end
end PyProof.Rows
namespace PyProof.Rows
open PySem
theorem WF(t:Nat):∀(l:List Keyed)(n:Nat)(arr:Array Keyed),t+n+l.length<=arr.size->((l.zipIdx n).foldl (λa (p:Keyed×Nat)=>a.setIfInBounds (t+p.2) p.1) arr).toList=arr.toList.take (t+n)++l++arr.toList.drop (t+n+l.length)
|[],n,arr,h=>by simp
|x::l,n,arr,h=>by
 rw[D8]at h;rw[List.zipIdx_cons,T3,WF t l (n+1) _ (by rw[Array.size_setIfInBounds];lia)];have d:t+n<arr.toList.length:=by rw[D6];lia
 rw[Array.toList_setIfInBounds,D8];have b:(arr.toList.set (t+n) x).take (t+(n+1))=arr.toList.take (t+n)++[x]:=by
  rw[show t+(n+1)=(t+n)+1 by lia,F4,List.take_set_of_le (C0 _),Z4 d];rfl
 have c:(arr.toList.set (t+n) x).drop (t+(n+1)+l.length)=arr.toList.drop (t+n+(l.length+1)):=by
  rw[List.drop_set_of_lt A0];congr 1;lia
 rw[b,c];simp
theorem YJ{t:Nat}{m arr:Array Keyed}(h:t+m.size<=arr.size):(m.toList.zipIdx.foldl (λa (p:Keyed×Nat)=>a.setIfInBounds (t+p.2) p.1) arr).toList=arr.toList.take t++m.toList++arr.toList.drop (t+m.size):=by
 have:=WF t m.toList 0 arr (by rw[D6];lia);rw[D6]at this;exact this
end PyProof.Rows
namespace PyProof.Rows
open PySem
def SoR(rk:Keyed->Nat)(arr:Array Keyed)(lo hi:Nat):Prop:=∀(i j:Nat)(x y:Keyed),lo<=i->i<=j->j<hi->arr[i]?=o3 x->arr[j]?=o3 y->rk x<=rk y
structure Mgr(rk:Keyed->Nat)(arr arr':Array Keyed)(lo hi:Nat):Prop where
pm:arr'.toList.Perm arr.toList
out:∀i:Nat,i<lo\/hi<=i->arr'[i]?=arr[i]?
so:SoR rk arr' lo hi
section
variable{prog:N_}{w:Q_}{A:Around}{E:B_}{s:P_}{rk:Keyed->Nat}{S:Keyed->Prop}{κ:SortKind}
theorem SoR.ext{lo hi:Nat}(h:SoR rk arr lo hi)(c:hi<=arr.size):SoA rk (arr.extract lo hi):=λi j x y d b a=>by
 have jl:=(M6.mp a).1;rw[T5]at jl;rw[U0]at b a;rw[A0e A0]at b a;exact h (lo+i) (lo+j) x y A0 A0 A0 b a
theorem SoR.join{lo mid hi:Nat}(k:SoR rk arr lo mid)(l:SoR rk arr mid hi)(h:∀(i j:Nat) x y,lo<=i->i<mid->mid<=j->j<hi->arr[i]?=o3 x->arr[j]?=o3 y->rk x<=rk y):SoR rk arr lo hi:=λi j x y g e f c d=>by
 by_cases a:j<mid
 .exact k i j x y g e a c d
 .by_cases b:i<mid
  .exact h i j x y g b A0 f c d
  .exact l i j x y A0 e f c d
theorem Mgr.same{lo hi:Nat}(h:SoR rk arr lo hi):Mgr rk arr arr lo hi:=⟨A7g _,λ_ _=>Z,h⟩
theorem aCI{t:Nat}{m arr arr':Array Keyed}(h:t+m.size<=arr.size)(e:arr'.toList=arr.toList.take t++m.toList++arr.toList.drop (t+m.size))(i:Nat):arr'[i]?=if t<=i/\i<t+m.size then m[i-t]? else arr[i]?:=by
 rw[<-M4,e];have c:(arr.toList.take t).length=t:=by rw[J3,D6];lia
 have d:(arr.toList.take t++m.toList).length=t+m.size:=by rw[C6,c,D6]
 by_cases a:i<t
 .rw[A0c A0,N7,M5 A0,List.getElem?_take,A0e a,M4]
 .by_cases b:i<t+m.size
  .rw[A0e A0,M5 A0,J0 A0,c,M4]
  .rw[A0c A0,J0 A0,d,K5,show t+m.size+(i-(t+m.size))=i by lia,M4]
theorem aBb{arr arr' m:Array Keyed}{lo t mid u hi:Nat}(M:lo<=t)(b2:t<mid)(N:mid<u)(O:u<=hi)(P:hi<=arr.size)(v:SoR rk arr lo mid)(z:SoR rk arr mid hi)(h:∀(i j:Nat) x y,lo<=i->i<t->mid<=j->j<hi->arr[i]?=o3 x->arr[j]?=o3 y->rk x<=rk y)(f:∀(i j:Nat) x y,lo<=i->i<mid->u<=j->j<hi->arr[i]?=o3 x->arr[j]?=o3 y->rk x<=rk y)(mg:Mgd rk (arr.extract t mid) (arr.extract mid u) m)(e:arr'.toList=arr.toList.take t++m.toList++arr.toList.drop (t+m.size)):Mgr rk arr arr' lo hi:=by
 have Q:m.size=u-t:=by
  have:=mg.pm.length_eq;rw[C6,D6,D6,D6,T5,T5]at this;lia
 have L:t+m.size=u:=by lia
 have at':=aCI (t:=t) (m:=m) (arr:=arr) (arr':=arr') A0 e;have C:arr.extract t mid++arr.extract mid u=arr.extract t u:=by
  rw[Array.extract_append_extract];congr 1<;>lia
 have g:∀{i:Nat}{x:Keyed},m[i]?=o3 x->∃j,t<=j/\j<u/\arr[j]?=o3 x:=λ{i x} a=>by
  have H:x∈m.toList:=by rw[<-M4]at a;exact D5 a
  have:=mg.pm.mem_iff.mp H;rw[<-Array.toList_append,C]at this;obtain⟨j,l⟩:=L7 this;rw[M4,U0]at l;split at l
  .exact⟨t+j,by lia,by lia,l⟩
  .cases l
 refine⟨?_,λi G=>?_,λi j x y o B n a b=>?_⟩
 .rw[e];have:arr.toList=arr.toList.take t++(arr.extract t u).toList++arr.toList.drop (t+m.size):=by
   rw[S8,L,N7];simp only[List.extract];have:(arr.toList.drop t).take (u-t)++arr.toList.drop u=arr.toList.drop t:=by
    have:=X5 (u-t) (arr.toList.drop t);rw[List.drop_drop,show t+(u-t)=u by lia]at this;exact this
   rw[this,X5]
  rw (occs:=.pos [3]) [this];refine List.Perm.append_right _ (List.Perm.append_left _ ?_);rw[<-C,Array.toList_append];exact mg.pm
 .rw[at',A0c A0]
 .rw[at']at a b;by_cases p:t<=i/\i<t+m.size
  .rw[A0e p]at a;by_cases c:t<=j/\j<t+m.size
   .rw[A0e c]at b;by_cases q:i=j
    .subst q;rw[a]at b;cases b;exact C0 _
    .have:=W0.mp mg.so (i-t) (j-t) (by rw[D6];lia) (by rw[D6];lia) A0;obtain⟨_,D⟩:=M6.mp a;obtain⟨_,F⟩:=M6.mp b;rw[Q9,Q9,D,F]at this;exact this
   .rw[A0c c]at b;refine AS (g a) λk I K d=>?_;by_cases q:k<mid
    .exact f k j x y A0 q A0 n d b
    .exact z k j x y A0 A0 n d b
  .rw[A0c p]at a;by_cases c:t<=j/\j<t+m.size
   .rw[A0e c]at b;refine AS (g b) λk I K d=>?_;by_cases q:k<mid
    .exact v i k x y o A0 q a d
    .exact h i k x y o A0 A0 A0 a d
   .rw[A0c c]at b;by_cases q:i<t
    .by_cases r:j<mid
     .exact v i j x y o B r a b
     .exact h i j x y o q A0 n a b
    .exact z i j x y A0 B n a b
end
end PyProof.Rows
namespace PyProof.Rows
open PySem
section
variable{prog:N_}{w:Q_}{A:Around}{E:B_}{s:P_}{rk:Keyed->Nat}{S:Keyed->Prop}{κ:SortKind}
theorem Zf{st a:SortSt}{Q:PUnit->SortSt->Prop}(h:Q ⟨⟩ a):wpS (model prog w) A E s (set a:StateT SortSt Sem PUnit) Q st:=by
 unfold wpS;rw[StateT.run_set];exact A0h ⟨Z,h⟩
theorem Vt{st:SortSt}{Q:Bool->SortSt->Prop}{i b na pw K r ab:Nat}(W:MZ prog w A E s rk S κ)(G:kindOf st=κ)(hf:failedOf st=o4)(e1:(pendingOf st)[i]?=o3 (b,na,pw))(e2:(pendingOf st)[i+1]?=o3 (K,r,ab))(Y:K=b+na)(af:1<=na)(nb1:1<=r)(hz:K+r<=(arrOf st).size)(c:∀(i:Nat) x,(arrOf st)[i]?=o3 x->S x)(O:SoR rk (arrOf st) b K)(I:SoR rk (arrOf st) K (K+r))
  (k:∀o,kindOf o=κ->failedOf o=o4->pendingOf o=((pendingOf st).setIfInBounds i (b,na+r,pw)).eraseIdxIfInBounds (i+1)->Mgr rk (arrOf st) (arrOf o) b (K+r)->Q o5 o):wpS (model prog w) A E s (mergeAt' i) Q st:=by
 subst Y;have at':∀{j:Nat},j<(arrOf st).size->∃x,(arrOf st)[j]?=o3 x:=λ{j} h=>⟨_,C3 h⟩
 refine A0g (A8e ?_);rw[e1,e2];dsimp only;refine A0g (Zf ?_);obtain⟨y0,n⟩:=at' (j:=b+na) A0;refine A0g (GR n (A0g (NN W G (c _ _ n) (λi x _ _ e=>c i x e) (λi j x y M T U=>O i j x y M T U) (show b+na<=(arrOf st).size by lia) A0 λkk ad M T=>?_)));dsimp only;by_cases N:(na-kk==0)=o5
 .rw[A0e N];have N:na-kk=0:=by simpa using N
  refine A1a (k _ G hf Z (Mgr.same (O.join I λi j x y v B q F f l=>?_)));exact D0 (M i x v A0 f) (I _ _ _ _ (C0 _) q F n l)
 rw[A0c N];have N:¬na-kk=0:=λz=>N (by simpa using z);obtain⟨xl,C⟩:=at' (j:=b+kk+(na-kk)-1) A0;refine A0g (GR C (A0g (Qd W G (c _ _ C) (λi x _ _ e=>c i x e) (λi j x y M T U=>I i j x y M T U) (show b+na+r<=(arrOf st).size by lia) A0 λd ae U h4=>?_)));dsimp only;have aa:∀(i j:Nat) x y,b<=i->i<b+kk->b+na<=j->j<b+na+r->(arrOf st)[i]?=o3 x->(arrOf st)[j]?=o3 y->rk x<=rk y:=λi j x y v B q F f l=>D0 (M i x v B f) (I _ _ _ _ (C0 _) q F n l);have D:∀(i j:Nat) x y,b<=i->i<b+na->b+na+d<=j->j<b+na+r->(arrOf st)[i]?=o3 x->(arrOf st)[j]?=o3 y->rk x<=rk y:=λi j x y v B q F f l=>D0 (O i _ x xl v A0 A0 f C) (h4 j y q F l);by_cases H:(d==0)=o5
 .rw[A0e H];have H:d=0:=by simpa using H
  subst H;exact A1a (k _ G hf Z (Mgr.same (O.join I λi j x y v B q F f l=>D i j x y v B q F f l)))
 rw[A0c H];have H:¬d=0:=λz=>H (by simpa using z);have sx:SoA rk ((arrOf st).extract (b+kk) (b+na)):=SoR.ext (λi j x y v B q=>O i j x y A0 B q) A0;have sy:SoA rk ((arrOf st).extract (b+na) (b+na+d)):=SoR.ext (λi j x y v B q=>I i j x y A0 B A0) A0;have X:((arrOf st).extract (b+kk) (b+na)).size=na-kk:=by rw[T5];lia
 have zy:((arrOf st).extract (b+na) (b+na+d)).size=d:=by rw[T5];lia
 have V:∀{j:Nat}{x:Keyed},((arrOf st).extract (b+kk) (b+na))[j]?=o3 x->(arrOf st)[b+kk+j]?=o3 x/\j<na-kk:=λ{j x} e=>by
  have:=(M6.mp e).1;rw[U0,A0e A0]at e;exact⟨e,by lia⟩
 have P:∀{j:Nat}{x:Keyed},((arrOf st).extract (b+na) (b+na+d))[j]?=o3 x->(arrOf st)[b+na+j]?=o3 x/\j<d:=λ{j x} e=>by
  have:=(M6.mp e).1;rw[U0,A0e A0]at e;exact⟨e,by lia⟩
 have R:∀x y,((arrOf st).extract (b+na) (b+na+d))[0]?=o3 x->((arrOf st).extract (b+kk) (b+na))[0]?=o3 y->rk x<=rk y:=λx y f l=>by
  have e:=(P f).1;rw[K8,n]at e;cases e;exact N8 (T _ y A0 A0 (V l).1)
 have lst:∀(i:Nat) x y,((arrOf st).extract (b+na) (b+na+d))[i]?=o3 x->((arrOf st).extract (b+kk) (b+na))[((arrOf st).extract (b+kk) (b+na)).size-1]?=o3 y->rk x<=rk y:=λi x y f l=>by
  have e:=(V l).1;rw[X,show b+kk+(na-kk-1)=b+kk+(na-kk)-1 by lia,C]at e;cases e;exact N8 (U _ x A0 (by have:=(P f).2;lia) (P f).1)
 have fin:∀(m:Array Keyed)(L:SortSt),Mgd rk ((arrOf st).extract (b+kk) (b+na)) ((arrOf st).extract (b+na) (b+na+d)) m->EN (SortSt.mk' (kindOf st) (arrOf st) (((pendingOf st).setIfInBounds i (b,na+r,pw)).eraseIdxIfInBounds (i+1)) (gallopOf st) (failedOf st)) L->wpS (model prog w) A E s (do modify λs=>setArr s (m.toList.zipIdx.foldl (λa (p:Keyed×Nat)=>a.setIfInBounds (b+kk+p.2) p.1) (arrOf s));pure (failedOf (<-get)).isNone) Q L:=λm L mg ac=>by
  obtain⟨g,rfl⟩:=ac;refine A0g (A5a (A0g (A8e (A1a ?_))));show Q (failedOf st).isNone _;rw[hf];have ms:m.size=na-kk+d:=by
   have:=mg.pm.length_eq;rw[C6,D6,D6,D6,X,zy]at this;exact this
  refine k _ G Z Z (aBb (t:=b+kk) (mid:=b+na) (u:=b+na+d) A0 A0 A0 A0 A0 O I aa D mg (YJ (show b+kk+m.size<=(arrOf st).size by lia)))
 by_cases q3:na-kk<=d
 .rw[A0e q3];exact A0g (Vr W G (show 1<=((arrOf st).extract (b+kk) (b+na)).size by rw[X];lia) (show 1<=((arrOf st).extract (b+na) (b+na+d)).size by rw[zy];lia) (λi x e=>c _ x (V e).1) (λi x e=>c _ x (P e).1) sx sy R lst fin)
 .rw[A0c q3];exact A0g (Vs W G (show 1<=((arrOf st).extract (b+kk) (b+na)).size by rw[X];lia) (show 1<=((arrOf st).extract (b+na) (b+na+d)).size by rw[zy];lia) (λi x e=>c _ x (V e).1) (λi x e=>c _ x (P e).1) sx sy R lst fin)
end
end PyProof.Rows
namespace PyProof.Rows
open PySem
structure Rea(arr arr':Array Keyed)(lo hi:Nat):Prop where
pm:arr'.toList.Perm arr.toList
out:∀i:Nat,i<lo\/hi<=i->arr'[i]?=arr[i]?
section
variable{prog:N_}{w:Q_}{A:Around}{E:B_}{s:P_}{rk:Keyed->Nat}{S:Keyed->Prop}{κ:SortKind}
theorem Rea.refl(arr:Array Keyed)(lo hi:Nat):Rea arr arr lo hi:=⟨A7g _,λ_ _=>Z⟩
theorem Rea.size{arr arr':Array Keyed}{lo hi:Nat}(h:Rea arr arr' lo hi):arr'.size=arr.size:=by
 have:=h.pm.length_eq;rw[D6,D6]at this;exact this
theorem Rea.all{arr arr':Array Keyed}{lo hi:Nat}(h:Rea arr arr' lo hi)(b:∀(i:Nat) x,arr[i]?=o3 x->S x)(i:Nat)(x:Keyed)(e:arr'[i]?=o3 x):S x:=by
 rw[<-M4]at e;obtain⟨j,a⟩:=L7 (h.pm.mem_iff.mp (D5 e));rw[M4]at a;exact b j x a
theorem Rea.trans{a b c:Array Keyed}{lo hi:Nat}(h:Rea a b lo hi)(d:Rea b c lo hi):Rea a c lo hi:=⟨d.pm.trans h.pm,λi hi=>(d.out i hi).trans (h.out i hi)⟩
theorem aEC{arr:Array Keyed}{lo k l hi:Nat}{c:Keyed}(u:lo+k<hi)(v:hi<=arr.size)(B:l<=k)(e:arr[lo+k]?=o3 c)(h:SoR rk arr lo (lo+k))(p:∀(i:Nat) x,lo<=i->i<lo+l->arr[i]?=o3 x->rk x<=rk c)(q:∀(i:Nat) x,lo+l<=i->i<lo+k->arr[i]?=o3 x->rk c<=rk x):Rea arr (bubble arr (lo+k) (lo+k-(lo+l))) lo hi/\SoR rk (bubble arr (lo+k) (lo+k-(lo+l))) lo (lo+k+1):=by
 have g:=getElem?_bubble (xs:=arr) (src:=lo+k) B1 (lo+k-(lo+l)) B1;rw[show lo+k-(lo+k-(lo+l))=lo+l by omega]at g;refine⟨⟨V9.mp (bubble_perm _ _ _),λi r=>?_⟩,λi j x y f t z b a=>?_⟩
 .rw[g,A0c B1,A0c B1]
 .rw[g]at b a;by_cases m:i=lo+l
  .rw[A0e m,e]at b;cases b;by_cases d:j=lo+l
   .rw[A0e d,e]at a;cases a;exact C0 _
   .rw[A0c d,A0e B1]at a;exact q (j-1) y B1 B1 a
  .rw[A0c m]at b;by_cases n:lo+l<i/\i<=lo+k
   .rw[A0e n]at b;rw[A0c B1,A0e B1]at a;exact h (i-1) (j-1) x y B1 B1 B1 b a
   .rw[A0c n]at b;by_cases d:j=lo+l
    .rw[A0e d,e]at a;cases a;exact p i x f B1 b
    .rw[A0c d]at a;by_cases o:lo+l<j/\j<=lo+k
     .rw[A0e o]at a;exact h i (j-1) x y f B1 B1 b a
     .rw[A0c o]at a;exact h i j x y f t B1 b a
end
end PyProof.Rows
namespace PyProof.Rows
open PySem
section
variable{prog:N_}{w:Q_}{A:Around}{E:B_}{s:P_}{rk:Keyed->Nat}{S:Keyed->Prop}{κ:SortKind}
theorem Lw{st:SortSt}{i j:Nat}(f:MZ prog w A E s rk S κ)(e:kindOf st=κ)(c:(arrOf st)[i]?=o3 x)(d:(arrOf st)[j]?=o3 y)(a:S x)(b:S y)(h:Q (o3 (decide (rk x<rk y))) st):wpS (model prog w) A E s (ltAt' i j) Q st:=by
 rw[ltAt'_eq];exact A0g (A8e (A0g (GR c (A0g (GR d (f _ _ _ _ a b e h))))))
theorem aCP{st:SortSt}(h:Q () (setArr st (bubble (arrOf st) src (src-a)))):wpS (model prog w) A E s (moveDown' src a) Q st:=by
 rw[moveDown'_eq];exact A5a h
theorem QL{st:SortSt}{lo n ok:Nat}(hl:MZ prog w A E s rk S κ)(Y:kindOf st=κ)(hz:lo+n<=(arrOf st).size)(aa:ok<=n)(B:∀(i:Nat) x,(arrOf st)[i]?=o3 x->S x)(so:SoR rk (arrOf st) lo (lo+ok))(k:∀arr',Rea (arrOf st) arr' lo (lo+n)->SoR rk arr' lo (lo+n)->Q o5 (setArr st arr')):wpS (model prog w) A E s (binarySort' lo n ok) Q st:=by
 refine A0g (A4a (A3a (I:=λx c q=>c=(o4,())/\∃arr',q=setArr st arr'/\Rea (arrOf st) arr' lo (lo+n)/\SoR rk arr' lo (lo+x)) (Q:=λc q=>c=(o4,())/\∃arr',q=setArr st arr'/\Rea (arrOf st) arr' lo (lo+n)/\SoR rk arr' lo (lo+n)) ?_ ?_ ⟨Z,arrOf st,Z,Rea.refl _ _ _,?_⟩) ?_)
 .intro x c q ab hx H;refine Jy H λg arr' t f=>?_;refine xa f λC p=>?_;clear f;clear H;subst g;subst t;have sz:=C.size;obtain⟨o,R⟩:∃o,arr'[lo+x]?=o3 o:=⟨_,C3 A0⟩
  refine A0g (A4a (A3a (I:=λy r m=>m=setArr st arr'/\∃l h,r=(o4,l,h)/\l<=h/\h-l<=x-y/\h<=x/\(∀(i:Nat) z,lo<=i->i<lo+l->arr'[i]?=o3 z->rk z<=rk o)/\(∀(i:Nat) z,lo+h<=i->i<lo+x->arr'[i]?=o3 z->rk o<=rk z)) (Q:=λr m=>m=setArr st arr'/\∃l h,r=(o4,l,h)/\l<=x/\(∀(i:Nat) z,lo<=i->i<lo+l->arr'[i]?=o3 z->rk z<=rk o)/\(∀(i:Nat) z,lo+l<=i->i<lo+x->arr'[i]?=o3 z->rk o<=rk z)) ?_ ?_ ⟨Z,0,x,Z,by lia,by lia,by lia,λi z X U=>absurd U A0,λi z X U=>absurd U A0⟩) ?_)
  .intro y r m _ hy K;refine DC K λg l h u lh f=>?_;refine xa3 f λme W D F=>?_;clear f;clear K;subst g;subst u;dsimp only;by_cases z:l ≥ h
   .rw[A0e z];exact A1a ⟨Z,l,h,Z,by lia,D,λi G a b=>F i G A0 b⟩
   rw[A0c z];obtain⟨v,P⟩:∃v,arr'[lo+(l+h)/2]?=o3 v:=⟨_,C3 A0⟩
   refine A0g (Lw hl Y R P (C.all B _ _ R) (C.all B _ _ P) ?_);dsimp only;by_cases lt:rk o<rk v
   .rw[A0d lt,A0e rfl];exact A1a ⟨Z,l,(l+h)/2,Z,by lia,by lia,by lia,D,λi G a b e=>by
     have:=p _ i _ _ A0 a A0 P e;lia⟩
   .rw[A0f lt,A0c B0];exact A1a ⟨Z,(l+h)/2+1,h,Z,by lia,by lia,W,λi G a b e=>by
     have:=p i (lo+(l+h)/2) _ _ a A0 A0 e P;lia,F⟩
  .intro r m L;refine DC L λg l h u lh f=>?_;refine xa3 f λme W D F=>?_;clear f;clear L;subst g;subst u;exact⟨Z,l,h,Z,by lia,D,λi G a b=>F i G A0 b⟩
  .intro r m M;refine DC M λg l h u lx f=>?_;refine xa f λD F=>?_;clear f;clear M;subst g;subst u;dsimp only;have fin:=aEC (hi:=lo+n) A0 A0 lx R p D F;exact A0g (aCP (A1a ⟨Z,_,Z,C.trans fin.1,fin.2⟩))
 .intro c q N;refine Jy N λg arr' t f=>?_;refine xa f λC p=>?_;clear f;clear N;subst g;subst t;exact⟨Z,arr',Z,C,λi j x y a b d=>p i j x y a b A0⟩
 .intro i j x y a b d V T;by_cases z:j<lo+ok
  .exact so i j x y a b z V T
  .have:i=j:=by lia
   subst this;rw[V]at T;cases T;exact C0 _
 .intro c q O;refine Jy O λg arr' t f=>?_;refine xa f λC p=>?_;clear f;clear O;subst g;subst t;exact A1a (k arr' C p)
end
end PyProof.Rows
namespace PyProof.Rows
open PySem
def DeR(rk:Keyed->Nat)(arr:Array Keyed)(lo hi:Nat):Prop:=∀(i j:Nat)(x y:Keyed),lo<=i->i<=j->j<hi->arr[i]?=o3 x->arr[j]?=o3 y->rk y<=rk x
def EqR(rk:Keyed->Nat)(arr:Array Keyed)(lo hi:Nat):Prop:=∀(i j:Nat)(x y:Keyed),lo<=i->i<hi->lo<=j->j<hi->arr[i]?=o3 x->arr[j]?=o3 y->rk x=rk y
def Kr(rk:Keyed->Nat)(arr arr':Array Keyed):Prop:=∀(k:Nat)(x':Keyed),arr'[k]?=o3 x'->∃x,arr[k]?=o3 x/\rk x'=rk x
section
variable{prog:N_}{w:Q_}{A:Around}{E:B_}{s:P_}{rk:Keyed->Nat}{S:Keyed->Prop}{κ:SortKind}
theorem SoR.one{lo:Nat}:SoR rk arr lo (lo+1):=λi j x y a b c e d=>by
 have:i=j:=by lia
 subst this;rw[e]at d;cases d;exact C0 _
theorem EqR.one{lo:Nat}:EqR rk arr (lo+1-(0+1)) (lo+1):=λi j x y a b c d f e=>by
 have:i=j:=by lia
 subst this;rw[f]at e;cases e;rfl
theorem SoR.snoc{lo hi:Nat}(h:SoR rk arr lo hi)(l:lo<hi)(e:arr[hi]?=o3 x)(g:arr[hi-1]?=o3 y)(le:rk y<=rk x):SoR rk arr lo (hi+1):=λi j a b f k m c d=>by
 by_cases z:j<hi
 .exact h i j a b f k z c d
 .have:j=hi:=by lia
  subst this;rw[e]at d;cases d;by_cases q:i=j
  .subst q;rw[e]at c;cases c;exact C0 _
  .exact D0 (h i (j-1) a y f A0 A0 c g) le
theorem DeR.snoc{lo hi:Nat}(h:DeR rk arr lo hi)(l:lo<hi)(e:arr[hi]?=o3 x)(g:arr[hi-1]?=o3 y)(le:rk x<=rk y):DeR rk arr lo (hi+1):=λi j a b f k m c d=>by
 by_cases z:j<hi
 .exact h i j a b f k z c d
 .have:j=hi:=by lia
  subst this;rw[e]at d;cases d;by_cases q:i=j
  .subst q;rw[e]at c;cases c;exact C0 _
  .exact D0 le (h i (j-1) a y f A0 A0 c g)
theorem EqR.snoc{lo hi:Nat}(h:EqR rk arr lo hi)(l:lo<hi)(k:arr[hi]?=o3 x)(m:arr[hi-1]?=o3 y)(le:rk x=rk y):EqR rk arr lo (hi+1):=by
 have d:∀(i:Nat) a,lo<=i->i<hi+1->arr[i]?=o3 a->rk a=rk y:=λi a e f c=>by
  by_cases z:i<hi
  .exact h i (hi-1) a y e z A0 A0 c m
  .have:i=hi:=by lia
   subst this;rw[k]at c;cases c;exact le
 exact λi j a b e f o n c g=>(d i a e f c).trans (d j b o n g).symm
theorem DeR.kr{lo hi:Nat}(h:DeR rk arr lo hi)(k:Kr rk arr arr'):DeR rk arr' lo hi:=λi j a b n l m f g=>by
 refine xea (k i a f) λc d o=>xea (k j b g) λb' e p=>?_;rw[o,p];exact h i j c b' n l m d e
theorem EqR.mir{lo hi:Nat}(h:EqR rk arr lo hi)(b:hi<=arr.size):Kr rk arr (mirror arr lo hi ((hi-lo)/2)):=λk c e=>by
 have g:=getElem?_mirror_all (xs:=arr) (i:=lo) b k;rw[g]at e;split at e
 .rename_i q;obtain⟨x,a⟩:∃x,arr[k]?=o3 x:=⟨_,C3 A0⟩
  exact⟨x,a,h _ _ _ _ A0 A0 q.1 q.2 e a⟩
 .exact⟨c,e,Z⟩
theorem OK{i j lo hi:Nat}(d:lo<=i)(c:j<=hi)(b:hi<=arr.size):Rea arr (mirror arr i j ((j-i)/2)) lo hi:=⟨V9.mp (mirror_perm _ _ _ _),λk a=>by
 rw[getElem?_mirror_all A0];by_cases q:i<=k/\k<j
 .lia
 .rw[A0c q]⟩
theorem DeR.mir{lo hi:Nat}(h:DeR rk arr lo hi)(e:hi<=arr.size):SoR rk (mirror arr lo hi ((hi-lo)/2)) lo hi:=λi j a b k f g c d=>by
 rw[getElem?_mirror_all e,A0e A0]at c d;exact h _ _ b a A0 A0 A0 d c
theorem RU{st:SortSt}{i j:Nat}(h:Q () (setArr st (mirror (arrOf st) i j ((j-i)/2)))):wpS (model prog w) A E s (reverseSlice' i j) Q st:=by
 rw[reverseSlice'_eq];exact A5a h
theorem Uu{st:SortSt}{lo d:Nat}(hl:MZ prog w A E s rk S κ)(Y:kindOf st=κ)(hz:lo+d<=(arrOf st).size)(h1:1<=d)(g:∀(i:Nat) x,(arrOf st)[i]?=o3 x->S x)
  (k:∀arr' m,Rea (arrOf st) arr' lo (lo+d)->1<=m->m<=d->SoR rk arr' lo (lo+m)->Q (o3 m) (setArr st arr')):wpS (model prog w) A E s (countRun' lo d) Q st:=by
 refine A0g (A4a (A3a (I:=λx c e=>e=setArr st (arrOf st)/\c=(o4,x)/\SoR rk (arrOf st) lo (lo+x)) (Q:=λc e=>e=setArr st (arrOf st)/\∃n,c=(o4,n)/\1<=n/\n<=d/\SoR rk (arrOf st) lo (lo+n)/\(n=d\/∀x y,(arrOf st)[lo+n]?=o3 x->(arrOf st)[lo+n-1]?=o3 y->rk x<rk y)) ?_ ?_ ⟨Z,Z,?_⟩) ?_)
 .intro x c e aa hx ad;refine xa2 ad λu D v=>?_;clear ad;subst u;subst D;obtain⟨a,r⟩:∃a,(arrOf st)[lo+x]?=o3 a:=⟨_,C3 A0⟩
  obtain⟨b,l⟩:∃b,(arrOf st)[lo+x-1]?=o3 b:=⟨_,C3 A0⟩
  refine A0g (Lw hl Y r l (g _ _ r) (g _ _ l) (wpI (λlt=>A1a ⟨Z,x,Z,by lia,by lia,v,.inr λp q ep eq=>by rw[r]at ep;rw[l]at eq;cases ep;cases eq;exact A2b lt⟩) λlt=>?_));have lt:=λz=>lt (A0d z);exact A1a ⟨Z,Z,v.snoc A0 r l A0⟩
 .intro c e ae;refine xa2 ae λu D v=>?_;clear ae;subst u;subst D;rw[Nat.max_eq_right A0]at v⊢;exact⟨Z,d,Z,h1,C0 _,v,.inl Z⟩
 .exact SoR.one
 .intro c e af;refine Jy af λu n G o=>?_;refine xa3 o λn1 n2 v K=>?_;clear o;clear af;subst u;subst G;refine wpE (λq1=>A1a (k (arrOf st) n (Rea.refl _ _ _) n1 n2 v)) λq1=>?_;have K:=K.resolve_left q1;obtain⟨a,r⟩:∃a,(arrOf st)[lo+n]?=o3 a:=⟨_,C3 A0⟩
  obtain⟨b,l⟩:∃b,(arrOf st)[lo+n-1]?=o3 b:=⟨_,C3 A0⟩
  have W:=K a b r l;dsimp -zeta only
  extract_lets n_ q_ jp
  refine wpC (λQ _=>∀F,Rea (arrOf st) F lo (lo+d)->DeR rk F lo (lo+n+1)->wpS (model prog w) A E s (jp ()) Q (setArr st F)) (λF ao al=>?_) λhj=>?_
  .refine A0g (wpS_lift (A6g ⟨Z,?_⟩));refine A0g (A4a (A3a (I:=λx c e=>∃arr' f,e=setArr st arr'/\c=(o4,x,f)/\Rea (arrOf st) arr' lo (lo+d)/\f+1<=x/\DeR rk arr' lo (lo+x)/\EqR rk arr' (lo+x-(f+1)) (lo+x)) (Q:=λc e=>∃arr' n f,e=setArr st arr'/\c=(o4,n,f)/\Rea (arrOf st) arr' lo (lo+d)/\1<=n/\n<=d/\f+1<=n/\DeR rk arr' lo (lo+n)/\EqR rk arr' (lo+n-(f+1)) (lo+n)) ?_ ?_ ⟨F,0,Z,Z,ao,by lia,al,EqR.one (lo:=lo+n)⟩) ?_)
   .intro x c e aa hx ag;refine CB ag λarr' f G H h nq o=>?_;refine xa o λt B=>?_;clear o;clear ag;subst G;subst H;have N:lo+d<=arr'.size:=by rw[Rea.size h];exact hz
    obtain⟨a,r⟩:∃a,arr'[lo+x]?=o3 a:=⟨_,C3 A0⟩
    obtain⟨b,l⟩:∃b,arr'[lo+x-1]?=o3 b:=⟨_,C3 A0⟩
    refine A0g (Lw hl Y r l (Rea.all h g _ _ r) (Rea.all h g _ _ l) (wpI (λlt=>?_) λlt=>?_))
    .have dn:=t.snoc A0 r l (N8 (A2b lt));exact wpI (λq=>A0g (RU (A1a ⟨_,0,Z,Z,Rea.trans h (OK A0 A0 N),by lia,dn.kr (B.mir A0),EqR.one (lo:=lo+x)⟩))) λq=>A1a ⟨arr',0,Z,Z,h,by lia,dn,EqR.one (lo:=lo+x)⟩
    .have lt:=λz=>lt (A0d z);refine A0g (Lw hl Y l r (Rea.all h g _ _ l) (Rea.all h g _ _ r) (wpI (λgt=>A1a ⟨arr',x,f,Z,Z,h,by lia,by lia,nq,t,B⟩) λgt=>?_));have gt:=λz=>gt (A0d z);refine A1a ⟨arr',f+1,Z,Z,h,by lia,t.snoc A0 r l A0,?_⟩;have:=B.snoc A0 r l A0;rw[show lo+(x+1)-(f+1+1)=lo+x-(f+1) by lia];exact this
   .intro c e ah;refine CB ah λarr' f G H h nq o=>?_;refine xa o λt B=>?_;clear o;clear ah;subst G;subst H;rw[Nat.max_eq_right (by show n+1<=d;lia)]at nq t B⊢;exact⟨arr',d,f,Z,Z,h,h1,C0 _,nq,t,B⟩
   .intro c e ai;refine BV ai λarr' L f H an h n1 o=>?_;refine xa3 o λn2 nq t B=>?_;clear o;clear ai;subst H;subst an;have N:lo+d<=arr'.size:=by rw[Rea.size h];exact hz
    dsimp -zeta only
    extract_lets r_ s_ n_ q_ jp2
    refine wpC (λQ _=>∀F,Rea (arrOf st) F lo (lo+d)->DeR rk F lo (lo+L)->wpS (model prog w) A E s (jp2 ()) Q (setArr st F)) (λF T am=>?_) λX=>?_
    .have M:Rea (arrOf st) (mirror F lo (lo+L) ((lo+L-lo)/2)) lo (lo+d):=Rea.trans T (OK (C0 _) A0 (by rw[Rea.size T];exact hz));have ac:=DeR.mir am (by rw[Rea.size T];lia);refine A0g (RU ?_);show wpS _ _ _ _ _ _ (setArr st (mirror F lo (lo+L) ((lo+L-lo)/2)));generalize mirror F lo (lo+L) ((lo+L-lo)/2)=C at M ac;refine A0g (A4a (A3a (I:=λx c e=>e=setArr st C/\c=(o4,x)/\SoR rk C lo (lo+x)) (Q:=λc e=>e=setArr st C/\∃n,c=(o4,n)/\1<=n/\n<=d/\SoR rk C lo (lo+n)) ?_ ?_ ⟨Z,Z,ac⟩) ?_)
     .intro x c e aa hx aj;refine xa2 aj λu D v=>?_;clear aj;subst u;subst D;have N:lo+d<=C.size:=by rw[Rea.size M];exact hz
      obtain⟨a,r⟩:∃a,C[lo+x]?=o3 a:=⟨_,C3 A0⟩
      obtain⟨b,l⟩:∃b,C[lo+x-1]?=o3 b:=⟨_,C3 A0⟩
      refine A0g (Lw hl Y r l (Rea.all M g _ _ r) (Rea.all M g _ _ l) (wpI (λlt=>A1a ⟨Z,x,Z,by lia,by lia,v⟩) λlt=>?_));have lt:=λz=>lt (A0d z);exact A1a ⟨Z,Z,v.snoc A0 r l A0⟩
     .intro c e ak;refine xa2 ak λu D v=>?_;clear ak;subst u;subst D;rw[Nat.max_eq_right n2]at v⊢;exact⟨Z,d,Z,h1,C0 _,v⟩
     .intro c e aq;obtain⟨rfl,m,rfl,m1,m2,v⟩:=aq;exact A1a (k _ m M m1 m2 v)
    .clear_value jp2
     exact wpI (λq=>A0g (RU (X (mirror arr' (lo+L-(f+1)) (lo+L) ((lo+L-(lo+L-(f+1)))/2)) (Rea.trans h (OK A0 A0 N)) (t.kr (B.mir A0))))) λq=>X arr' h t
  .clear_value jp
   refine wpI (λq2=>?_) λq2=>?_
   .obtain⟨z,ez⟩:∃z,(arrOf st)[lo]?=o3 z:=⟨_,C3 A0⟩
    refine A0g (Lw hl Y ez l (g _ _ ez) (g _ _ l) (wpI (λ_=>A1a (k (arrOf st) n (Rea.refl _ _ _) n1 n2 v)) λP=>?_));have P:=λz=>P (A0d z);have V:EqR rk (arrOf st) lo (lo+n):=by
     have ab:∀(i:Nat) x,lo<=i->i<lo+n->(arrOf st)[i]?=o3 x->rk x=rk b:=λi x R ih O=>by
      have:=v lo i z x (C0 _) R ih ez O;have:=v i (lo+n-1) x b R A0 A0 O l;lia
     exact λi j x y R ih lj jh O U=>(ab i x R ih O).trans (ab j y lj jh U).symm
    exact A0g (RU (hj _ (OK (C0 _) A0 hz) (DeR.kr (DeR.snoc (λi j x y R ij jh O U=>K7 (V j i y x A0 jh R A0 U O)) A0 r l (N8 W)) (V.mir A0))))
   .refine hj (arrOf st) (Rea.refl _ _ _) (DeR.snoc (λi j x y R ij jh O U=>?_) A0 r l (N8 W));have:i=j:=by lia
    subst this;rw[O]at U;cases U;exact C0 _
end
end PyProof.Rows
namespace PyProof.Rows
open PySem
def DB(rk:Keyed->Nat)(arr:Array Keyed):List (Nat×Nat×Nat)->Nat->Nat->Prop
|[],a,b=>a=b
|r::l,a,b=>r.1=a/\1<=r.2.1/\SoR rk arr a (a+r.2.1)/\DB rk arr l (a+r.2.1) b
section
variable{prog:N_}{w:Q_}{A:Around}{E:B_}{s:P_}{rk:Keyed->Nat}{S:Keyed->Prop}{κ:SortKind}
theorem DB.le:∀{l:List (Nat×Nat×Nat)}{a b:Nat},DB rk arr l a b->a+l.length<=b
|[],a,b,h=>K7 h
|r::l,a,b,h=>by
 have:=DB.le h.2.2.2;have:=h.2.1;rw[D8];lia
theorem DB.app:∀{l d:List (Nat×Nat×Nat)}{a b c:Nat},DB rk arr l a b->DB rk arr d b c->DB rk arr (l++d) a c
|[],d,a,b,c,h,h2=>by
 cases(show a=b from h);exact h2
|r::l,d,a,b,c,h,h2=>⟨h.1,h.2.1,h.2.2.1,DB.app h.2.2.2 h2⟩
theorem DB.cut:∀{l d:List (Nat×Nat×Nat)}{a c:Nat},DB rk arr (l++d) a c->∃b,DB rk arr l a b/\DB rk arr d b c
|[],d,a,c,h=>⟨a,Z,h⟩
|r::l,d,a,c,h=>by
 exact xea (DB.cut h.2.2.2) λb e f=>⟨b,⟨h.1,h.2.1,h.2.2.1,e⟩,f⟩
theorem DB.out:∀{l:List (Nat×Nat×Nat)}{a b:Nat},DB rk arr l a b->(∀i:Nat,a<=i->i<b->arr'[i]?=arr[i]?)->DB rk arr' l a b
|[],a,b,h,k=>h
|r::l,a,b,h,k=>by
 have:=DB.le h.2.2.2;refine⟨h.1,h.2.1,λi j x y g e f c d=>?_,DB.out h.2.2.2 λi p q=>k i A0 q⟩;rw[k _ A0 A0]at c d;exact h.2.2.1 i j x y g e f c d
theorem DB.last(c:∀r,(f r).1=r.1/\(f r).2.1=r.2.1):∀{l:List (Nat×Nat×Nat)}{a b k:Nat},DB rk arr l a b->DB rk arr (l.modify k f) a b
|[],a,b,k,h=>by
 rw[List.modify_nil];exact h
|r::l,a,b,0,h=>by
 rw[List.modify_zero_cons];refine⟨(c r).1.trans h.1,?_,?_,?_⟩
 .rw[(c r).2];exact h.2.1
 .rw[(c r).2];exact h.2.2.1
 .rw[(c r).2];exact h.2.2.2
|r::l,a,b,k+1,h=>by
 rw[List.modify_succ_cons];exact⟨h.1,h.2.1,h.2.2.1,DB.last c h.2.2.2⟩
theorem aFP{α:Type}{l:List α}{i:Nat}{x y:α}(a:l[i]?=o3 x)(b:l[i+1]?=o3 y):∃c h,l=c++x::y::h/\c.length=i:=by
 have f:=(B9.mp a).1;have g:=(B9.mp b).1;refine⟨l.take i,l.drop (i+2),?_,by rw[J3];lia⟩;have d:l.drop i=x::l.drop (i+1):=by
  rw[Q8 f,(B9.mp a).2]
 have e:l.drop (i+1)=y::l.drop (i+2):=by
  rw[Q8 g,(B9.mp b).2]
 rw[<-e,<-d,X5]
theorem ZT{p:Array (Nat×Nat×Nat)}{i:Nat}{x y z:Nat×Nat×Nat}{a b:List (Nat×Nat×Nat)}(e:p.toList=a++x::y::b)(d:a.length=i):((p.setIfInBounds i z).eraseIdxIfInBounds (i+1)).toList=a++z::b:=by
 subst d;have c:(p.setIfInBounds a.length z).toList=a++z::y::b:=by
  rw[Array.toList_setIfInBounds,e,List.set_append_right _ _ (C0 _),V3];rfl
 have sz:(p.setIfInBounds a.length z).size=a.length+2+b.length:=by
  rw[<-D6,c,C6,D8,D8];lia
 unfold Array.eraseIdxIfInBounds;rw[dif_pos A0,Array.toList_eraseIdx,c,List.eraseIdx_append_of_length_le A0,Y4];rfl
structure Srn(rk:Keyed->Nat)(κ:SortKind)(a0:Array Keyed)(lo:Nat)(st:SortSt):Prop where
kind:kindOf st=κ
fail:failedOf st=o4
pm:(arrOf st).toList.Perm a0.toList
runs:DB rk (arrOf st) (pendingOf st).toList 0 lo
theorem Srn.size{a:Array Keyed}{lo:Nat}{st:SortSt}(h:Srn rk κ a lo st):(arrOf st).size=a.size:=by
 have:=h.pm.length_eq;rw[D6,D6]at this;exact this
theorem Srn.all{lo:Nat}{st:SortSt}(h:Srn rk κ a lo st)(c:∀(i:Nat) x,a[i]?=o3 x->S x)(i:Nat)(x:Keyed)(e:(arrOf st)[i]?=o3 x):S x:=by
 rw[<-M4]at e;obtain⟨j,b⟩:=L7 (h.pm.mem_iff.mp (D5 e));rw[M4]at b;exact c j x b
theorem PV{st:SortSt}{Q:Bool->SortSt->Prop}{i lo:Nat}{e:Array Keyed}(H:MZ prog w A E s rk S κ)(h:Srn rk κ e lo st)(D:∀(i:Nat) x,e[i]?=o3 x->S x)(hi:i+1<(pendingOf st).size)(I:lo<=e.size)
  (k:∀a,Srn rk κ e lo a->(pendingOf a).size+1=(pendingOf st).size->(∀j:Nat,lo<=j->(arrOf a)[j]?=(arrOf st)[j]?)->Q o5 a):wpS (model prog w) A E s (mergeAt' i) Q st:=by
 obtain⟨⟨C,na,P⟩,n⟩:∃x,(pendingOf st)[i]?=o3 x:=⟨_,C3 A0⟩
 obtain⟨⟨U,m,T⟩,o⟩:∃x,(pendingOf st)[i+1]?=o3 x:=⟨_,C3 hi⟩
 refine BJ (aFP (l:=(pendingOf st).toList) (by rw[M4];exact n) (by rw[M4];exact o)) λR N f O=>?_;have b:=h.runs;rw[f]at b;refine xea b.cut λc t b=>xa3 b λr p y b=>xa3 b λd q B b=>?_;dsimp only at r p y d q B b;subst r;have u:=t.le;have v:=b.le;have sz:=h.size;refine Vt H h.kind h.fail n o d p q A0 (h.all D) (d▸y) (d▸B) λa K L M mg=>?_;have pl:=ZT (z:=(C,na+m,P)) f O;rw[<-M]at pl;refine k a ⟨K,L,mg.pm.trans h.pm,?_⟩ ?_ λj g=>mg.out j (.inr A0)
 .rw[pl];refine DB.app (DB.out t λj _ g=>mg.out j (.inl g)) ⟨Z,by show 1<=na+m;lia,?_,?_⟩
  .have:=mg.so;rw[d,Nat.add_assoc]at this;exact this
  .show DB rk (arrOf a) N (C+(na+m)) lo;rw[<-Nat.add_assoc];exact DB.out b λj g _=>mg.out j (.inr A0)
 .have F:=A2f List.length pl;have G:=A2f List.length f;rw[D6,C6,D8]at F;rw[D6,C6,D8,D8]at G;lia
end
end PyProof.Rows
namespace PyProof.Rows
open PySem
section
variable{prog:N_}{w:Q_}{A:Around}{E:B_}{s:P_}{rk:Keyed->Nat}{S:Keyed->Prop}{κ:SortKind}
theorem Srn.push{lo n b:Nat}{st:SortSt}(h:Srn rk κ a lo st)(c:1<=n)(d:SoR rk (arrOf st) lo (lo+n)):Srn rk κ a (lo+n) (setPending st ((pendingOf st).push (lo,n,b))) :=
 ⟨h.kind,h.fail,h.pm,by
  show DB rk (arrOf st) ((pendingOf st).push (lo,n,b)).toList 0 (lo+n);rw[M7];exact DB.app h.runs ⟨Z,c,d,Z⟩⟩
theorem Srn.last{lo k:Nat}{st:SortSt}(b:∀r,(f r).1=r.1/\(f r).2.1=r.2.1)(h:Srn rk κ a lo st):Srn rk κ a lo (setPending st ((pendingOf st).modify k f)) :=
 ⟨h.kind,h.fail,h.pm,by
  show DB rk (arrOf st) ((pendingOf st).modify k f).toList 0 lo;rw[Array.toList_modify];exact DB.last b h.runs⟩
theorem Tp{st:SortSt}(Y:MZ prog w A E s rk S κ)(hk:kindOf st=κ)(hf:failedOf st=o4)(hp:pendingOf st=#[])(T:∀(i:Nat) x,(arrOf st)[i]?=o3 x->S x)
  (k:∀f,failedOf f=o4->(arrOf f).toList.Perm (arrOf st).toList->SoR rk (arrOf f) 0 (arrOf st).size->Q () f):wpS (model prog w) A E s sortRuns' Q st:=by
 have h0:Srn rk κ (arrOf st) 0 st:=⟨hk,hf,A7g _,by rw[hp];rfl⟩
 generalize e0:arrOf st=o at h0 T k;rw[sortRuns'_eq];refine A0g (A8e ?_);dsimp only;have aj:(arrOf st).size=o.size:=by rw[e0]
 simp only[aj];generalize minRun' o.size o.size 0=mr;refine A0g (A4a (A3a (I:=λx c f=>∃lo,c=(o4,lo)/\Srn rk κ o lo f/\lo<=o.size/\(x<=lo\/o.size<=lo)) (Q:=λc f=>c=(o4,o.size)/\Srn rk κ o o.size f) ?step ?fin ⟨0,Z,h0,by lia,by lia⟩) ?post)
 case fin =>
  intro c f ab;refine Dh ab λlo O B l1 l2=>?_;clear ab;subst O;have:lo=o.size:=by lia
  subst this;exact⟨Z,B⟩
 case step =>
  intro x c f _ hx ac;refine Dh ac λlo O B l1 l2=>?_;clear ac;subst O;dsimp only;by_cases ge:lo ≥ o.size
  .rw[A0e ge];have:lo=o.size:=by lia
   subst this;exact A1a ⟨Z,B⟩
  rw[A0c ge];have sz:=B.size;have D:∀(n:Nat)(v:SortSt),Srn rk κ o lo v->1<=n->lo+n<=o.size->SoR rk (arrOf v) lo (lo+n)->∃K,((o4,lo+n):Option Unit×Nat)=(o4,K)/\Srn rk κ o K (setPending v ((pendingOf v).push (lo,n,0)))/\K<=o.size/\(x+1<=K\/o.size<=K):=λn v X M nl so=>⟨lo+n,Z,X.push M so,nl,by lia⟩
  refine A0g (Uu Y B.kind (show lo+(o.size-lo)<=(arrOf f).size by lia) A0 (B.all T) λarr' m re m1 m2 so=>?_);dsimp only;have F:Srn rk κ o lo (setArr f arr'):=⟨B.kind,B.fail,re.pm.trans B.pm,DB.out B.runs λi _ h=>re.out i (.inl h)⟩
  by_cases few:m<mr
  .rw[A0e few];refine A0g (wpS_lift (A6g ⟨Z,?_⟩));refine A0g (QL Y F.kind (show lo+min (o.size-lo) mr<=(arrOf (setArr f arr')).size by rw[F.size];lia) A0 (F.all T) so λG aa t=>?_);have C:Srn rk κ o lo (setArr f G):=⟨B.kind,B.fail,aa.pm.trans F.pm,DB.out F.runs λi _ h=>aa.out i (.inl h)⟩
   generalize hn:min (o.size-lo) mr=n at t⊢;have M:1<=n:=by lia
   have nl:lo+n<=o.size:=by lia
   simp only[K2,N3,A4h];have t:SoR rk (arrOf (setArr f G)) lo (lo+n):=t;generalize setArr f G=v at C t⊢;refine A0g (A8e ?_);cases hb:(pendingOf v).back? with
   |none =>
    dsimp only;exact A0g (A5a (A1a (D n v C M nl t)))
   |some r =>
    obtain⟨s1,ak,p1⟩:=r;dsimp only;refine A0g (A4a (A3a (I:=λ_ c d=>c=(o4,())/\Srn rk κ o lo d/\SoR rk (arrOf d) lo (lo+n)) (Q:=λc d=>c=(o4,())/\Srn rk κ o lo d/\SoR rk (arrOf d) lo (lo+n)) ?_ (λc d h=>h) ⟨Z,C,t⟩) ?_)
    .intro y c d _ _ ad;refine xa2 ad λp H u=>?_;clear ad;subst p;refine A0g (A8e ?_);by_cases g:(pendingOf d).size > 1
     .rw[A0e g];obtain⟨⟨sx,nx,R⟩,e⟩:∃x,(pendingOf d)[(pendingOf d).size-2]?=o3 x:=⟨_,C3 A0⟩
      rw[e];dsimp only;split
      .exact A1a ⟨Z,H,u⟩
      .refine A0g (PV Y H T A0 l1 λst4 P _ keep=>?_);simp only[K2,N3,A4h];refine A1a ⟨Z,P,λi j x y li ij jh V W=>?_⟩;rw[keep _ A0]at V W;exact u i j x y li ij jh V W
     .rw[A0c g];exact A1a ⟨Z,H,u⟩
    .intro c d ae;refine xa2 ae λp H u=>?_;clear ae;subst p;dsimp only;exact A0g (A5a (A0g (A5a (A1a (D n _ (Srn.last (λr=>⟨Z,Z⟩) H) M nl u)))))
  .rw[A0c few];have t:SoR rk (arrOf (setArr f arr')) lo (lo+m):=so;have C:=F;generalize setArr f arr'=v at C t⊢;have M:1<=m:=m1;have nl:lo+m<=o.size:=by lia
   generalize m=n at t M nl⊢;refine A0g (A8e ?_);cases hb:(pendingOf v).back? with
   |none =>
    dsimp only;exact A0g (A5a (A1a (D n v C M nl t)))
   |some r =>
    obtain⟨s1,ak,p1⟩:=r;dsimp only;refine A0g (A4a (A3a (I:=λ_ c d=>c=(o4,())/\Srn rk κ o lo d/\SoR rk (arrOf d) lo (lo+n)) (Q:=λc d=>c=(o4,())/\Srn rk κ o lo d/\SoR rk (arrOf d) lo (lo+n)) ?_ (λc d h=>h) ⟨Z,C,t⟩) ?_)
    .intro y c d _ _ af;refine xa2 af λp H u=>?_;clear af;subst p;refine A0g (A8e ?_);by_cases g:(pendingOf d).size > 1
     .rw[A0e g];obtain⟨⟨sx,nx,R⟩,e⟩:∃x,(pendingOf d)[(pendingOf d).size-2]?=o3 x:=⟨_,C3 A0⟩
      rw[e];dsimp only;split
      .exact A1a ⟨Z,H,u⟩
      .refine A0g (PV Y H T A0 l1 λst4 P _ keep=>?_);simp only[K2,N3,A4h];refine A1a ⟨Z,P,λi j x y li ij jh V W=>?_⟩;rw[keep _ A0]at V W;exact u i j x y li ij jh V W
     .rw[A0c g];exact A1a ⟨Z,H,u⟩
    .intro c d ag;refine xa2 ag λp H u=>?_;clear ag;subst p;dsimp only;exact A0g (A5a (A0g (A5a (A1a (D n _ (Srn.last (λr=>⟨Z,Z⟩) H) M nl u)))))
 case post =>
  intro c f al;obtain⟨rfl,B⟩:=al;dsimp only;refine A0g (A4a (A3a (I:=λx c a=>c=(o4,())/\Srn rk κ o o.size a/\((pendingOf a).size<=1\/(pendingOf a).size+x<=o.size)) (Q:=λc a=>c=(o4,())/\Srn rk κ o o.size a/\(pendingOf a).size<=1) ?_ ?_ ⟨Z,B,?_⟩) ?_)
  .intro x c a _ hx ah;refine xa2 ah λp L X=>?_;clear ah;subst p;refine A0g (A8e ?_);by_cases q:(pendingOf a).size<=1
   .rw[A0e q];exact A1a ⟨Z,L,q⟩
   rw[A0c q];have go:∀i,i+1<(pendingOf a).size->wpS (model prog w) A E s (mergeAt' i) (λb st4=>b=o5/\Srn rk κ o o.size st4/\(pendingOf st4).size+(x+1)<=o.size) a:=λi hi=>PV Y L T hi (C0 _) λst4 P h5 _=>⟨Z,P,by lia⟩
   refine A0g (A4a (go _ ?_) λb st4 h=>?_)
   .repeat' split
    all_goals lia
   .refine xa2 h λp P h5=>?_;clear h;subst p;simp only[K2,N3,A4h];exact A1a ⟨Z,P,.inr h5⟩
  .intro c a ai;refine xa2 ai λp L X=>?_;clear ai;subst p;exact⟨Z,L,by lia⟩
  .have:=B.runs.le;rw[D6]at this;exact .inr A0
  .intro c a N;refine xa2 N λp L X=>?_;clear N;subst p;refine A1a (k a L.fail L.pm ?_);have U:=L.runs;have lz:(pendingOf a).toList.length<=1:=by rw[D6];exact X
   generalize (pendingOf a).toList=l at U lz
   match l,U,lz with
   |[],U,_ =>
    have z:0=o.size:=U;exact λi j x y _ _ h=>absurd h A0
   |[r],U,_ =>
    refine xa3 U λq1 q2 q3 q4=>?_;have:0+r.2.1=o.size:=q4;rw[this]at q3;exact q3
end
end PyProof.Rows
namespace L2
open PySem PySem.W PySem.Spec PyProof.Rows
theorem Ym{α β:Type}{f:β->α}{k l:List α}(h:k.Perm l):∀p:List β,p.map f=l->∃a:List β,a.Perm p/\a.map f=k:=by
 induction h with
 |nil=>exact λp e=>⟨p,A7g _,e⟩
 |cons x _ o =>
  intro p e;cases p with
  |nil=>cases e
  |cons i p =>
   rw[F5]at e;injection e with e1 e2
   exact xea (o p e2) λa b c=>⟨i::a,b.cons i,by rw[F5,c,e1]⟩
 |swap x y l =>
  intro p e
  match p,e with
  |i::j::p,e =>
   rw[F5,F5]at e;injection e with e1 e2
   injection e2 with e2 e3
   exact⟨j::i::p,List.Perm.swap i j p,by rw[F5,F5,e1,e2,e3]⟩
 |trans _ _ d g =>
  intro p e;exact xea (g p e) λq b c=>xea (d q c) λr m n=>⟨r,m.trans b,n⟩
section
variable{prog:N_}{w:Q_}{A:Around}{E:B_}{s:P_}{ks vs:F_}{κ:SortKind}
theorem aCv{Q:SortSt->Shared->Prop}{rk:Nat->Int}{rk':Keyed->Nat}(F:ks.length=vs.length)(o:∀i,i<vs.length->rk i=(rk' (kas_item (ks.toArray.zip vs.toArray) i):Int))(M:∀i j C,i<vs.length->j<vs.length->C (decide (rk i<rk j)) s->kas_ask prog w A κ ks i j C s)
  (k:∀p a,aAa vs.length p->Up rk p vs.length->failedOf a=o4->arrOf a=p.map (kas_item (ks.toArray.zip vs.toArray))->Q a s):wpAny (model prog w) A ((sortRuns').run (SortSt.mk' κ (ks.toArray.zip vs.toArray) #[] 7 o4)) (λr m=>Q r.2 m) E s:=by
 have sz:(ks.toArray.zip vs.toArray).size=vs.length:=by simp[F]
 have whole:((List.range vs.length).map (kas_item (ks.toArray.zip vs.toArray)))=(ks.toArray.zip vs.toArray).toList:=by
  have e:=kas_range (ks.toArray.zip vs.toArray);rw[sz]at e;rw[<-A2f Array.toList e];simp
 have f:∀i,i<vs.length->(kas_item (ks.toArray.zip vs.toArray) i).1=ks.getD i Value.none:=λi hi=>by
  have g:i<ks.length:=by rw[F];exact hi
  unfold kas_item;rw[V6,C3 (by rw[sz];exact hi),D3,C5 g];simp
 have P:MZ prog w A E s rk' (λx=>∃i,i<vs.length/\x=kas_item (ks.toArray.zip vs.toArray) i) κ:=by
  intro x y st S n B O q;refine xea n λi hi t=>?_;clear n;subst t;obtain⟨j,d,rfl⟩:=B;rw[lt'_eq];refine A0g (A8e ?_);rw[O];have c:=M i j (λb m=>m=s/\b=decide (rk i<rk j)) hi d ⟨Z,Z⟩;unfold kas_ask at c;rw[<-f i hi,<-f j d]at c;refine A0g (wpS_lift (A6c (A3e c (λb m h=>?_) λ_ _ x=>x.elim)));obtain⟨rfl,rfl⟩:=h;refine⟨Z,?_⟩;refine A1a ?_;have e:decide (rk i<rk j)=decide (rk' (kas_item (ks.toArray.zip vs.toArray) i)<rk' (kas_item (ks.toArray.zip vs.toArray) j)):=by
   rw[o i hi,o j d];exact decide_eq_decide.mpr Int.ofNat_lt
  rw[e];exact q
 have l:=Tp (st:=SortSt.mk' κ (ks.toArray.zip vs.toArray) #[] 7 o4) (Q:=λ_ a=>Q a s) P Z Z Z (λi x e=>?_) λa N v z=>?_
 .exact A3e l (λr m h=>by obtain⟨rfl,q⟩:=h;exact q) λ_ _ e=>e
 .have hi:i<vs.length:=by
   have:=(M6.mp e).1;rw[sz]at this;exact this
  refine⟨i,hi,?_⟩;have e:=e;unfold kas_item;rw[V6,e];rfl
 .have v:=v;refine xea (Ym v _ whole) λp g L=>?_;have G:p.length=vs.length:=by rw[g.length_eq,O4]
  have D:arrOf a=p.toArray.map (kas_item (ks.toArray.zip vs.toArray)):=by
   apply Array.toList_inj.mp;rw[Array.toList_map];exact L.symm
  refine k p.toArray a ⟨by simpa using G,V9.mpr (by simpa using g)⟩ (λi j R d=>?_) N D;have z:SoR rk' (arrOf a) 0 vs.length:=by
   rw[<-sz];exact z
  have at':∀{i:Nat},i<vs.length->p.toArray.getD i 0<vs.length/\(arrOf a)[i]?=o3 (kas_item (ks.toArray.zip vs.toArray) (p.toArray.getD i 0)):=λ{i} hi=>by
   have u:i<p.length:=by rw[G];exact hi
   have e:p.toArray.getD i 0=p[i]:=by simp[Array.getD,u]
   rw[e];refine⟨by simpa using g.mem_iff.mp (O3 u),?_⟩;rw[D,Array.getElem?_map,List.getElem?_toArray,C5 u];rfl
  obtain⟨H,I⟩:=at' (i:=i) A0;obtain⟨K,b2⟩:=at' d;unfold kk;rw[o _ H,o _ K];exact Int.ofNat_le.mpr (z i j _ _ (J9 _) R d I b2)
end
noncomputable def VB(H:Hp)(v:S_):List Int:=match v with
|.ref u=>(match H u with
 |some (.tup vs)=>vs.filterMap λv=>(match v with|.int n=>o3 n|_=>o4)
 |_=>[])
|_=>[]
theorem YK{ns:I_}(h:H u=o3 (.tup (ns.map V.int))):VB H (.ref u)=ns:=by
 unfold VB;dsimp only;rw[h];dsimp only;clear h;induction ns with
 |nil=>rfl
 |cons n ns a =>
  rw[F5,V2];dsimp only;rw[a]
noncomputable def rkK(H:Hp)(rows:List (List Int))(x:Keyed):Nat:=rows.countP λr=>Da r (VB H x.1)
theorem aE6{H:Hp}{items:List (Addr×List Int)}(a:∀q∈items,H q.1=o3 (.tup (q.2.map V.int))){vs:F_}(b:vs.length=items.length){i:Nat}(hi:i<items.length):Ty (items.map (·.2)) i=(rkK H (items.map (·.2)) (kas_item ((items.map λq=>Value.ref q.1).toArray.zip vs.toArray) i):Int):=by
 have e:(kas_item ((items.map λq=>Value.ref q.1).toArray.zip vs.toArray) i).1=.ref items[i].1:=by
  unfold kas_item;rw[V6,C3 (by simp;lia)];simp
 unfold Ty rkK;rw[e,YK (a _ (O3 hi)),D3,C1,C5 hi];rfl
section
variable{X:Cx}{o0:A_}{σ:St}{H H':Hp}{s:P_}{k:Nat}{f b:R_}{fd:E_}{ps:K_}
theorem aBO {A2:Around} {P:PySem.Fin->Shared->Prop} {E:B_} (F:AL X.prog X.w X.K X.mg X.n9 CX0 k f fd ps LG) (hb:CM X.K fd ps []) (hr:Di k A2) (as:∀s H,Oz X.prog X.w X.K X.mg X.n9 X.A X.stack s H->Oz X.prog X.w X.K X.mg X.n9 A2 X.stack s H) (I:Inv X o0 σ H s) {a:R_} {items:List It3} {n:Nat} (ho:s.heap.get? a=o3 (seqObj "list" (items.map λq=>Value.ref q.a).toArray n)) (fa:DX X o0 H a) (af:∀q∈items,H q.a=o3 (.tup (q.ns.map V.int))) (aq:items.length<=100000)
  (fin:∀(p:Array Nat)(H':Hp)(G:P_)(c:Nat),aAa items.length p->Up (Ty (items.map λq=>[q.y,q.x])) p items.length->Inv X o0 σ H' G->(∀b u,H b=o3 u->H' b=o3 u)->H' a=o4->G.heap.get? a=o3 (seqObj "list" (p.toList.map λi=>(items.map λq=>Value.ref q.a).getD i Value.none).toArray c)->P (.done (.ret .none)) G) :
  wpAny (model X.prog X.w) A2 (ksk_tree a (.ref f) o6) P E s:=by
 have len:(items.map λq=>Value.ref q.a).length=items.length:=B8 _;have ln:items.length<=sizeLine:=D0 aq A6;unfold ksk_tree;refine A0b (listItems_at ho Z (A0b (listUpdate_at ho Z ?_)));have ⟨L,he1⟩:∃L,(s.heap.update a (Obj.mapSeq λ_=>#[])).get? a=o3 (seqObj "list" #[] L):=⟨_,get?_update_seq ho _⟩
 have I1:Inv X o0 σ H {s with heap:=s.heap.update a (Obj.mapSeq λ_=>#[])}:=fa.turn (t':=s.toks) I λc o hc e=>by rw[P3 _ _ _ _ hc];exact e
 generalize s.heap.update a (Obj.mapSeq λ_=>#[])=N at he1 I1⊢;refine A0b (seqEpoch_at he1 Z (A0b (wpAny_newTuple (A0b (wpAny_newList (A6b ?_))))));have I2:Inv X o0 σ H {s with heap:=N.push (seqObj "tuple" (items.map λq=>Value.ref q.a).toArray 0)}:=I1.kept (t':=s.toks) λb o e=>C2 _ e;have aa:=C2 (seqObj "tuple" (items.map λq=>Value.ref q.a).toArray 0) he1;show wpAny (model X.prog X.w) A2 (ksk_rest a (.ref f) o6 (items.map λq=>Value.ref q.a).toArray L (.ref (N.push (seqObj "tuple" (items.map λq=>Value.ref q.a).toArray 0)).objs.size)) P E {s with heap:=(N.push (seqObj "tuple" (items.map λq=>Value.ref q.a).toArray 0)).push (seqObj "list" #[] 0)};generalize N.push (seqObj "tuple" (items.map λq=>Value.ref q.a).toArray 0)=B at I2 aa⊢;have fS:=I2.fpOk (C0 _) (I2.hok.fresh (C0 _));have ae:=C2 (seqObj "list" #[] 0) aa;have ab:(B.push (seqObj "list" #[] 0)).get? B.objs.size=o3 (seqObj "list" #[] 0):=F0 _ Z;have I3:Inv X o0 σ H {s with heap:=B.push (seqObj "list" #[] 0)}:=I2.kept (t':=s.toks) λb o e=>C2 _ e;have R:=V4 (F2 aa);generalize B.push (seqObj "list" #[] 0)=h3 at ae ab I3⊢;generalize B.objs.size=kS at fS ab R⊢;unfold ksk_rest;refine A0b (A6g ?_);rw[List.forIn_toArray];refine A0b (ksk_fold (λj G=>∃(H':Hp)(us:H_)(c:Nat),Inv X o0 σ H' G/\(∀b u,H b=o3 u->H' b=o3 u)/\H' a=o4/\H' kS=o4/\G.heap.get? kS=o3 (seqObj "list" (us.map Value.ref).toArray c)/\G.heap.get? a=o3 (seqObj "list" #[] L)/\us.length=j/\∀(i:Nat) u q,us[i]?=o3 u->items[i]?=o3 q->H' u=o3 (.tup ([q.y,q.x].map V.int))) (items.map λq=>Value.ref q.a) 0 _ ⟨H,[],0,I3,λb u e=>e,fa.1,fS.1,ab,ae,Z,λi u q e=>(nomatch e)⟩ ?_ ?_)
 .intro j x az hx a0;obtain⟨hp,gn,dr,tk,os⟩:=az;obtain⟨H',us,c,g,kp,na,nk,hk,ha,l,O⟩:=a0;have jl:j<items.length:=by have:=(B9.mp hx).1;rw[len]at this;exact this
  rw[C1]at hx;refine xea (D7.mp hx) λq eq W=>?_;subst W;rw[O2]at l⊢;have M:=fa.stay na;have h:=fS.stay nk;have tq:=kp _ _ (af q (D5 eq));have aj:LG [V.ref q.a] H' (λv an=>∃u,v=.ref u/\H' u=o4/\an=upd H' u (.tup [.int q.y,.int q.x])) E0:=⟨q.a,q.x,q.y,q.r,Z,tq,λu hu=>⟨u,Z,hu,Z⟩⟩
  refine A0b (A6c (wpAny_call (A9c (F.run A2 X.stack _ H' ⟨[Value.ref q.a],[]⟩ ([Value.ref q.a]++[]) [V.ref q.a] _ E0 hr (as _ _ g.env0) (hb _ [Value.ref q.a] g.kIn (F.len _ _ _ _ aj)) (show AR [V.ref q.a] [Value.ref q.a]from .cons Z .nil) aj) λr ay D=>?_)));cases r with
  |error e=>exact D.elim
  |ok fl =>
   cases fl with
   |next=>exact D.elim
   |brk=>exact D.elim
   |cont=>exact D.elim
   |ret u =>
    refine CB D λv H2 ax U un ah ak=>?_;refine Jy ak λrv u' ao al=>?_;refine xa al λau ad=>?_;clear ak al;clear D;subst ao;subst ad;obtain⟨hh,g2,d2,t2,aw⟩:=ay;obtain rfl:aw=os:=ax;cases(show _=Value.ref u' from rv);have I4:=g.call (h':=hh) (g':=g2) (d':=d2) (t':=t2) (ch:=[]) un ah U (λb z=>absurd z B0);have ag:=un.keep _ _ hk nk (h.nost g) B0;have ar:=un.keep _ _ ha na (M.nost g) B0;have np:∀{b:R_}{o:HO},H' b=o3 o->upd H' u' (.tup [.int q.y,.int q.x]) b=o3 o:=λ{b o} e=>by rw[Av (As e au)];exact e
    have av:=un.free _ _ ha na B0;have ai:=un.free _ _ hk nk B0;have ⟨c2,hk5⟩:∃c2,(hh.update kS (Obj.mapSeq (·.push (.ref u')))).get? kS=o3 (seqObj "list" ((us.map Value.ref).toArray.push (.ref u')) c2):=⟨_,get?_update_seq ag _⟩
    refine A0b (listUpdate_at ag Z (A0h ⟨Z,upd H' u' (.tup [.int q.y,.int q.x]),us++[u'],c2,(h.stay ai).turn (t':=t2) I4 λb o hb e=>by rw[P3 _ _ _ _ hb];exact e,λb o e=>np (kp b o e),av,ai,?_,?_,by rw[C6,l];rfl,λi u2 q2 eu Y=>?_⟩) (hsz2:=?_))
    .show(hh.update kS _).get? kS=_;rw[hk5];simp
    .show(hh.update kS _).get? a=_;rw[P3 _ _ _ _ (A1b R)];exact ar
    .by_cases hi:i<j
     .rw[M5 A0]at eu;exact np (O i u2 q2 eu Y)
     .have:i=j:=by
       have:=(B9.mp eu).1;rw[C6,l]at this;have:i<j+1:=this;lia
      subst this;rw[J0 A0,l,V3]at eu;cases eu;rw[eq]at Y;cases Y;exact Af
    .simp;lia
 .intro a1 a2;obtain⟨hp,gn,dr,tk,os⟩:=a1;obtain⟨H',us,c,g,kp,na,nk,hk,ha,l,O⟩:=a2;rw[O2,len]at l;have M:=fa.stay na;have h:=fS.stay nk;have lk:(us.map Value.ref).length=(items.map λq=>Value.ref q.a).length:=by rw[B8,len,l]
  refine A0b (listItems_at hk Z ?_);unfold ksk_end;dsimp only;simp only[N3,A4h];have sz:(items.map λq=>Value.ref q.a).toArray.size=items.length:=by rw[F3,len]
  by_cases few:(items.map λq=>Value.ref q.a).toArray.size<2
  .rw[A0e few,A0e few];refine A0b (A0h ?_);rw[StateT.run_pure];refine A0b (A0h ?_);dsimp only;have eo:(arrOf (SortSt.mk' general' ((us.map Value.ref).toArray.zip (items.map λq=>Value.ref q.a).toArray) #[] 7 o4)).map (·.2)=((List.range items.length).toArray.toList.map λi=>(items.map λq=>Value.ref q.a).getD i Value.none).toArray:=by
    rw[sz]at few;clear af fin ho O g hk;show((us.map Value.ref).toArray.zip (items.map λq=>Value.ref q.a).toArray).map (·.2)=_
    match items,us,l,few with
    |[],[],_,_=>simp
    |[v],[u],_,_=>simp
   refine WG (c:=c) g M h R hk ha eo Z (by simp;lia) (by simp;lia) λh' c' I5 h5=>fin (List.range items.length).toArray H' _ c' ⟨by simp,Array.Perm.refl _⟩ (λi j ij hj=>by rw[sz]at few;have e:i=j:=A0;rw[e];exact Int.le_refl _) I5 kp na h5
  .rw[A0c few,A0c few];have two:2<=items.length:=by lia
   have d:∀q∈(us.zip (items.map λq=>[q.y,q.x])),H' q.1=o3 (.tup (q.2.map V.int))/\q.2≠[]:=λq D=>by
    obtain⟨i,hi⟩:=L7 D;rw[W1,C1]at hi;obtain⟨N,B⟩:=hi;refine xea (D7.mp B) λit L e2=>?_;rw[<-e2];exact⟨O i q.1 it N L,by simp⟩
   have z1:((us.zip (items.map λq=>[q.y,q.x])).map λq=>Value.ref q.1)=us.map Value.ref:=by
    show List.map (Value.ref ∘ Prod.fst) _=_;rw[<-M9];rw[List.map_fst_zip (by rw[B8,l];exact C0 _)]
   have zl:(us.zip (items.map λq=>[q.y,q.x])).length=items.length:=by rw[Z9,B8,l,Nat.min_self]
   have z2:((us.zip (items.map λq=>[q.y,q.x])).map (·.2))=items.map λq=>[q.y,q.x]:=List.map_snd_zip (by rw[B8,l];exact C0 _);refine AS (Ro g.hok d) λfs k1 k2 k3=>?_;rw[z1]at k1;refine A0b (kat_kind (T:=.type "int") k1 (by rw[k2,zl];lia) (λv hv=>?_) Z ?_)
   .refine xe2 (k3 v hv) λx t W=>?_;subst W;exact .now
   have ac:(us.map Value.ref).toArray.size<=sizeLine:=by simp;lia
   refine A0b (A3e (aCv (ks:=us.map Value.ref) (vs:=items.map λq=>Value.ref q.a) (κ:=tuples' o5) (rk:=Ty (items.map λq=>[q.y,q.x])) (rk':=rkK H' (items.map λq=>[q.y,q.x])) (Q:=λS G=>G={heap:=hp,gens:=gn,drawn:=dr,toks:=tk,os:=os}/\failedOf S=o4/\∃p,aAa items.length p/\Up (Ty (items.map λq=>[q.y,q.x])) p items.length/\arrOf S=p.map (kas_item ((us.map Value.ref).toArray.zip (items.map λq=>Value.ref q.a).toArray))) lk ?_ ?_ λp S N B h3 h4=>⟨Z,h3,p,by rw[len]at N;exact N,by rw[len]at B;exact B,h4⟩) ?_ λ_ _ e=>e)
   .intro i hi;rw[len]at hi;have:=aE6 (H:=H') (items:=us.zip (items.map λq=>[q.y,q.x])) (λq D=>(d q D).1) (vs:=items.map λq=>Value.ref q.a) (by rw[len,zl]) (i:=i) (by rw[zl];exact hi);rw[z1,z2]at this;exact this
   .intro i j C hi hj cc;rw[len]at hi hj;refine Cm (VV g.hok d (i:=i) (by rw[zl];exact hi)) λb o a4 m L e2 e3 e4 e5=>Cm (VV g.hok d (i:=j) (by rw[zl];exact hj)) λb' o' a5 m' f1 f2 f3 f4 f5=>?_;rw[z1]at L f1;rw[z2]at e5 f5;unfold kas_ask;rw[L,f1];refine kat_lt e2 e4 f2 f4 ?_;rw[ZP (by rw[B8];exact hi)]at cc;have:=WE (prog:=X.prog) (w:=X.w) (A:=A2) (b:=o5) (i:=0) e5 f5 cc;have l1:=e5.length;have l2:=f5.length;rw[B8]at l1 l2;rw[F3,F3,<-l1,<-l2];exact this
   intro a3 G am;obtain⟨⟨⟩,S⟩:=a3;obtain⟨rfl,hf,p,pn,up,ea⟩:=am;dsimp only at hf ea⊢;have eo:=kat_snds lk ea;refine WG (c:=c) g M h R hk ha eo hf (by simp only[F3,B8,D6,pn.sz];exact ln) ac λh' c' I5 h5=>fin p H' _ c' pn up I5 kp na h5
def Qr(out:List It3):Prop:=out.Pairwise λp q=>Da [q.y,q.x] [p.y,p.x]=o6
theorem VA {Q:VK} (F:AL X.prog X.w X.K X.mg X.n9 CX0 k f fd ps LG) (M:CM X.K fd ps []) (hr:Di (k+2) X.A) (I:Inv X o0 σ H s) {p:R_} {items:List It3} (U:SqL X.K H p (items.map λq=>V.ref q.a)) (B:∀q∈items,H q.a=o3 (.tup (q.ns.map V.int))) (r:items.length<=100000)
  (q:∀(L:R_)(out:List It3)(H':Hp),(∀b u,H b=o3 u->H' b=o3 u)->H' L=o4->out.Perm items->Qr out->Q (.ref L) (upd H' L (.lst (out.map λq=>V.ref q.a)))) :
  wpAny (model X.prog X.w) X.A (call (.builtin "sorted") [.ref p] [("key",.ref f)]) (EP X o0 σ Q) X.xe s:=by
 refine AS (I.list U) λD rv pl hz=>?_;have ei:D=items.map λq=>Value.ref q.a:=by
  clear pl hz q U r B;induction items generalizing D with
  |nil=>cases rv;rfl
  |cons it items N =>
   cases rv with
   |cons a1 a2 =>
    cases(show _=Value.ref it.a from a1);rw[F5,N _ a2]
 subst ei;have len:(items.map λq=>Value.ref q.a).length=items.length:=B8 _;have P:items.length<=sizeLine:=D0 r A6;refine PyProof.Rows.call_function_entry_kw kind_sorted plain_sorted entry_sorted (ksk_s1 _ _) ?_;unfold Builtin.«sorted»;refine A0b (m:=checkCount "sorted" 1 1 _) (A0h (A0b (collect_list pl.isList (A0b (wpAny_newList ?_ (by rw[len];exact P))) (by rw[len];exact P))));have G:((s.heap.push (seqObj "list" #[] 0)).update s.heap.objs.size (Obj.mapSeq (· ++ (items.map λq=>Value.ref q.a).toArray))).objs.size=s.heap.objs.size+1:=by
  rw[Heap.size_update];exact size_push' ..
 have h:(((s.heap.push (seqObj "list" #[] 0)).update s.heap.objs.size (Obj.mapSeq (· ++ (items.map λq=>Value.ref q.a).toArray))).push (seqObj "list" (items.map λq=>Value.ref q.a).toArray 0)).get? (s.heap.objs.size+1)=o3 (seqObj "list" (items.map λq=>Value.ref q.a).toArray 0):=by
  have:=F0 ((s.heap.push (seqObj "list" #[] 0)).update s.heap.objs.size (Obj.mapSeq (· ++ (items.map λq=>Value.ref q.a).toArray))) (show(seqObj "list" (items.map λq=>Value.ref q.a).toArray 0).isFreed=o6 from Z);rw[G]at this;exact this
 have t:∀b o,s.heap.get? b=o3 o->(((s.heap.push (seqObj "list" #[] 0)).update s.heap.objs.size (Obj.mapSeq (· ++ (items.map λq=>Value.ref q.a).toArray))).push (seqObj "list" (items.map λq=>Value.ref q.a).toArray 0)).get? b=o3 o:=λb o e =>
  C2 _ (by rw[P3 _ _ _ _ (J8 (F2 e))];exact C2 _ e)
 show wpAny (model X.prog X.w) _ _ _ _ {s with heap:=(((s.heap.push (seqObj "list" #[] 0)).update s.heap.objs.size (Obj.mapSeq (· ++ (items.map λq=>Value.ref q.a).toArray))).push (seqObj "list" (items.map λq=>Value.ref q.a).toArray 0))};rw[G];have R:=I.kept (t':=s.toks) t;have v:DX X o0 H (s.heap.objs.size+1):=I.fpOk (S7 _) (I.hok.fresh (S7 _));generalize ((s.heap.push (seqObj "list" #[] 0)).update s.heap.objs.size (Obj.mapSeq (· ++ (items.map λq=>Value.ref q.a).toArray))).push (seqObj "list" (items.map λq=>Value.ref q.a).toArray 0)=h1 at h R⊢;refine A0b (A6b (PyProof.Rows.wpAny_call_entry_kw slot_list_sort ⟨_,h,Z⟩ entry_list_sort ?_ (ksk_l1 _ _)));rw[ksk_t1];refine aBO F M hr.in1.in1 (λs H e=>e.in1.in1) R h v B r λg H' s' c Y up I' kp na ha=>⟨_,Z,A0h ⟨_,Z,?_⟩⟩
 have E:g.toList.Perm (List.range items.length):=by simpa using Y.pm.toList
 have sz:g.size=items.length:=Y.sz;have lt:∀i∈g.toList,i<items.length:=λi hi=>by simpa using (E.mem_iff).mp hi
 let d:It3:=⟨0,0,0,[]⟩
 have out:(g.toList.map λi=>items.getD i d).Perm items:=by
  refine(E.map _).trans (List.Perm.of_eq (List.ext_getElem? λi=>?_));rw[C1];by_cases hi:i<items.length
  .rw[R4 hi,C5 hi];show o3 (items.getD i d)=_;rw[D3,C5 hi];rfl
  .rw[S4 (by simpa using hi),S4 A0];rfl
 have rows:Qr (g.toList.map λi=>items.getD i d):=by
  refine W0.mpr λi j hi C ij=>?_;rw[B8,D6,sz]at hi C;have u:=up i j (N8 ij) C;have gi:g.getD i 0=g[i]'A0:=by simp[Array.getD,sz,hi]
  have gj:g.getD j 0=g[j]'A0:=by simp[Array.getD,sz,C]
  have W:=lt _ (O3 (l:=g.toList) (n:=i) (by rw[D6];lia));have O:=lt _ (O3 (l:=g.toList) (n:=j) (by rw[D6];lia));rw[Q9]at W O;unfold kk at u;rw[gi,gj]at u;rw[Y6,Y6,Q9,Q9];generalize g[i]=a at *
  generalize g[j]=b at *
  have:=ZP (rows:=items.map λq=>[q.y,q.x]) (i:=b) (j:=a) (by rw[B8];exact O);rw[A0f A0]at this;have S:∀{c:Nat},c<items.length->(items.map λq=>[q.y,q.x]).getD c []=[(items.getD c d).y,(items.getD c d).x]:=λ{c} hc=>by
   rw[D3,C1,D3,C5 hc];rfl
  rw[S O,S W]at this;exact this.symm
 refine⟨.ref (s.heap.objs.size+1),_,I'.track (o:=.lst ((g.toList.map λi=>items.getD i d).map λq=>V.ref q.a)) na (P0 (D0 I.sz (S7 _))) (P0 (D0 I.ok.bsz (D0 I.sz (S7 _)))) (A1b v.2.1) v.2.2.2.2.1 v.2.2.2.2.2 (λb M z=>v.2.2.1 (z▸M)) ⟨by rw[B8,B8,D6,sz];exact P,_,c,?_,ha⟩,Z,q (s.heap.objs.size+1) _ H' kp na out rows⟩;have:∀{l:J_},(∀i∈l,i<items.length)->AR ((l.map λi=>items.getD i d).map λq=>V.ref q.a) (l.map λi=>(items.map λq=>Value.ref q.a).getD i Value.none):=by
  intro l;induction l with
  |nil=>intro _;exact .nil
  |cons i l N =>
   intro T;refine .cons ?_ (N λj C=>T j (C9 _ C));have hi:=T i (C8 ..);show Bf (V.ref (items.getD i d).a) ((items.map λq=>Value.ref q.a).getD i Value.none);rw[D3,D3,C1,C5 hi];rfl
 exact this lt
def aFM(K:O_)(t:TA):TE:=fun σ H Q=>t σ H λvs H1=>∃(p:R_)(items:List It3),vs=[.ref p]/\SqL K H1 p (items.map λq=>V.ref q.a)/\items.length<=100000/\(∀q∈items,H1 q.a=o3 (.tup (q.ns.map V.int)))/\∀(L:R_)(out:List It3)(H':Hp),(∀b u,H1 b=o3 u->H' b=o3 u)->H' L=o4->out.Perm items->Qr out->Q (.ref L) (upd H' L (.lst (out.map λq=>V.ref q.a)))
theorem Pq{t:TA}{p kp kpos pos:Pos}(c:Cal X.prog X.w X.K X.mg X.n9 CX0 k a ps LG)(S:Di (k+2) X.A)(N:Gl X "sorted")(P:X.mg "sorted" = o4)(i:Gl X a)(E:PA X [e] t)(L:(a==("__debug__" : Str))=o6:=by decide)
  (M:backTo pos (starEach [e] X.env)=(o6,eval e X.env)::backTo pos (starEach [] X.env):=by rfl) (m:(backTo pos (starEach [e] X.env)).any (·.1)=o6:=by rfl):PE X (.Call (.Name "sorted" p) [e] [⟨o3 "key",.Name a kp,kpos⟩] pos) (aFM X.K t):=by
 intro o0 s σ H Q I h;refine CC c.ex λf fd F l O G=>A5f (Lh I N P PyProof.Rows.boot_sorted ?_);refine PyProof.Rows.callWith_kw (thn (E pos o0 s σ H _ I h) λus W ⟨vs,n,v,U,r⟩=>?_) M m Z Z;refine CB r λT items d R g j q=>?_;clear r;subst d;refine thn (aCq (nm:=o3 "key") (kpos:=kpos) (aCn (pos:=kp) i l L) aEz pos o0 W σ n (λu o=>u=[.ref f]/\o=n) v ⟨Z,Z⟩) λws Y ⟨u,o,x,V,C,D⟩=>?_;subst C;subst D;cases U with
 |cons y z =>
  cases z;cases(show _=Value.ref T from y);cases V with
  |cons B b2 =>
   cases b2;cases(show _=Value.ref f from B);exact VA F G S x R j g q
end
end L2
namespace J
open PySem L2
theorem asI{N P:K_}{c:Scope}(a:c.kind=.function:=by rfl)(b:c.isCoroutine=o6:=by rfl)(d:c.isGenerator=o6:=by rfl)(e:N.Nodup:=by decide +kernel)(f:N.take P.length=P:=by rfl)(g:∀x∈P,c.names.lookup x=o3 .local∨c.names.lookup x=o3 .cell:=by decide +kernel)(h:∀y∈c.names,y.2≠.free:=by decide +kernel):Au N P c:=⟨a,b,d,e,f,g,h⟩
noncomputable def top(i:Nat):Stmt:=PySem.Challenge.pw_jumpfield_k55_whole_jump_is_plain_steps.main.body.getD i (.Pass ⟨0,0,0,0⟩)
noncomputable abbrev LT:Stmt:=top 12
noncomputable abbrev Vk:List Str:=["thing"]
theorem Tr:Au Vk Vk (Ah LT):=asI
noncomputable abbrev LU:Stmt:=top 19
theorem Ts:Au Vk Vk (Ah LU):=asI
noncomputable abbrev RT:Stmt:=top 20
noncomputable abbrev dS:List Str:=["wanted","state"]
theorem ZL:Au dS dS (Ah RT):=asI
noncomputable abbrev ER:Stmt:=top 24
noncomputable abbrev LK:List Str:=["text","words","cell","conditions"]
noncomputable abbrev Ih:List Str:=["text"]
theorem Eh:Au LK Ih (Ah ER):=asI
noncomputable abbrev IL:Stmt:=top 25
noncomputable abbrev Sf:List Str:=["word"]
theorem Qv:Au Sf Sf (Ah IL):=asI
noncomputable abbrev GX:Stmt:=top 26
theorem Pd:Au Sf Sf (Ah GX):=asI
noncomputable abbrev EB:Stmt:=top 27
theorem Mr:Au Sf Sf (Ah EB):=asI
noncomputable abbrev FT:Stmt:=top 28
noncomputable abbrev PH:List Str:=["word","parts"]
theorem Jr:Au PH Sf (Ah FT):=asI
noncomputable abbrev FS:Stmt:=top 29
noncomputable abbrev PF:List Str:=["signs","numbers","sign"]
noncomputable abbrev Gg:List Str:=["signs"]
theorem Fn:Au PF Gg (Ah FS):=asI
noncomputable abbrev EQ:Stmt:=top 30
theorem Pe:Au Sf Sf (Ah EQ):=asI
noncomputable abbrev GW:Stmt:=top 33
noncomputable abbrev QB:List Str:=["box","dx","dy"]
theorem Pc:Au QB QB (Ah GW):=asI
noncomputable abbrev Do:Stmt:=top 34
noncomputable abbrev Fd:List Str:=["boxes","left","top","right","bottom"]
noncomputable abbrev GL:List Str:=["boxes"]
theorem Ei:Au Fd GL (Ah Do):=asI
noncomputable abbrev GY:Stmt:=top 39
noncomputable abbrev QD:List Str:=["box","limit"]
theorem Pf:Au QD QD (Ah GY):=asI
noncomputable abbrev LS:Stmt:=top 40
noncomputable abbrev Vj:List Str:=["grove","field"]
theorem Tq:Au Vj Vj (Ah LS):=asI
noncomputable abbrev IO:Stmt:=top 41
noncomputable abbrev Si:List Str:=["grove"]
theorem Qw:Au Si Si (Ah IO):=asI
noncomputable abbrev Ni:Stmt:=top 42
noncomputable abbrev Yy:List Str:=["grove","square","level","parts","bare"]
noncomputable abbrev Lr:List Str:=["grove","square"]
theorem IH:Au Yy Lr (Ah Ni):=asI
noncomputable abbrev Nj:Stmt:=top 43
noncomputable abbrev Yz:List Str:=["grove","square","kept"]
theorem LQ:Au Yz Lr (Ah Nj):=asI
noncomputable abbrev GH:Stmt:=top 44
noncomputable abbrev Oh:List Str:=["grove","square","inner"]
theorem Ms:Au Oh Lr (Ah GH):=asI
noncomputable abbrev EC:Stmt:=top 45
noncomputable abbrev NE:List Str:=["grove","square","bare","place","quarter","part_place","part"]
theorem BS:Au NE Lr (Ah EC):=asI
noncomputable abbrev FR:Stmt:=top 46
noncomputable abbrev PD:List Str:=["grove","field","box","wide"]
noncomputable abbrev Ge:List Str:=["grove","field","box"]
theorem Fl:Au PD Ge (Ah FR):=asI
noncomputable abbrev IJ:Stmt:=top 47
noncomputable abbrev Sd:List Str:=["grove","field","level","wide"]
noncomputable abbrev IZ:List Str:=["grove","field","level"]
theorem GU:Au Sd IZ (Ah IJ):=asI
noncomputable abbrev Nk:Stmt:=top 48
noncomputable abbrev YA:List Str:=["grove","field","x","y","state","place","wide","half"]
noncomputable abbrev Ny:List Str:=["grove","field","x","y","state"]
theorem II:Au YA Ny (Ah Nk):=asI
noncomputable abbrev LR:Stmt:=top 49
noncomputable abbrev Vi:List Str:=["grove","square","x","y","state","level","half","parts","place"]
noncomputable abbrev Gf:List Str:=["grove","square","x","y","state"]
theorem DY:Au Vi Gf (Ah LR):=asI
noncomputable abbrev LW:Stmt:=top 50
noncomputable abbrev Vn:List Str:=["grove","cells","field","cell"]
noncomputable abbrev Mf:List Str:=["grove","cells"]
theorem GG:Au Vn Mf (Ah LW):=asI
noncomputable abbrev Nl:Stmt:=top 53
noncomputable abbrev YB:List Str:=["cell"]
theorem UY:Au YB YB (Ah Nl):=asI
noncomputable abbrev LY:Stmt:=top 54
noncomputable abbrev Vp:List Str:=["grove","field","reach","cells"]
theorem JG:Au Vp Vj (Ah LY):=asI
noncomputable abbrev FU:Stmt:=top 55
noncomputable abbrev PJ:List Str:=["grove","square","left","top","cells","level","half","place","quarter"]
noncomputable abbrev Ds:List Str:=["grove","square","left","top","cells"]
theorem Cs:Au PJ Ds (Ah FU):=asI
noncomputable abbrev Pl:Stmt:=top 56
noncomputable abbrev dQ:List Str:=["grove","field","box","reach"]
theorem Nf:Au dQ Vj (Ah Pl):=asI
noncomputable abbrev Vb:Stmt:=top 58
noncomputable abbrev dW:List Str:=["jumps","field","n","tuples"]
noncomputable abbrev Ve:List Str:=["jumps","field","n"]
theorem Wn:Au dW Ve (Ah Vb):=asI
noncomputable abbrev Va:Stmt:=top 59
noncomputable abbrev dU:List Str:=["jumps","field","n","grove","told","here","rest","e","square","result"]
theorem Eg:Au dU Ve (Ah Va):=asI
noncomputable abbrev IN:Stmt:=top 60
noncomputable abbrev Sh:List Str:=["grove","field","n","box"]
noncomputable abbrev Jc:List Str:=["grove","field","n"]
theorem LH:Au Sh Jc (Ah IN):=asI
noncomputable abbrev JI:Stmt:=top 61
noncomputable abbrev TX:List Str:=["grove","field","e","reach","level"]
noncomputable abbrev JQ:List Str:=["grove","field","e"]
theorem FF:Au TX JQ (Ah JI):=asI
noncomputable abbrev FV:Stmt:=top 65
theorem Oo:Au Ih Ih (Ah FV):=asI
noncomputable abbrev JH:Stmt:=top 66
noncomputable abbrev TW:List Str:=["text","rule"]
theorem Mq:Au TW Ih (Ah JH):=asI
noncomputable abbrev LX:Stmt:=top 67
noncomputable abbrev Vo:List Str:=["rule","cell","around","number","clause"]
noncomputable abbrev Mg:List Str:=["rule","cell","around"]
theorem JF:Au Vo Mg (Ah LX):=asI
noncomputable abbrev Nm:Stmt:=top 68
noncomputable abbrev YC:List Str:=["rule","cell","around","number"]
theorem Pg:Au YC Mg (Ah Nm):=asI
noncomputable abbrev IK:Stmt:=top 69
noncomputable abbrev Se:List Str:=["rule"]
theorem Qu:Au Se Se (Ah IK):=asI
noncomputable abbrev IM:Stmt:=top 72
noncomputable abbrev Sg:List Str:=["grove","square","parts","a","b","c","d"]
theorem Dc:Au Sg Lr (Ah IM):=asI
noncomputable abbrev LV:Stmt:=top 73
noncomputable abbrev Vm:List Str:=["nine"]
theorem Tt:Au Vm Vm (Ah LV):=asI
noncomputable abbrev DD:Stmt:=top 74
noncomputable abbrev LD:List Str:=["grove","four","parts"]
noncomputable abbrev CH:List Str:=["grove","four"]
theorem Fa:Au LD CH (Ah DD):=asI
noncomputable abbrev Nn:Stmt:=top 77
noncomputable abbrev YD:List Str:=["_law_script","_law_k"]
theorem UZ:Au YD YD (Ah Nn):=asI
noncomputable abbrev LZ:Stmt:=top 78
noncomputable abbrev Vq:List Str:=["_law_cell","_law_k","_law_value"]
noncomputable abbrev Gk:List Str:=["_law_cell","_law_k"]
theorem Oc:Au Vq Gk (Ah LZ):=asI
noncomputable abbrev Fo:Stmt:=top 79
noncomputable abbrev Ou:List Str:=["_law_mains","_law_value"]
theorem Ng:Au Ou Ou (Ah Fo):=asI
noncomputable abbrev CG:Stmt:=top 80
noncomputable abbrev FC:List Str:=["_law_mains","_law_seed","_law_j","_law_wanted","_law_k","_law_value","_law_mask"]
noncomputable abbrev DF:List Str:=["_law_mains","_law_seed","_law_j"]
theorem BM:Au FC DF (Ah CG):=asI
noncomputable abbrev ED:Stmt:=top 81
noncomputable abbrev NF:List Str:=["_law_mains","_law_seed","_law_j","_law_taken","_law_conditions","_law_k"]
theorem Ct:Au NF DF (Ah ED):=asI
noncomputable abbrev IQ:Stmt:=top 82
noncomputable abbrev Sl:List Str:=["_law_condition","_law_around","_law_k","_law_many","_law_state"]
noncomputable abbrev Je:List Str:=["_law_condition","_law_around"]
theorem DI:Au Sl Je (Ah IQ):=asI
noncomputable abbrev FW:Stmt:=top 83
noncomputable abbrev PM:List Str:=["_law_clauses","_law_cell","_law_around","_law_at_here","_law_fits","_law_condition"]
noncomputable abbrev Gm:List Str:=["_law_clauses","_law_cell","_law_around"]
theorem CV:Au PM Gm (Ah FW):=asI
noncomputable abbrev FY:Stmt:=top 84
noncomputable abbrev PP:List Str:=["_law_clauses","_law_cell","_law_around","_law_at_here"]
theorem Js:Au PP Gm (Ah FY):=asI
noncomputable abbrev En:Stmt:=top 85
noncomputable abbrev MF:List Str:=["_law_script","_law_first","_law_many","_law_mains","_law_clauses","_law_k"]
noncomputable abbrev Et:List Str:=["_law_script","_law_first","_law_many"]
theorem Ce:Au MF Et (Ah En):=asI
noncomputable abbrev Fb:Stmt:=top 86
noncomputable abbrev Lb:List Str:=["_law_condition"]
theorem RP:Au Lb Lb (Ah Fb):=asI
noncomputable abbrev GI:Stmt:=top 87
noncomputable abbrev Ol:List Str:=["_law_clauses","_law_parts","_law_clause","_law_words"]
noncomputable abbrev JT:List Str:=["_law_clauses"]
theorem FG:Au Ol JT (Ah GI):=asI
noncomputable abbrev FX:Stmt:=top 88
noncomputable abbrev PN:List Str:=["_law_cell"]
theorem Op:Au PN PN (Ah FX):=asI
noncomputable abbrev GZ:Stmt:=top 89
noncomputable abbrev QE:List Str:=["_law_states","_law_some","_law_place"]
noncomputable abbrev Ii:List Str:=["_law_states"]
theorem FQ:Au QE Ii (Ah GZ):=asI
noncomputable abbrev DZ:Stmt:=top 90
noncomputable abbrev GO:List Str:=["_law_clauses","_law_states","_law_offsets","_law_found","_law_xs","_law_ys","_law_y","_law_x","_law_around","_law_state"]
noncomputable abbrev JU:List Str:=["_law_clauses","_law_states"]
theorem BX:Au GO JU (Ah DZ):=asI
noncomputable abbrev Fp:Stmt:=top 91
noncomputable abbrev Ov:List Str:=["_law_script","_law_first","_law_many","_law_left","_law_top","_law_mains","_law_states","_law_k","_law_value"]
noncomputable abbrev Ft:List Str:=["_law_script","_law_first","_law_many","_law_left","_law_top"]
theorem CI:Au Ov Ft (Ah Fp):=asI
noncomputable abbrev JJ:Stmt:=top 92
theorem RQ:Au PN PN (Ah JJ):=asI
noncomputable abbrev IP:Stmt:=top 93
noncomputable abbrev Sj:List Str:=["_law_found","_law_due","_law_k","_law_number"]
noncomputable abbrev Jd:List Str:=["_law_found","_law_due"]
theorem GV:Au Sj Jd (Ah IP):=asI
noncomputable abbrev ZM:Stmt:=top 94
noncomputable abbrev aGL:List Str:=["_law_script","_law_clauses","_law_n","_law_many","_law_left","_law_states","_law_cells","_law_k","_law_due","_law_grove","_law_rule","_law_jumps","_law_field","_law_found","_law_other","_law_second","_law_twin"]
noncomputable abbrev aDg:List Str:=["_law_script"]
theorem Co:Au aGL aDg (Ah ZM):=asI
noncomputable abbrev Gb:Stmt:=Bd (top 21) 0
noncomputable abbrev PU:List Str:=["self","state","numbers"]
theorem Ot:Au PU PU (Ah Gb):=asI
noncomputable abbrev Fq:Stmt:=Bd (top 21) 1
noncomputable abbrev Ow:List Str:=["self","around"]
theorem Nh:Au Ow Ow (Ah Fq):=asI
noncomputable abbrev Ia:Stmt:=Bd (top 22) 0
noncomputable abbrev QF:List Str:=["self","wanted"]
theorem Ph:Au QF QF (Ah Ia):=asI
noncomputable abbrev Eo:Stmt:=Bd (top 22) 1
theorem Oq:Au Ow Ow (Ah Eo):=asI
noncomputable abbrev Id:Stmt:=Bd (top 23) 0
noncomputable abbrev QJ:List Str:=["self","cell","conditions","makes"]
theorem Pj:Au QJ QJ (Ah Id):=asI
noncomputable abbrev ET:Stmt:=Bd (top 23) 1
noncomputable abbrev LL:List Str:=["self","cell","around"]
theorem Pk:Au LL LL (Ah ET):=asI
noncomputable abbrev IV:Stmt:=Bd (top 35) 0
noncomputable abbrev Su:List Str:=["self","state","level","bare"]
noncomputable abbrev Jh:List Str:=["self"]
theorem EO:Au Su Jh (Ah IV):=asI
noncomputable abbrev IU:Stmt:=Bd (top 35) 1
noncomputable abbrev Ss:List Str:=["self","parts","level","number"]
noncomputable abbrev FJ:List Str:=["self","parts","level"]
theorem LI:Au Ss FJ (Ah IU):=asI
noncomputable abbrev Ga:Stmt:=Bd (top 35) 2
noncomputable abbrev PR:List Str:=["self","parts","number"]
noncomputable abbrev Ba:List Str:=["self","parts"]
theorem Ju:Au PR Ba (Ah Ga):=asI
noncomputable abbrev Dq:Stmt:=Bd (top 35) 3
noncomputable abbrev Lg:List Str:=["self","square"]
theorem JA:Au Lg Lg (Ah Dq):=asI
noncomputable abbrev IT:Stmt:=Bd (top 35) 4
noncomputable abbrev Sr:List Str:=["self","state"]
theorem Qz:Au Sr Sr (Ah IT):=asI
noncomputable abbrev Ic:Stmt:=Bd (top 35) 6
noncomputable abbrev QH:List Str:=["self","level","state","square","below"]
noncomputable abbrev Il:List Str:=["self","level","state"]
theorem El:Au QH Il (Ah Ic):=asI
noncomputable abbrev EF:Stmt:=Bd (top 35) 7
theorem Mu:Au Lg Lg (Ah EF):=asI
noncomputable abbrev EE:Stmt:=Bd (top 35) 9
theorem Mt:Au Lg Lg (Ah EE):=asI
noncomputable abbrev FZ:Stmt:=Bd (top 35) 10
theorem Os:Au Lg Lg (Ah FZ):=asI
noncomputable abbrev DO:Stmt:=Bd (top 35) 11
noncomputable abbrev Jx:List Str:=["self","square","amount"]
theorem Dv:Au Jx Lg (Ah DO):=asI
noncomputable abbrev IS:Stmt:=Bd (top 35) 12
theorem Qy:Au Lg Lg (Ah IS):=asI
noncomputable abbrev ES:Stmt:=Bd (top 35) 13
noncomputable abbrev QI:List Str:=["self","square","box"]
theorem Em:Au QI Lg (Ah ES):=asI
noncomputable abbrev Dx:Stmt:=Bd (top 35) 14
noncomputable abbrev NI:List Str:=["self","square","level","half","boxes","place","quarter","box"]
theorem BE:Au NI Lg (Ah Dx):=asI
noncomputable abbrev GJ:Stmt:=Bd (top 64) 0
noncomputable abbrev Om:List Str:=["self","text"]
theorem RS:Au Om Om (Ah GJ):=asI
noncomputable abbrev IR:Stmt:=Bd (top 75) 0
noncomputable abbrev Sm:List Str:=["self","grove","rule"]
theorem Qx:Au Sm Sm (Ah IR):=asI
noncomputable abbrev Ep:Stmt:=Bd (top 75) 1
noncomputable abbrev Lf:List Str:=["self","rule","text"]
noncomputable abbrev Gp:List Str:=["self","rule"]
theorem Jt:Au Lf Gp (Ah Ep):=asI
noncomputable abbrev Ib:Stmt:=Bd (top 75) 2
noncomputable abbrev QG:List Str:=["self","square","e"]
theorem Pi:Au QG QG (Ah Ib):=asI
noncomputable abbrev DR:Stmt:=Bd (top 75) 3
noncomputable abbrev Mi:List Str:=["self","square","e","level"]
theorem FA:Au Mi QG (Ah DR):=asI
noncomputable abbrev Dw:Stmt:=Bd (top 75) 4
noncomputable abbrev NG:List Str:=["self","square","e","result"]
theorem Ej:Au NG QG (Ah Dw):=asI
noncomputable abbrev Cw:Stmt:=Bd (top 75) 5
noncomputable abbrev EX:List Str:=["self","square","e","grove","level","nine"]
theorem Ek:Au EX QG (Ah Cw):=asI
noncomputable abbrev Bv:Stmt:=Bd (top 75) 6
noncomputable abbrev Dt:List Str:=["self","square","e","nine"]
theorem Ey:Au Dt QG (Ah Bv):=asI
noncomputable abbrev Dp:Stmt:=Bd (top 75) 7
noncomputable abbrev Le:List Str:=["self","square","parts","a","b","c","d"]
theorem Bl:Au Le Lg (Ah Dp):=asI
noncomputable abbrev CN:Stmt:=Bd (top 75) 8
noncomputable abbrev Gu:List Str:=["self","leaves","leaf","states"]
noncomputable abbrev DW:List Str:=["self","leaves"]
theorem CF:Au Gu DW (Ah CN):=asI
structure Ad where
W_:Addr
e_:Addr
a_:Addr
J5:Addr
l7:Addr
M3:Addr
structure Top(K:O_)(mg:C_)(a:Ad):Prop where
aDT:mg "all" = o4
aAU:mg "bool" = o4
i_:mg "enumerate" = o4
aAM:mg "int" = o4
V_:mg "isinstance" = o4
j_:mg "len" = o4
aAV:mg "list" = o4
aAN:mg "max" = o4
aAK:mg "min" = o4
Y_:mg "range" = o4
aAQ:mg "sorted" = o4
aAR:mg "str" = o4
aFy:mg "sum" = o4
m9:mg "tuple" = o4
aFz:mg "zip" = o4
aAS:∃t,mg "STATES" = o3 (.int 8 t)
aAG:∃t,mg "NEIGHBOURS" = o3 (.int 8 t)
aAJ:∃t,mg "STATE_FIGURES" = o3 (.str (Str.ofString "01234567") t)
aAI:∃t,mg "AMOUNT_FIGURES" = o3 (.str (Str.ofString "012345678") t)
aAW:∃t,mg "ANY_SIGN" = o3 (.str (Str.ofString "*") t)
m_:∃t,mg "TOP_LEVEL" = o3 (.int 48 t)
aAX:∃t,mg "LIMIT" = o3 (.int 1099511627776 t)
h_:∃t,mg "LEAST_LEVEL" = o3 (.int 1 t)
aAP:∃t,mg "MOST_CELLS" = o3 (.int 4096 t)
aAL:∃t,mg "CLAUSE_MARK" = o3 (.str (Str.ofString "; ") t)
f_:∃t,mg "LEAST_JUMPED" = o3 (.int 2 t)
aAY:mg "Amounts" = o3 (.ref a.W_)
aAA:Cls K a.W_
n6:BI K a.W_ "state"
l_:BI K a.W_ "numbers"
aBW:mg "Places" = o3 (.ref a.e_)
aAO:Cls K a.e_
n7:BI K a.e_ "wanted"
aBV:mg "Clause" = o3 (.ref a.a_)
l5:Cls K a.a_
aAC:BI K a.a_ "cell"
k_:BI K a.a_ "conditions"
aAB:BI K a.a_ "makes"
aCM:mg "Grove" = o3 (.ref a.J5)
J4:Cls K a.J5
Q3:BI K a.J5 "levels"
L0:BI K a.J5 "parts"
g_:BI K a.J5 "numbers"
U_:BI K a.J5 "bares"
d_:BI K a.J5 "amounts"
m6:BI K a.J5 "boxes"
aEP:mg "Rule" = o3 (.ref a.l7)
aAF:Cls K a.l7
aAH:BI K a.l7 "text"
l4:BI K a.l7 "clauses"
aCN:mg "Jumps" = o3 (.ref a.M3)
Q1:Cls K a.M3
Q2:BI K a.M3 "grove"
X_:BI K a.M3 "memories"
aAE:BI K a.M3 "rule"
Z_:BI K a.M3 "known_squares"
b_:BI K a.M3 "known_cells"
seal L2.PA L2.PE L2.PS L2.PSs L2.PT L2.PW
inductive Br where
|am (s:Int) (ns:I_)
|pl (ws:List (Option Int))
structure Be where
cell:Option Int
conds:List Br
makes:Int
abbrev AB:=List Be
noncomputable def Ip:Option Int->V
|none=>.non
|some i=>.int i
noncomputable def Dn(w:Option Int)(s:Int):Bool:=match w with
|none=>o5
|some i=>decide (i=s)
noncomputable def Br.holds(ar:I_):Br->Bool
|.am s ns=>ns.any λn=>decide (n=((ar.countP (· == s):Nat):Int))
|.pl ws=>(ws.zip ar).all λp=>Dn p.1 p.2
noncomputable def Be.fits(cell:Int)(ar:I_)(c:Be):Bool:=Dn c.cell cell && c.conds.all (Br.holds ar)
noncomputable def JB(r:AB)(cell:Int)(ar:I_):Option Nat:=r.findIdx? (Be.fits cell ar)
noncomputable def CK(r:AB)(cell:Int)(ar:I_):Int:=match r.find? (Be.fits cell ar)with
|none=>cell
|some c=>c.makes
noncomputable def fl1(f:Str)(a:V):List (Str×V):=AW f a []
noncomputable def fl2(f g:Str)(a b:V):List (Str×V):=AW g b (AW f a [])
noncomputable def fl3(f g h:Str)(a b c:V):List (Str×V):=AW h c (AW g b (AW f a []))
theorem aDZ:(fl1 f a).lookup f=o3 a:=by unfold fl1;rw[Ak,A0e rfl]
theorem SG(h:¬m=f):(fl1 f a).lookup m=o4:=by unfold fl1;rw[Ak,A0c h];rfl
theorem aA6(h:¬f=g):(fl2 f g a b).lookup f=o3 a:=by unfold fl2;rw[Ak,A0c h,Ak,A0e rfl]
theorem aA7:(fl2 f g a b).lookup g=o3 b:=by unfold fl2;rw[Ak,A0e rfl]
theorem aD4(c:¬m=f)(d:¬m=g):(fl2 f g a b).lookup m=o4:=by unfold fl2;rw[Ak,A0c d,Ak,A0c c];rfl
theorem aF9{a b c:V}(d:¬f=g)(e:¬f=h):(fl3 f g h a b c).lookup f=o3 a:=by unfold fl3;rw[Ak,A0c e,Ak,A0c d,Ak,A0e rfl]
theorem aGA{a b c:V}(d:¬g=h):(fl3 f g h a b c).lookup g=o3 b:=by unfold fl3;rw[Ak,A0c d,Ak,A0e rfl]
theorem aDa{a b c:V}:(fl3 f g h a b c).lookup h=o3 c:=by unfold fl3;rw[Ak,A0e rfl]
theorem aD5{a b c:V}(d:¬m=f)(e:¬m=g)(i:¬m=h):(fl3 f g h a b c).lookup m=o4:=by unfold fl3;rw[Ak,A0c i,Ak,A0c e,Ak,A0c d];rfl
theorem TD(f:Str)(v:V):∀l:List (Str×V),(AW f v l).length<=l.length+1
|[]=>C0 _
| (g,w)::r=>by
 unfold AW;split
 .exact S7 _
 .rw[D8,D8];exact P5 (TD f v r)
theorem Aq(h:H p=o4):Ay H (upd H p o):=λb u e=>by
 rw[Av (As e h)];exact e
theorem alc(h:H p=o4)(e:upd H p o=a):Ay H a/\a p=o3 o:=e▸⟨Aq h,Af⟩
inductive DH(a:Ad)(H:Hp):Addr->Br->Prop where
|am {p t dx:R_} {s:Int} {ns:I_} (h:H p=o3 (.ins a.W_ dx (fl2 "state" "numbers" (.int s) (.ref t)))) (ht:H t=o3 (.tup (ns.map V.int))):DH a H p (.am s ns)
|pl {p t dx:R_} {ws:List (Option Int)} (h:H p=o3 (.ins a.e_ dx (fl1 "wanted" (.ref t)))) (ht:H t=o3 (.tup (ws.map Ip))):DH a H p (.pl ws)
structure Ci(a:Ad)(H:Hp)(p:R_)(c:Be):Prop where
ex:∃(dx t:R_)(cs:H_),H p=o3 (.ins a.a_ dx (fl3 "cell" "conditions" "makes" (Ip c.cell) (.ref t) (.int c.makes)))/\H t=o3 (.tup (cs.map V.ref))/\Paired (DH a H) cs c.conds
structure CS(a:Ad)(H:Hp)(p:R_)(x:Str)(r:AB):Prop where
ex:∃(dx t:R_)(cs:H_),H p=o3 (.ins a.l7 dx (fl2 "text" "clauses" (.str x) (.ref t)))/\H t=o3 (.tup (cs.map V.ref))/\Paired (Ci a H) cs r
theorem Paired.imp{α β:Type}{F G:α->β->Prop}(h:∀x y,F x y->G x y):∀{l:List α}{m:List β},Paired F l m->Paired G l m
|_,_,.nil=>.nil
|_,_,.cons r t=>.cons (h _ _ r) (Paired.imp h t)
theorem Paired.get{α β:Type}{F:α->β->Prop}:∀{l:List α}{m:List β}{i:Nat}{x:α},Paired F l m->l[i]?=o3 x->∃y,m[i]?=o3 y/\F x y
|_,_,_,_,.nil,e=>by simp at e
|_,_,0,_,.cons r _,e=>by simp at e;subst e;exact⟨_,Z,r⟩
|_,_,i+1,x,.cons _ t,e=>by
 exact xea (Paired.get (i:=i) (x:=x) t (by simpa using e)) λy a b=>⟨y,by simpa using a,b⟩
theorem DH.same{c:Br}(s:Ay H d)(h:DH a H p c):DH a d p c:=by
 cases h with
 |am h b=>exact .am (s _ _ h) (s _ _ b)
 |pl h b=>exact .pl (s _ _ h) (s _ _ b)
theorem Ci.same{a:Ad}{H b:Hp}{p:R_}{c:Be}(s:Ay H b)(h:Ci a H p c):Ci a b p c:=by
 exact CL h.ex λd t cs e f g=>⟨d,t,cs,s _ _ e,s _ _ f,Paired.imp (λ_ _ z=>z.same s) g⟩
theorem CS.same{a:Ad}{H b:Hp}{p:R_}{x:Str}{r:AB}(s:Ay H b)(h:CS a H p x r):CS a b p x r:=by
 exact CL h.ex λc t cs d e f=>⟨c,t,cs,s _ _ d,s _ _ e,Paired.imp (λ_ _ z=>z.same s) f⟩
theorem SB(n:Int)(ns:I_):inV (.int n) (ns.map V.int)=ns.any λm=>decide (m=n):=by
 unfold inV;rw[List.any_map];congr 1
theorem Rm(ns:I_):(ns.map V.int).all MR=o5:=by
 rw[List.all_map];exact S9.mpr λ_ _=>Z
theorem Jn(i j:Int):decide (V.int i=V.int j)=decide (i=j):=by
 by_cases h:i=j
 .rw[A0d h,A0d (by rw[h])]
 .rw[A0f h,A0f λz=>h (by injection z)]
section
variable{P:N_}{w:Q_}{K:O_}{mg:C_}{n9:T_}{a:Ad}
inductive WO(vs:List V)(H:Hp)(Q:VK):Prop
|mk (x:Option Int) (s:Int) (_:vs=[Ip x,.int s]) (_:Q (.bl (Dn x s)) H):WO vs H Q
def OB:Sp:=λvs H Q _=>WO vs H Q
theorem ZX(F:Fun K "takes" "takes" RT f fd):AL P w K mg n9 CX0 1 f fd dS OB:=by
 refine F.ok ZL D_9 λc A b s H vs Q E d h=>?_
 obtain⟨x,s,rfl,k⟩:=h;refine⟨_,(Ag (Aw (aGk (EU Ji (pv 0) DE (AF _)) (Nt (EU Dj (pv 0) (pv 1) (AF _)))))),?_⟩
 try dsimp only[cxK]
 refine xq1 Z ⟨Z,(xq1 Z ?_)⟩;cases x with
 |none=>exact Cr k
 |some i =>
  have e:decide (Ip (o3 i)=V.int s)=Dn (o3 i) s:=Jn i s;rw[<-e]at k;exact Bc (xw2 Z Z ⟨Z,k⟩)
inductive UI(a:Ad)(vs:List V)(H:Hp)(Q:VK):Prop
|mk (p t dx:R_) (s:Int) (_:vs=[.ref p,.int s,.ref t]) (_:H p=o3 (.ins a.W_ dx [])) (_:Q .non (upd H p (.ins a.W_ dx (fl2 "state" "numbers" (.int s) (.ref t))))):UI a vs H Q
def Pb(a:Ad):Sp:=λvs H Q _=>UI a vs H Q
theorem Yt(F:Fun K "__init__" "Amounts.__init__" Gb f fd)(T:Top K mg a):AL P w K mg n9 CX0 1 f fd PU (Pb a):=by
 refine F.ok Ot D_9 λd A b s H vs Q E g h=>?_
 obtain⟨p,t,c,s,rfl,e,k⟩:=h;refine⟨_,(Ac (CO (pv 0) (pv 1) Z) (Ag (CO (pv 0) (pv 2) Z))),?_⟩
 try dsimp only[cxK]
 refine xw2 Z Z ⟨p,_,c,[],Z,e,T.aAA,T.n6,B4,(xw2 Z Z ⟨p,_,c,(xq1 Z ⟨Af,T.aAA,T.l_,B7,?_⟩)⟩)⟩;rw[GD];exact k
inductive UG(a:Ad)(vs:List V)(H:Hp)(Q:VK):Prop
|mk (p t dx:R_) (_:vs=[.ref p,.ref t]) (_:H p=o3 (.ins a.e_ dx [])) (_:Q .non (upd H p (.ins a.e_ dx (fl1 "wanted" (.ref t))))):UG a vs H Q
def OX(a:Ad):Sp:=λvs H Q _=>UG a vs H Q
theorem Yr(F:Fun K "__init__" "Places.__init__" Ia f fd)(T:Top K mg a):AL P w K mg n9 CX0 1 f fd QF (OX a):=by
 refine F.ok Ph D_9 λc A b s H vs Q E g h=>?_
 obtain⟨p,t,d,rfl,e,k⟩:=h;refine⟨_,(Ag (CO (pv 0) (pv 1) Z)),?_⟩
 try dsimp only[cxK]
 exact xw2 Z Z ⟨p,_,d,[],Z,e,T.aAO,T.n7,B4,k⟩
inductive UH(a:Ad)(vs:List V)(H:Hp)(Q:VK):Prop
|mk (p t dx:R_) (c:Option Int) (m:Int) (_:vs=[.ref p,Ip c,.ref t,.int m]) (_:H p=o3 (.ins a.a_ dx [])) (_:Q .non (upd H p (.ins a.a_ dx (fl3 "cell" "conditions" "makes" (Ip c) (.ref t) (.int m))))):UH a vs H Q
def Pa(a:Ad):Sp:=λvs H Q _=>UH a vs H Q
theorem Ys(F:Fun K "__init__" "Clause.__init__" Id f fd)(T:Top K mg a):AL P w K mg n9 CX0 1 f fd QJ (Pa a):=by
 refine F.ok Pj D_9 λe A d s H vs Q E i h=>?_
 obtain⟨p,t,b,c,m,rfl,g,k⟩:=h;refine⟨_,(Ac (CO (pv 0) (pv 1) Z) (Ac (CO (pv 0) (pv 2) Z) (Ag (CO (pv 0) (pv 3) Z)))),?_⟩
 try dsimp only[cxK]
 refine⟨_,Z,_,Z,p,_,b,[],Z,g,T.l5,T.aAC,B4,_,Z,_,Z,p,_,b,_,Z,Af,T.l5,T.k_,B7,_,Z,_,Z,p,_,b,_,Z,Af,T.l5,T.aAB,
  F7 (TD _ _ _) (by show 2<1000;decide),?_⟩
 rw[GD,GD];exact k
def Nc(a:Ad):Sp:=λvs H Q E=>(∃(p l t dx:R_)(s:Int)(ns ar:I_),vs=[.ref p,.ref l]/\H p=o3 (.ins a.W_ dx (fl2 "state" "numbers" (.int s) (.ref t)))/\H t=o3 (.tup (ns.map V.int))/\H l=o3 (.lst (ar.map V.int))/\Q (.bl (Br.holds ar (.am s ns))) H)
theorem Vh(F:Fun K "holds" "Amounts.holds" Fq f fd)(T:Top K mg a):AL P w K mg n9 CX0 1 f fd Ow (Nc a):=by
 refine F.ok Nh (λvs H Q E h=>?_) (λg A b s H vs Q E m h=>?_)
 .obtain⟨p,l,t,i,s,ns,c,rfl,_⟩:=h;rfl
 .obtain⟨p,l,t,i,s,ns,c,rfl,e,j,d,k⟩:=h;refine⟨_,(Ag (Aw (EU NB (DJ A1g PySem.F.slot_list_count PySem.F.type_list_count aBe (pv 1) (Aa (AC (pv 0) Z) Ab)) (AC (pv 0) Z) Z))),?_⟩
  try dsimp only[cxK]
  refine xq1 Z ⟨.inl ⟨Z,_,SqL.of d⟩,(xwf Z Z e T.aAA T.n6 (aA6 A3) ⟨l,c,s,Z,Z,d,(xwf Z Z e T.aAA T.l_ aA7 ⟨t,(xq1 Z ⟨.inr (SqT.of j),Z,Rm ns,?_⟩)⟩)⟩)⟩;show Q (.bl (inV _ _)) H;rw[SB];exact k
inductive RB(a:Ad)(vs:List V)(H:Hp)(Q:VK):Prop
|mk (p l t dx:R_) (ws:List (Option Int)) (ar:I_) (_:vs=[.ref p,.ref l]) (_:H p=o3 (.ins a.e_ dx (fl1 "wanted" (.ref t)))) (_:H t=o3 (.tup (ws.map Ip))) (_:H l=o3 (.lst (ar.map V.int))) (_:ws.length<=100) (_:∀H',Ay H H'->Q (.bl (Br.holds ar (.pl ws))) H'):RB a vs H Q
def Nb(a:Ad):Sp:=λvs H Q _=>RB a vs H Q
theorem Vg(F:Fun K "holds" "Places.holds" Eo f fd)(T:Top K mg a)(L:Cal P w K mg n9 CX0 1 "takes" dS OB):AL P w K mg n9 CX0 2 f fd Ow (Nb a):=by
 refine F.ok Oq D_9 λM A r s H vs Q E W h=>?_
 obtain⟨p,l,t,dx,b,d,rfl,U,D,C,X,k⟩:=h;refine⟨_,(Ag (Aw (AH (UC Z) Z T.aDT PyProof.Rows.boot_all (Aa (Cj Z (Bn.of (So:=Ah Eo) (No:=Ow) (N:=["one","state"]) (k:=2) (cs:=[]) Z Z A3) (aEy o5 o6 Z T.aFz (Aa (AC (pv 0) Z) (Aa (pv 1) Ab))) (λ_ _ _=>(TH (i:=0) (j:=1) Z A3 Z Z Z Z)) (λ_ _ _=>BB) (λ_ _ _=>(Ar L (rm W) Z Am (Aa (pv 0) (Aa (pv 1) Ab))))) Ab)))),?_⟩
 try dsimp only[cxK]
 refine xwf Z Z U T.aAO T.n7 aDZ (xq1 Z ⟨t,l,Z,⟨_,SqT.of D⟩,⟨_,SqL.of C⟩,?_⟩);refine aB5 (xs:=b.map Ip) (ys:=d.map V.int) (λi c n=>Ay H n/\c=(((b.zip d).take i).map λp=>V.bl (Dn p.1 p.2))) ⟨Ay.refl H,Z⟩ (λi c n z=>⟨SqT.of (z.1 _ _ D),SqL.of (z.1 _ _ C)⟩) ?_ ?_
 .intro i x y c n T' G I v Y;obtain⟨u,rfl⟩:=v;rw[C1]at G I;refine xea (D7.mp G) λo R g=>?_;subst g;refine xea (D7.mp I) λm O g=>?_;subst g;have S:(b.zip d)[i]?=o3 (o,m):=by rw[W1];exact⟨R,O⟩
  refine Qb Af ⟨⟨[o3 (Ip o),o3 (.int m)],Z,Z⟩,?_,?_⟩
  .have:((((b.zip d).take i).map λp=>V.bl (Dn p.1 p.2))).length<=b.length:=by
    rw[B8,J3,Z9];omega
   exact F7 (D0 this X) A6
  .refine FP (xw2 Z Z ⟨o,m,Z,u.trans (Aq Y),?_⟩);rw[F4,S,C7];rfl
 .intro c n B q nq;obtain⟨u,rfl⟩:=B;have len:min (b.map Ip).length (d.map V.int).length=(b.zip d).length:=by rw[B8,B8,Z9]
  rw[len,F8];refine⟨q,(b.zip d).map (λp=>Dn p.1 p.2),Z,SqL.of (by rw[Af,M9];rfl),?_⟩;have e:((b.zip d).map (λp=>Dn p.1 p.2)).all id=Br.holds d (.pl b):=by rw[List.all_map];rfl
  rw[e];exact k _ (u.trans (Aq nq))
inductive aAd(a:Ad)(vs:List V)(H:Hp)(Q:VK):Prop
|mk (p l:R_) (c:Be) (cell:Int) (ar:I_) (_:vs=[.ref p,.int cell,.ref l]) (_:Ci a H p c) (_:c.conds.length<=100) (_:(∀d∈c.conds,∀ws,d=Br.pl ws->ws.length<=100)) (_:H l=o3 (.lst (ar.map V.int))) (_:∀H',Ay H H'->Q (.bl (c.fits cell ar)) H'):aAd a vs H Q
def UV(a:Ad):Sp:=λvs H Q _=>aAd a vs H Q
theorem aCX(F:Fun K "fits" "Clause.fits" ET f fd)(T:Top K mg a)(cR:Cal P w K mg n9 CX0 1 "takes" dS OB)(r:BR P w K mg n9 CX0 1 a.W_ "holds" Ow (Nc a))(u:BR P w K mg n9 CX0 2 a.e_ "holds" Ow (Nb a)) :
 AL P w K mg n9 CX0 3 f fd LL (UV a):=by
 refine F.ok Pk D_9 λaa A L s H vs Q E I h=>?_
 obtain⟨p,l,c,cell,g,rfl,hC,hn,G,X,k⟩:=h;refine CL hC.ex λdx t cs Y ht y=>⟨_,(Ag (Aw (Md (Ar cR (rm I) Z Am (Aa (AC (pv 0) Z) (Aa (pv 1) Ab))) (Nt (AH (UC Z) Z T.aDT PyProof.Rows.boot_all (Aa (Cj Z (Bn.of (So:=Ah ET) (No:=LL) (N:=["condition","around"]) (k:=1) (cs:=[2]) Z Z A3) (Po (AC (pv 0) Z)) (λ_ _ _=>(AY (i:=0) A3 Z Z)) (λ_ _ _=>BB) (λ_ _ _=>(PE.or (AD (pv 0) r (rm I) Am (Aa (pv 1) Ab)) (AD (pv 0) u (rm I) Am (Aa (pv 1) Ab))))) Ab)))))),?_⟩
 refine xwf Z Z Y T.l5 T.aAC (aF9 A3 A3) (xq1 Z ⟨c.cell,cell,Z,Dn c.cell cell,Z,?_⟩);cases W:Dn c.cell cell with
 |false =>
  refine Bc ?_;have:=k H (Ay.refl H);unfold Be.fits at this;rw[W]at this;exact this
 |true =>
  refine Cr ?_;have ln:=A1e y;refine xwf Z Z Y T.l5 T.k_ (aGA A3) ⟨t,Z,⟨_,SqT.of ht⟩,?_⟩;refine OQ (xs:=cs.map V.ref) (λi j m=>Ay H m/\j=((c.conds.take i).map λd=>V.bl (Br.holds g d))) ⟨Ay.refl H,Z⟩ (λi j m _ z=>SqT.of (z.1 _ _ ht)) ?_ ?_
  .intro i x j m hx R;obtain⟨n,rfl⟩:=R;rw[C1]at hx;refine xea (D7.mp hx) λq eq B=>?_;subst B;refine xea (Paired.get y eq) λd U hd=>?_;have D:=hd.same n;refine⟨⟨[o3 (.ref q)],Z,Z⟩,?_,?_⟩
   .have:((c.conds.take i).map λd=>V.bl (Br.holds g d)).length<=c.conds.length:=by
     rw[B8,J3];omega
    exact F7 (D0 this hn) A6
   .refine FP ?_;have nx:∀o,Ay m o->Ay H o/\((c.conds.take i).map λd=>V.bl (Br.holds g d))++[V.bl (Br.holds g d)]=((c.conds.take (i+1)).map λd=>V.bl (Br.holds g d)):=λo M=>⟨n.trans M,by
     rw[F4,U,C7];rfl⟩
    have md:=D5 U;cases D with
    |@am O b s ns v C=>exact .inl ⟨_,Z,q,b,_,Z,v,aD4 A3 A3,_,Z,q,l,O,b,s,ns,g,Z,v,C,n _ _ X,nx m (Ay.refl m)⟩
    |@pl O b ws v C=>exact .inr ⟨_,Z,q,b,_,Z,v,SG A3,_,Z,q,l,O,b,ws,g,Z,v,C,n _ _ X,G _ md ws Z,λo M=>nx o M⟩
  .intro j m S q nq;obtain⟨n,rfl⟩:=S;rw[B8,ln,F8];refine⟨q,c.conds.map (Br.holds g),Z,SqL.of (by rw[Af,M9];rfl),?_⟩;have e:(c.conds.map (Br.holds g)).all id=c.fits cell g:=by
    unfold Be.fits;rw[W,List.all_map];rfl
   rw[e];exact k _ (n.trans (Aq nq))
def ROk(r:AB):Prop:=r.length<=5000/\∀c∈r,c.conds.length<=100/\∀d∈c.conds,∀ws,d=Br.pl ws->ws.length<=100
noncomputable def aF3(o:Option Nat):V:=match o with
|none=>.non
|some n=>.int n
inductive aDB(a:Ad)(vs:List V)(H:Hp)(Q:VK):Prop
|mk (p l:R_) (z:Str) (r:AB) (cell:Int) (ar:I_) (_:vs=[.ref p,.int cell,.ref l]) (_:CS a H p z r) (_:ROk r) (_:H l=o3 (.lst (ar.map V.int))) (_:∀H',Ay H H'->Q (aF3 (JB r cell ar)) H'):aDB a vs H Q
def ZE(a:Ad):Sp:=λvs H Q _=>aDB a vs H Q
theorem aEW(F:Fun K "deciding" "deciding" LX f fd)(T:Top K mg a)(cB:BR P w K mg n9 CX0 3 a.a_ "fits" LL (UV a)):AL P w K mg n9 CX0 4 f fd Mg (ZE a):=by
 refine F.ok JF D_9 λaa A I s H vs Q E hr h=>?_
 obtain⟨p,l,z,r,cell,m,rfl,hR,U,hl,k⟩:=h;refine CL hR.ex λdx t cs hp W y=>?_;have ln:=A1e y;refine⟨_,(Ac (BN A1c Z (Mx o5 Z T.i_ (Aa (AC (pv 0) Z) Ab)) (Nr Z (CW (AU (i:=3) JF.nd Z O_9) (CW (AU (i:=4) JF.nd Z O_9) Lp))) (Ag (AO (Cf (AD (pv 4) cB (rm hr) Am (Aa (pv 1) (Aa (pv 2) Ab)))) (Ag (Aw (pv 3))) Az))) (Ag (Aw DE))),?_⟩
 try dsimp only[cxK]
 refine xwf Z Z hp T.aAF T.l4 aA7 ⟨t,Z,⟨_,SqT.of W⟩,?_⟩;refine Lj (b:=o5) (xs:=cs.map V.ref) (λi σ g=>Ay H g/\(∃u v,σ=[o3 (.ref p),o3 (.int cell),o3 (.ref l),u,v])/\∀c∈r.take i,c.fits cell m=o6) ⟨Ay.refl H,⟨o4,o4,Z⟩,λc G=>by simp at G⟩ (λi σ g _ q=>SqT.of (q.1 _ _ W)) ?_ ?_
 .intro i x σ g T' X N nT;obtain⟨L,⟨u,v,rfl⟩,no⟩:=N;rw[C1]at X;refine xea (D7.mp X) λq eq D=>?_;subst D;refine xea (Paired.get y eq) λc B G=>?_;have C:=L.trans (Aq (o:=.tup [.int i,.ref q]) nT);have n:=G.same C;refine xe3 n.ex λac t2 ab M=>?_;refine xa M λh1 _=>?_;refine Qb Af ?_;have Y:=D5 B;refine xwn Z Z h1 (aD5 A3 A3 A3) Z (xq1 Z ⟨q,l,c,cell,m,Z,n,(U.2 c Y).1,(U.2 c Y).2,C _ _ hl,λH4 s4=>(xq1 Z ?_)⟩);cases R:c.fits cell m with
  |true =>
   refine Cr (xq1 Z ?_);have e:JB r cell m=o3 i:=by
    unfold JB;rw[T6];have hi:=(B9.mp B).1;refine⟨hi,?_,λj hj=>?_⟩
    .rw[(B9.mp B).2];exact R
    .have:=no r[j] (List.mem_take_iff_getElem.mpr ⟨j,by omega,Z⟩);rw[this];exact D9
   have:=k H4 (C.trans s4);rw[e]at this;exact this
  |false =>
   refine Bc ⟨C.trans s4,⟨_,_,Z⟩,λd S=>?_⟩;rw[F4,B]at S;rcases J7.mp S with z|z
   .exact no d z
   .have:d=c:=by simpa using z
    rw[this];exact R
 .intro σ g O;obtain⟨L,⟨u,v,rfl⟩,no⟩:=O;rw[B8,ln,F8]at no;have e:JB r cell m=o4:=by
   unfold JB;rw[W2];exact no
  have:=k g L;rw[e]at this;exact this
inductive aC4(a:Ad)(vs:List V)(H:Hp)(Q:VK):Prop
|mk (p l:R_) (z:Str) (r:AB) (cell:Int) (ar:I_) (_:vs=[.ref p,.int cell,.ref l]) (_:CS a H p z r) (_:ROk r) (_:H l=o3 (.lst (ar.map V.int))) (_:∀H',Ay H H'->Q (.int (CK r cell ar)) H'):aC4 a vs H Q
def Wl(a:Ad):Sp:=λvs H Q _=>aC4 a vs H Q
theorem MY{cell:Int}(h:JB r cell b=o4):CK r cell b=cell:=by
 unfold JB at h;rw[W2]at h;unfold CK;rw[List.find?_eq_none.mpr λc d=>by rw[h c d];exact D9]
theorem MX{cell:Int}(h:JB r cell b=o3 i):∃c,r[i]?=o3 c/\CK r cell b=c.makes:=by
 unfold JB at h;rw[T6]at h;refine xea h λhi d e=>⟨r[i],C5 hi,?_⟩
 unfold CK;have:r.find? (Be.fits cell b)=o3 r[i]:=by
  rw[List.find?_eq_some_iff_getElem];exact⟨d,i,hi,Z,λj f=>by simpa using e j f⟩
 rw[this]
theorem aEQ(F:Fun K "becomes" "becomes" Nm f fd)(T:Top K mg a)(x:Cal P w K mg n9 CX0 4 "deciding" Mg (ZE a)):AL P w K mg n9 CX0 5 f fd Mg (Wl a):=by
 refine F.ok Pg D_9 λy A j s H vs Q E O h=>?_
 obtain⟨p,l,z,r,cell,o,rfl,v,M,L,k⟩:=h;refine⟨_,(Ac (Ao (i:=3) Pg.nd Z O_9 (Ar x (rm O) Z Am (Aa (pv 0) (Aa (pv 1) (Aa (pv 2) Ab))))) (Ac (AO (AA Ji (pv 3) DE (AF _)) (Ag (Aw (pv 1))) Az) (Ag (Aw (AC (Aj An (AC (pv 0) Z) (pv 3) R_9) Z))))),?_⟩
 try dsimp only[cxK]
 refine xw3 Z Z Z ⟨p,l,z,r,cell,o,Z,v,M,L,λn g=>?_⟩;refine xq1 Z ⟨Z,(xq1 Z ?_)⟩;cases e:JB r cell o with
 |none =>
  refine Cr (xq1 Z ?_);have:=k n g;rw[MY e]at this;exact this
 |some i =>
  refine xea (MX e) λc u D=>CL v.ex λV t cs N R d=>?_;obtain⟨q,eq⟩:∃q,cs[i]?=o3 q:=by
   have S:=A1e d;have:i<cs.length:=by rw[S];exact(B9.mp u).1
   exact⟨_,C5 this⟩
  refine xea (Paired.get d eq) λU b I=>?_;rw[u]at b;cases b;refine xe3 ((I.same g).ex) λC W B m=>?_;refine xa m λG _=>?_;refine Bc (xwf Z Z (g _ _ N) T.aAF T.l4 aA7 (xwi Z Z Z (SqT.of (g _ _ R)) (Ai (by rw[C1,eq];rfl)) (xq5 G T.l5 T.aAB aDa ?_)));have:=k n g;rw[D]at this;exact this
end
noncomputable def sgD(d:Int):Str:=⟨#[48+d.toNat]⟩
noncomputable def wC:Option Int->Nat
|none=>42
|some d=>48+d.toNat
noncomputable def wS(x:Option Int):Str:=⟨#[wC x]⟩
noncomputable def Ee(ns:I_):Str:=⟨(ns.map λn=>48+n.toNat).toArray⟩
noncomputable def Bb:Br->Str
|.am s ns=>sgD s++⟨#[61]⟩++Ee ns
|.pl ws=>⟨(ws.map wC).toArray⟩
noncomputable def BU(c:Be):Str:=Str.join ⟨#[32]⟩ (wS c.cell::(c.conds.map Bb++[sgD c.makes]))
noncomputable def Rc:Str:=⟨#[59,32]⟩
noncomputable def Ea(r:AB):Str:=Str.join Rc (r.map BU)
def Jz(d:Int):Prop:=0<=d/\d<8
def wOk:Option Int->Prop
|none=>True
|some d=>Jz d
def Br.ok:Br->Prop
|.am s ns=>Jz s/\ns≠[]/\(∀n∈ns,0<=n/\n<=8)/\ns.Pairwise (· < ·)
|.pl ws=>ws.length=8/\∀w∈ws,wOk w
structure Be.ok(c:Be):Prop where
cell:wOk c.cell
makes:Jz c.makes
few:c.conds.length<=50
conds:∀d∈c.conds,d.ok
theorem aDY(h:Jz d):d=0\/d=1\/d=2\/d=3\/d=4\/d=5\/d=6\/d=7:=by
 obtain⟨m,rfl⟩:=J6 h.1;have a:=h.2;exact(show ∀m:Nat,m<8->((m:Int)=0\/(m:Int)=1\/(m:Int)=2\/(m:Int)=3\/(m:Int)=4\/(m:Int)=5\/(m:Int)=6\/(m:Int)=7) by decide) m A0
noncomputable abbrev figs8:Str:=Str.ofString "01234567"
noncomputable abbrev figs9:Str:=Str.ofString "012345678"
theorem Zr(h:Jz d):PySem.intText? (sgD d)=o3 d/\(!(Builtin.Str.occurrences figs8 (sgD d) 0 figs8.length 1).isEmpty)=o5:=by
 rcases aDY h with rfl|rfl|rfl|rfl|rfl|rfl|rfl|rfl<;>exact⟨by decide +kernel,by decide +kernel⟩
theorem nine{d:Int}(a:0<=d)(b:d<=8):d=0\/d=1\/d=2\/d=3\/d=4\/d=5\/d=6\/d=7\/d=8:=by
 obtain⟨m,rfl⟩:=J6 a;exact(show ∀m:Nat,m<9->((m:Int)=0\/(m:Int)=1\/(m:Int)=2\/(m:Int)=3\/(m:Int)=4\/(m:Int)=5\/(m:Int)=6\/(m:Int)=7\/(m:Int)=8) by decide) m A0
theorem aAr{d:Int}(a:0<=d)(b:d<=8):PySem.intText? (⟨#[48+d.toNat]⟩:Str)=o3 d/\(!(Builtin.Str.occurrences figs9 (⟨#[48+d.toNat]⟩:Str) 0 figs9.length 1).isEmpty)=o5:=by
 rcases nine a b with rfl|rfl|rfl|rfl|rfl|rfl|rfl|rfl|rfl<;>exact⟨by decide +kernel,by decide +kernel⟩
theorem aCx(h:Jz d):decide (V.str (wS (o3 d))=V.str (Str.ofString "*"))=o6:=by
 rcases aDY h with rfl|rfl|rfl|rfl|rfl|rfl|rfl|rfl<;>decide +kernel
theorem QP(h:wOk x):wC x≠61/\wC x≠32/\wC x≠59:=by
 cases x with
 |none=>exact⟨by decide,by decide,by decide⟩
 |some d =>
  have:=h.1;have:=h.2;show 48+d.toNat≠61/\48+d.toNat≠32/\48+d.toNat≠59;refine⟨?_,?_,?_⟩<;>lia
theorem Rr(h:d.ok):32∉(Bb d).cps.toList/\59∉(Bb d).cps.toList:=by
 cases d with
 |am s ns =>
  obtain⟨⟨g,i⟩,_,c,_⟩:=h;have e:(Bb (.am s ns)).cps.toList=(48+s.toNat)::61::ns.map λn=>48+n.toNat:=by
   show(sgD s++⟨#[61]⟩++Ee ns).cps.toList=_;rw[Tx.CQ,Tx.CQ];rfl
  rw[e];constructor
  .intro z;rcases C4.mp z with z|z
   .lia
   .rcases C4.mp z with z|z
    .lia
    .refine xea (F1.mp z) λn a e=>?_;have:=c n a;lia
  .intro z;rcases C4.mp z with z|z
   .lia
   .rcases C4.mp z with z|z
    .lia
    .refine xea (F1.mp z) λn a e=>?_;have:=c n a;lia
 |pl f =>
  have e:(Bb (.pl f)).cps.toList=f.map wC:=rfl;rw[e];constructor
  .intro z;exact xea (F1.mp z) λx b e=>(QP (h.2 x b)).2.1 e
  .intro z;exact xea (F1.mp z) λx b e=>(QP (h.2 x b)).2.2 e
theorem OS:∀(ns:I_)(lo:Int),lo<=9->(∀n∈ns,lo<=n/\n<=8)->ns.Pairwise (· < ·)->(ns.length:Int)<=9-lo
|[],lo,h,_,_=>by show(0:Int)<=9-lo;lia
|n::r,lo,_,hn,hp=>by
 have b:=hn n C8;have c:=OS r (n+1) A0 (λm a=>⟨by have:=(K4.mp hp).1 m a;lia,(hn m (C9 _ a)).2⟩) (K4.mp hp).2;rw[D8];lia
theorem MU(h:d.ok):(Bb d).length<=11:=by
 cases d with
 |am s ns =>
  refine xa3 h λ_ _ a b=>?_;have e:=OS ns 0 A6 a b;rw[Nu.len];show(sgD s++⟨#[61]⟩++Ee ns).cps.toList.length<=11;rw[Tx.CQ,Tx.CQ,C6,C6];show 1+1+(ns.map λn=>48+n.toNat).length<=11;rw[B8];lia
 |pl c =>
  rw[Nu.len];show(c.map wC).length<=11;rw[B8,h.1];decide
section
variable{P:N_}{w:Q_}{K:O_}{mg:C_}{n9:T_}{a:Ad}
theorem Wc(K:O_):kitOne K (.type "str") (.type "str")=o3 o5:=by kernel_rfl
inductive aFo(vs:List V)(H:Hp)(Q:VK):Prop
|mk (d:Int) (_:vs=[.str (sgD d)]) (_:Jz d) (_:Q (.int d) H):aFo vs H Q
def Zv:Sp:=λvs H Q _=>aFo vs H Q
theorem aGc(F:Fun K "read_state" "read_state" IL f fd)(T:Top K mg a):AL P w K mg n9 CX0 1 f fd Sf Zv:=by
 refine F.ok Qv D_9 λc A b s H vs Q E j h=>?_
 obtain⟨d,rfl,i,k⟩:=h;obtain⟨e,g⟩:=Zr i;refine⟨_,(Ac (AO (PW.pt (Jv (AA GM (AH Jq Z T.j_ A2g (Aa (pv 0) Ab)) Ae (AF _)) (Gd (AA MC (pv 0) (OH Z T.aAJ) Z)))) (Ag Bk) Az) (Ag (Aw (BH Ir Z T.aAM A4d (Aa (pv 0) Ab))))),?_⟩
 try dsimp only[cxK]
 refine xw2 Z Z ⟨S_1,Z,(xq1 Z ?_)⟩;refine ML Z (xwb Z Z Z (xq1 Z ?_));rw[g];exact Bc (xq1 Z ⟨_,d,Z,e,(by show 1<=640;decide),k⟩)
inductive aFp(vs:List V)(H:Hp)(Q:VK):Prop
|mk (x:Option Int) (_:vs=[.str (wS x)]) (_:wOk x) (_:Q (Ip x) H):aFp vs H Q
def aFC:Sp:=λvs H Q _=>aFp vs H Q
theorem aGe(F:Fun K "read_wanted" "read_wanted" GX f fd)(T:Top K mg a)(e:Cal P w K mg n9 CX0 1 "read_state" Sf Zv):AL P w K mg n9 CX0 2 f fd Sf aFC:=by
 refine F.ok Pd D_9 λg A b s H vs Q E i h=>?_
 obtain⟨x,rfl,c,k⟩:=h;refine⟨_,(Ac (AO (AA Dj (pv 0) (OH Z T.aAW) (AF _)) (Ag (Aw DE)) Az) (Ag (Aw (Ar e (rm i) Z Am (Aa (pv 0) Ab))))),?_⟩
 try dsimp only[cxK]
 refine xq1 Z ⟨Z,(xq1 Z ?_)⟩;cases x with
 |none=>exact Cr k
 |some d =>
  rw[aCx c];exact Bc (xq1 Z ⟨d,Z,c,k⟩)
inductive aFm(vs:List V)(H:Hp)(Q:VK):Prop
|mk (ns:I_) (_:vs=[.str (Ee ns)]) (_:ns≠[]) (_:ns.length<=100) (_:(∀n∈ns,0<=n/\n<=8)) (_:ns.Pairwise (· < ·)) (_:∀(t:R_)(H':Hp),Ay H H'->H' t=o3 (.tup (ns.map V.int))->Q (.ref t) H'):aFm vs H Q
def aG0:Sp:=λvs H Q _=>aFm vs H Q
theorem aGa(F:Fun K "read_numbers" "read_numbers" FS f fd)(T:Top K mg a):AL P w K mg n9 CX0 1 f fd Gg aG0:=by
 refine F.ok Fn D_9 λO A B s H vs Q E hr h=>?_
 obtain⟨ns,rfl,u,I,M,X,k⟩:=h;have S:(Ee ns).length=ns.length:=by rw[Nu.len];show(ns.map _).length=_;rw[B8]
 have D:(Ee ns).cps.toList=ns.map λn=>48+n.toNat:=rfl;have pos:=V1.mpr u;refine⟨_,(Ac (AO (AA Dj (AH Jq Z T.j_ A2g (Aa (pv 0) Ab)) Ae (AF _)) (Ag Bk) Az) (Ac (Ao (i:=1) Fn.nd Z O_9 (Cp Ab)) (Ac (BN A1c Z (ZR (pv 0)) (AU (i:=2) Fn.nd Z O_9) (Ac (AO (AA MC (pv 2) (OH Z T.aAI) Z) (Ag Bk) Az) (Ac (AO (PW.pt (Mb (AA TM (AH Bh Z T.j_ A2g (Aa (pv 1) Ab)) Ae (AF _)) (IW (AA JY (BH Ir Z T.aAM A4d (Aa (pv 2) Ab)) (Aj Ax (pv 1) (Fc Dm Ae) R_9) (AF _))))) (Ag Bk) Az) (Ag (Bp (DJ A1g A1h A2a Cb (pv 1) (Aa (BH Ir Z T.aAM A4d (Aa (pv 2) Ab)) Ab))))))) (Ag (Aw (BH CA Z T.m9 A3b (Aa (pv 1) Ab))))))),?_⟩
 try dsimp only[cxK]
 refine xw2 Z Z ⟨(by rw[S];exact D0 I A6),Z,(xq1 Z ?_)⟩;have nz:decide (V.int ((Ee ns).length:Int)=V.int 0)=o6:=A0f λz=>by
  injection z with z
  lia
 rw[nz];refine Bc ⟨S_0,λl r=>?_⟩;refine xw2 Z Z (aCC (λi σ d=>∃v,σ=[o3 (.str (Ee ns)),o3 (.ref l),v]/\d=upd H l (.lst ((ns.take i).map V.int))) ⟨o4,Z,Z⟩ ?_ ?_)
 .intro i ch σ d q j;refine xea j λv g b=>?_;clear j;subst g;subst b;have c:(ns.map λn=>48+n.toNat)[i]?=o3 ch:=by rw[<-D];simpa using q
  rw[C1]at c;refine xea (D7.mp c) λn o b=>?_;subst b;have N:=D5 o;obtain⟨G,U⟩:=aAr (M n N).1 (M n N).2;have hi:=(B9.mp o).1;have C:(ns.take i).length=i:=by rw[J3];lia
  refine xwb Z Z Z (xq1 Z ?_);rw[U];refine Bc (xq1 Z ⟨l,(xq1 Z ⟨.inl (SqL.of Af),(xq2 Z Z (xq1 Z ?_))⟩)⟩);have nx:∃v,([o3 (V.str (Ee ns)),o3 (.ref l),o3 (.str ⟨#[48+n.toNat]⟩)]:St)=[o3 (.str (Ee ns)),o3 (.ref l),v]/\upd (upd H l (.lst ((ns.take i).map V.int))) l (.lst ((ns.take i).map V.int++[V.int n]))=upd H l (.lst ((ns.take (i+1)).map V.int)):=by
   refine xq1 Z ?_;rw[GD,F4,o,C7];rfl
  have app:aDo (tBM K "list" Ws (GS 1) (CD (tCB (λxs H Q=>∃x n,xs=[.str x]/\PySem.intText? x=o3 n/\x.length<=640/\Q (.int n) H) (CD (GS 2) OV)) OV))
    {nx:=fun σ d=>∃v,σ=[o3 (.str (Ee ns)),o3 (.ref l),v]/\d=upd H l (.lst ((ns.take (i+1)).map V.int)),rt:=Q,bk:=λ_ _=>False,ct:=fun σ d=>∃v,σ=[o3 (.str (Ee ns)),o3 (.ref l),v]/\d=upd H l (.lst ((ns.take (i+1)).map V.int))}
    [o3 (.str (Ee ns)),o3 (.ref l),o3 (.str ⟨#[48+n.toNat]⟩)] (upd H l (.lst ((ns.take i).map V.int))) :=
   ⟨_,Z,.inl ⟨Z,_,SqL.of Af⟩,_,Z,_,n,Z,G,(by show 1<=640;decide),l,_,_,Z,Z,Af,(by rw[B8,C];exact F9 hi (D0 I A6)),nx⟩
  by_cases i0:i=0
  .subst i0;exact Bc app
  .have ip:0<i:=by lia
   have y:decide ((0:Int)<(((ns.take i).map V.int).length:Int))=o5:=A0d (by rw[B8,C];lia);rw[y];have L:i-1<ns.length:=by lia
   have W:ns[i-1]<n:=by
    have:=W0.mp X (i-1) i L hi A0;rw[(B9.mp o).2]at this;exact this
   have p:atI ((ns.take i).map V.int) (-1)=o3 (V.int ns[i-1]):=by
    have:((ns.take i).map V.int)[i-1]?=o3 (V.int ns[i-1]):=by
     rw[C1,W7 A0,C5 L];rfl
    have R:((ns.take i).map V.int).length=i:=by rw[B8,C]
    unfold atI ixN;rw[R,A0c A6,A0e A0];show((ns.take i).map V.int)[((-1:Int)+(i:Nat)).toNat]?=_;rw[show((-1:Int)+(i:Nat)).toNat=i-1 by lia];exact this
   refine Cr (xq1 Z ⟨_,n,Z,G,(by show 1<=640;decide),(xw2 Z Z ⟨l,_,(xq2 Z Z ⟨SqL.of Af,p,(xq2 Z Z (xq1 Z ?_))⟩)⟩)⟩);rw[A0f (by lia:¬n<=ns[i-1])];exact Bc app
 .intro σ d m;refine xea m λv g b=>?_;clear m;subst g;subst b;have e:(Ee ns).cps.size=ns.length:=by
   have:(Ee ns).cps.toList.length=ns.length:=by rw[D,B8]
   simpa using this
  rw[e,F8];refine xq1 Z ⟨l,(xq1 Z (.inl ⟨SqL.of Af,λt Y=>?_⟩))⟩;exact k t _ ((Aq r).trans (Aq Y)) Af
theorem aF8(x:Str):(!(Builtin.Str.occurrences x (Str.ofString "=") 0 x.length 1).isEmpty)=decide (61∈x.cps.toList):=by
 have:Str.ofString "=" = (⟨#[61]⟩:Str):=by decide +kernel
 rw[this];exact StrLaws.found_one x 61
inductive WS(a:Ad)(vs:List V)(H:Hp)(Q:VK):Prop
|mk (d:Br) (_:vs=[.str (Bb d)]) (_:d.ok) (_:∀(p:R_)(H':Hp),Ay H H'->DH a H' p d->Q (.ref p) H'):WS a vs H Q
def RG(a:Ad):Sp:=λvs H Q _=>WS a vs H Q
inductive aDM(a:Ad)(vs:List V)(H:Hp)(Q:VK):Prop
|mk (s:Int) (ns:I_) (_:vs=[.str (Bb (.am s ns))]) (_:(Br.am s ns).ok) (_:∀(p:R_)(H':Hp),Ay H H'->DH a H' p (.am s ns)->Q (.ref p) H'):aDM a vs H Q
def Zx(a:Ad):Sp:=λvs H Q _=>aDM a vs H Q
theorem aEj(F:Fun K "read_amounts" "read_amounts" FT f fd)(T:Top K mg a)(D:Cal P w K mg n9 CX0 1 "read_state" Sf Zv)(G:Cal P w K mg n9 CX0 1 "read_numbers" Gg aG0)
 (I:SU P w K mg n9 CX0 1 "Amounts" a.W_ PU (Pb a)):AL P w K mg n9 CX0 3 f fd Sf (Zx a):=by
 refine F.ok Jr D_9 λL A p s H vs Q E m h=>?_
 obtain⟨d,ns,rfl,v,k⟩:=h;have r:=MU v;refine xa3 v λq l u y=>?_;have R:=OS ns 0 A6 u y;have j:Str.ofString "=" = (⟨#[61]⟩:Str):=by decide +kernel
 have M:Txt.partition (Bb (.am d ns)) (Str.ofString "=")=(sgD d,⟨#[61]⟩,Ee ns):=by
  rw[j];refine Tx.GK 61 (sgD d) (Ee ns) ?_;intro z;have:61=48+d.toNat:=by simpa[sgD] using z
  have:=q.2;lia
 refine⟨_,(Ac (Ao (i:=1) Jr.nd Z O_9 (DJ A3f PySem.F.slot_str_partition PySem.F.type_str_partition Sw (pv 0) (Pt Ab))) (Ag (Aw (Lq I (rm m) Z Am (Aa (Ar D (rm m) Z Am (Aa (Aj An (pv 1) Ae R_9) Ab)) (Aa (Ar G (rm m) Z Am (Aa (Aj An (pv 1) Ae R_9) Ab)) Ab)))))),?_⟩
 try dsimp only[cxK]
 refine xq1 Z ⟨Z,(xq2 Z Z ⟨A3,A0,λt N=>?_⟩)⟩;rw[M];refine xq1 Z ⟨t,_,0,(xq1 Z ⟨Z,SqT.of Af,Z,d,Z,q,(xq1 Z ⟨t,_,2,(xq1 Z ⟨Z,SqT.of Af,Z,ns,Z,l,by lia,u,y,λC c O n=>?_⟩)⟩)⟩)⟩;intro x b nx e g;have S:Ay c (upd (upd c b (.own x)) x (.ins a.W_ b [])):=(Aq e).trans (Aq (by rw[Av (A1b g)];exact nx));refine⟨x,C,b,d,Z,Af,Z,?_⟩;have o:(upd c b (.own x)) x=o4:=by rw[Av (A1b g)];exact nx
 rw[GD];have B:Ay c (upd (upd c b (.own x)) x (.ins a.W_ b (fl2 "state" "numbers" (.int d) (.ref C)))):=(Aq e).trans (Aq o);exact k x _ (((Aq N).trans O).trans B) (.am Af (B _ _ n))
inductive aDN(a:Ad)(vs:List V)(H:Hp)(Q:VK):Prop
|mk (ws:List (Option Int)) (_:vs=[.str (Bb (.pl ws))]) (_:(Br.pl ws).ok) (_:∀(p:R_)(H':Hp),Ay H H'->DH a H' p (.pl ws)->Q (.ref p) H'):aDN a vs H Q
def Zw(a:Ad):Sp:=λvs H Q _=>aDN a vs H Q
theorem aEm(F:Fun K "read_places" "read_places" EQ f fd)(T:Top K mg a)(I:Cal P w K mg n9 CX0 2 "read_wanted" Sf aFC)
 (M:SU P w K mg n9 CX0 1 "Places" a.e_ QF (OX a)):AL P w K mg n9 CX0 3 f fd Sf (Zw a):=by
 refine F.ok Pe D_9 λL A r s H vs Q E D h=>?_
 obtain⟨b,rfl,C,k⟩:=h;have g:=MU C;obtain⟨B,S⟩:=C;have O:(Bb (.pl b)).length=8:=by rw[Nu.len];show(b.map wC).length=8;rw[B8,B]
 have y:(Bb (.pl b)).cps.toList=b.map wC:=rfl;refine⟨_,(Ac (AO (AA GM (AH Jq Z T.j_ A2g (Aa (pv 0) Ab)) (BZ Z T.aAG) (AF _)) (Ag Bk) Az) (Ag (Aw (Lq M (rm D) Z Am (Aa (BH CA Z T.m9 A3b (Aa (Cj Z (Bn.of (So:=Ah EQ) (No:=Sf) (N:=["sign"]) (k:=1) (cs:=[]) Z Z A3) (ZR (pv 0)) (λ_ _ _=>(AY (i:=0) A3 Z Z)) (λ_ _ _=>BB) (λ_ _ _=>(Ar I (rm D) Z Am (Aa (pv 0) Ab)))) Ab)) Ab))))),?_⟩
 try dsimp only[cxK]
 refine xw2 Z Z ⟨D0 g A6,Z,(xq1 Z ?_)⟩;rw[O];refine ML Z (xw2 Z Z ?_);refine aB4 (λi d c=>c=H/\d=(b.take i).map Ip) ⟨Z,Z⟩ ?_ ?_
 .intro i ch d c e u;obtain⟨rfl,rfl⟩:=u;rw[y,C1]at e;refine xea (D7.mp e) λx z l=>?_;subst l;refine⟨⟨[o3 (.str ⟨#[wC x]⟩)],Z,Z⟩,?_,?_⟩
  .rw[B8,J3];exact F7 (P7 _ _) (by rw[B];decide)
  .refine FP (xq1 Z ⟨x,Z,S x (D5 z),Z,?_⟩);rw[F4,z,C7];rfl
 .intro d c v q U;obtain⟨rfl,rfl⟩:=v;rw[y,B8,F8];refine⟨q,(xq1 Z (.inl ⟨SqL.of Af,λt R=>?_⟩))⟩;intro x j nx m n;have p:∀o,(upd (upd (upd c q (.lst (b.map Ip))) t (.tup (b.map Ip))) j o) x=o4:=λo=>by rw[Av (A1b n)];exact nx
  refine⟨x,t,j,Z,Af,Z,?_⟩;rw[GD];have V:Ay c (upd (upd c q (.lst (b.map Ip))) t (.tup (b.map Ip))):=(Aq U).trans (Aq R);have G:Ay (upd (upd c q (.lst (b.map Ip))) t (.tup (b.map Ip))) (upd (upd (upd (upd c q (.lst (b.map Ip))) t (.tup (b.map Ip))) j (.own x)) x (.ins a.e_ j (fl1 "wanted" (.ref t)))):=(Aq m).trans (Aq (p _));exact k x _ (V.trans G) (.pl Af (G _ _ Af))
theorem aBw(F:Fun K "read_condition" "read_condition" EB f fd)(T:Top K mg a)(j:Cal P w K mg n9 CX0 3 "read_amounts" Sf (Zx a))(l:Cal P w K mg n9 CX0 3 "read_places" Sf (Zw a)) :
 AL P w K mg n9 CX0 4 f fd Sf (RG a):=by
 refine F.ok Mr D_9 λn A c s H vs Q E i h=>?_
 obtain⟨d,rfl,b,k⟩:=h;refine⟨_,(Ac (AO (AA Yp Fs (pv 0) Z) (Ag (Aw (Ar j (rm i) Z Am (Aa (pv 0) Ab)))) Az) (Ag (Aw (Ar l (rm i) Z Am (Aa (pv 0) Ab))))),?_⟩
 try dsimp only[cxK]
 refine xwb Z Z Z (xq1 Z ?_);rw[aF8];cases d with
 |am s ns =>
  have m:61∈(Bb (.am s ns)).cps.toList:=by
   show 61∈(sgD s++⟨#[61]⟩++Ee ns).cps.toList;rw[Tx.CQ,Tx.CQ];simp
  rw[A0d m];exact Cr (xq1 Z ⟨s,ns,Z,b,k⟩)
 |pl g =>
  have m:¬61∈(Bb (.pl g)).cps.toList:=λz=>by
   exact xea (F1.mp (show 61∈g.map wC from z)) λx o e=>(QP (b.2 x o)).1 e
  rw[A0f m];exact Bc (xq1 Z ⟨g,Z,b,k⟩)
inductive aFk(a:Ad)(vs:List V)(H:Hp)(Q:VK):Prop
|mk (c:Be) (_:vs=[.str (BU c)]) (_:c.ok) (_:∀(p:R_)(H':Hp),Ay H H'->Ci a H' p c->Q (.ref p) H'):aFk a vs H Q
def aGy(a:Ad):Sp:=λvs H Q _=>aFk a vs H Q
theorem Ml{c:Be}(h:c.ok):(BU c).length<=1000:=by
 have j:=StrLaws.join_length_le ⟨#[32]⟩ (wS c.cell::(c.conds.map Bb++[sgD c.makes]));have b:∀l:List Br,(∀d∈l,d.ok)->((l.map Bb).map (·.length)).sum<=11*l.length:=by
  intro l;induction l with
  |nil=>intro _;exact J9 _
  |cons d r k =>
   intro f;have q:=MU (f d C8);have s:=k λe i=>f e (C9 _ i);simp only[F5,P4,D8];lia
 have p:=b c.conds h.conds;have g:=h.few;simp only[F5,C7,Z3,P4,List.sum_append,List.sum_nil,D8,C6,R8,B8]at j;have m:(wS c.cell).length=1:=rfl;have n:(sgD c.makes).length=1:=rfl;have o:(⟨#[32]⟩:Str).length=1:=rfl;rw[m,n,o]at j;unfold BU;lia
theorem Lz(x:Option Int)(h:wOk x):32∉(wS x).cps.toList/\59∉(wS x).cps.toList:=by
 have:=QP h;constructor
 .intro z;have:32=wC x:=by simpa[wS] using z
  exact(QP h).2.1 this.symm
 .intro z;have:59=wC x:=by simpa[wS] using z
  exact(QP h).2.2 this.symm
theorem SJ{c:Be}(h:c.ok):Txt.split (BU c) (Str.ofString " ")=wS c.cell::(c.conds.map Bb++[sgD c.makes]):=by
 have e:Str.ofString " " = (⟨#[32]⟩:Str):=by decide +kernel
 rw[e];refine Tx.Ti 32 _ B0 λt b=>?_;rcases C4.mp b with rfl|b
 .exact(Lz _ h.cell).1
 .rcases J7.mp b with b|b
  .refine xea (F1.mp b) λd g f=>?_;subst f;exact(Rr (h.conds d g)).1
  .rw[D4.mp b];exact(Lz (o3 c.makes) h.makes).1
theorem aB8(x z:V)(ys:List V):VL (x::(ys++[z])) (o3 1) (o3 (-1))=ys:=by
 have n:(x::(ys++[z])).length=ys.length+2:=by simp
 unfold VL;rw[n];have b:HT.sIx (ys.length+2) 0 (o3 1)=1:=by
  show(if(1:Int)<0 then((1:Int)+((ys.length+2:Nat):Int)).toNat else min (1:Int).toNat (ys.length+2))=1;rw[A0c A6];show min 1 (ys.length+2)=1;lia
 have c:HT.sIx (ys.length+2) (ys.length+2) (o3 (-1))=ys.length+1:=by
  show(if(-1:Int)<0 then((-1:Int)+((ys.length+2:Nat):Int)).toNat else min (-1:Int).toNat (ys.length+2))=ys.length+1;rw[A0e A6];lia
 rw[b,c];show(ys++[z]).take (ys.length+1-1)=ys;rw[Nat.add_sub_cancel,List.take_left' rfl]
theorem aB2(x:V)(ys:List V)(z:V):atI (x::(ys++[z])) (-1)=o3 z:=by
 have n:(x::(ys++[z])).length=ys.length+2:=by simp
 unfold atI ixN;rw[n,A0c A6,A0e A0];show(x::(ys++[z]))[((-1:Int)+((ys.length+2:Nat):Int)).toNat]?=o3 z;rw[show((-1:Int)+((ys.length+2:Nat):Int)).toNat=ys.length+1 by lia,Y9,J0 (C0 _),V3];rfl
theorem aGY(F:Fun K "read_clause" "read_clause" ER f fd)(T:Top K mg a)(aO:Cal P w K mg n9 CX0 1 "read_state" Sf Zv)(aU:Cal P w K mg n9 CX0 2 "read_wanted" Sf aFC)
 (bA:Cal P w K mg n9 CX0 4 "read_condition" Sf (RG a)) (dE:SU P w K mg n9 CX0 1 "Clause" a.a_ QJ (Pa a)):AL P w K mg n9 CX0 5 f fd Ih (aGy a):=by
 refine F.ok Eh D_9 λai A af s H vs Q E R h=>?_
 obtain⟨c,rfl,B,k⟩:=h;have ah:=Ml B;have U:=B.few;refine⟨_,(Ac (AO (Cy (Cf (AH DN Z T.V_ A2c (Aa (pv 0) (Aa (EV (v:=.ty "str") Z T.aAR A5d Z) Ab))))) (Ag Bk) Az) (Ac (Ao (i:=1) Eh.nd Z O_9 (DJ A3f PySem.F.slot_str_split PySem.F.type_str_split Ua (pv 0) (Pt Ab))) (Ac (AO (AA GN (AH Bh Z T.j_ A2g (Aa (pv 1) Ab)) Ae (AF _)) (Ag Bk) Az) (Ac (Ao (i:=2) Eh.nd Z O_9 (Ar aU (rm R) Z Am (Aa (Aj Ax (pv 1) Ae R_9) Ab))) (Ac (Ao (i:=3) Eh.nd Z O_9 (BH CA Z T.m9 A3b (Aa (Cj Z (Bn.of (So:=Ah ER) (No:=LK) (N:=["word"]) (k:=1) (cs:=[]) Z Z A3) (BY (TJ Wm (pv 1) (RV Ae) (RV (Fc Dm Ae)))) (λ_ _ _=>(AY (i:=0) A3 Z Z)) (λ_ _ _=>BB) (λ_ _ _=>(Ar bA (rm R) Z Am (Aa (pv 0) Ab)))) Ab))) (Ag (Aw (Lq dE (rm R) Z Am (Aa (pv 2) (Aa (pv 3) (Aa (Ar aO (rm R) Z Am (Aa (Aj Ax (pv 1) (Fc Dm Ae) R_9) Ab)) Ab))))))))))),?_⟩
 try dsimp only[cxK]
 refine xq1 Z ⟨_,_,_,.type "str",o5,Z,Z,.of (.str _),Wc K,o5,Z,?_⟩;refine Bc (xq1 Z ⟨Z,(xq2 Z Z ⟨A3,A0,λl hl=>?_⟩)⟩);rw[SJ B];have eW:((wS c.cell::(c.conds.map Bb++[sgD c.makes])).map V.str)=V.str (wS c.cell)::((c.conds.map λd=>V.str (Bb d))++[V.str (sgD c.makes)]):=by
  rw[F5,C7,M9];rfl
 rw[eW];have hL:∀o,upd H l o l=o3 o:=λo=>Af;refine xq1 Z ⟨l,(xq1 Z ⟨.inl (SqL.of Af),(xq2 Z Z (xq1 Z ?_))⟩)⟩;rw[A0f (by simp;lia:¬((((V.str (wS c.cell)::((c.conds.map λd=>V.str (Bb d))++[V.str (sgD c.makes)])).length:Nat):Int)<2))];refine Bc (xwi Z Z Z (SqL.of Af) (Ai (j:=0) Z) ⟨c.cell,Z,B.cell,?_⟩);refine xw3 Z Z Z (xq1 Z ⟨l,(xq1 Z ⟨SqL.of Af,λq X=>⟨q,Z,⟨_,SqL.of Af⟩,?_⟩⟩)⟩);rw[aB8];have s0:Ay H (upd (upd H l (.lst (V.str (wS c.cell)::((c.conds.map λd=>V.str (Bb d))++[V.str (sgD c.makes)])))) q (.lst (c.conds.map λd=>V.str (Bb d)))):=(Aq hl).trans (Aq X);have ad:l≠q:=λz=>by rw[<-z,Af]at X;cases X
 generalize n:upd (upd H l (.lst (V.str (wS c.cell)::((c.conds.map λd=>V.str (Bb d))++[V.str (sgD c.makes)])))) q (.lst (c.conds.map λd=>V.str (Bb d)))=D;rw[n]at s0;have Y:D q=o3 (.lst (c.conds.map λd=>V.str (Bb d))):=by rw[<-n];exact Af
 have W:D l=o3 (.lst (V.str (wS c.cell)::((c.conds.map λd=>V.str (Bb d))++[V.str (sgD c.makes)]))):=by rw[<-n,Av ad];exact Af
 refine Db (xs:=c.conds.map λd=>V.str (Bb d)) (λi e g=>∃b:List Addr,e=b.map V.ref/\Ay D g/\Paired (DH a g) b (c.conds.take i)) ⟨[],Z,Ay.refl D,.nil⟩ (λi e g _ ⟨b,_,L,_⟩=>SqL.of (L _ _ Y)) ?_ ?_
 .intro i x e g hx M;refine AS M λb m L I=>?_;clear M;subst m;rw[C1]at hx;refine xea (D7.mp hx) λd ed S=>?_;subst S;refine⟨⟨[o3 (.str (Bb d))],Z,Z⟩,?_,?_⟩
  .have e1:=A1e I;rw[J3]at e1;rw[B8,e1];exact F7 (P7 _ _) (F7 U A6)
  .refine FP (xq1 Z ⟨d,Z,B.conds d (D5 ed),λp y C hp=>⟨b++[p],by rw[C7];rfl,L.trans C,?_⟩⟩);rw[F4,ed];exact A4g (Paired.imp (λ_ _ z=>z.same C) I) hp
 .intro e g O r nr;refine AS O λb m L I=>?_;clear O;subst m;rw[B8,F8]at I;refine⟨r,(xq1 Z (.inl ⟨SqL.of Af,λt ht=>?_⟩))⟩;have C:Ay D (upd (upd g r (.lst (b.map V.ref))) t (.tup (b.map V.ref))):=(L.trans (Aq nr)).trans (Aq ht);generalize u:upd (upd g r (.lst (b.map V.ref))) t (.tup (b.map V.ref))=y;have aa:y t=o3 (.tup (b.map V.ref)):=by rw[<-u];exact Af
  have ag:Ay g y:=by rw[<-u];exact(Aq nr).trans (Aq ht)
  rw[u]at C;refine xw3 Z Z Z (xq1 Z ⟨l,_,(xq2 Z Z ⟨SqL.of (C _ _ W),aB2 _ _ _,c.makes,Z,B.makes,?_⟩)⟩);intro x G nx ab ac;have ae:∀o,(upd y G o) x=o4:=λo=>by rw[Av (A1b ac)];exact nx
  refine⟨x,t,G,c.cell,c.makes,Z,Af,Z,?_⟩;rw[GD];have s4:Ay y (upd (upd y G (.own x)) x (.ins a.a_ G (fl3 "cell" "conditions" "makes" (Ip c.cell) (.ref t) (.int c.makes)))):=(Aq ab).trans (Aq (ae _));exact k x _ ((s0.trans C).trans s4) ⟨G,t,b,Af,s4 _ _ aa,Paired.imp (λ_ _ z=>(z.same ag).same s4) I⟩
theorem Ux{c:Be}(h:c.ok):59∉(BU c).cps.toList:=by
 intro z;unfold BU at z;rw[PyProof.Rows.mem_join]at z;rcases z with ⟨t,b,z⟩|⟨_,z⟩
 .rcases C4.mp b with rfl|b
  .exact(Lz _ h.cell).2 z
  .rcases J7.mp b with b|b
   .refine xea (F1.mp b) λd f e=>?_;subst e;exact(Rr (h.conds d f)).2 z
   .rw[D4.mp b]at z;exact(Lz (o3 c.makes) h.makes).2 z
 .have:59=32:=by simpa using z
  lia
end
structure Gz(r:AB):Prop where
few:r.length<=50
ok:∀c∈r,c.ok
theorem Gz.rok(h:Gz r):ROk r:=⟨D0 h.few A6,λc a=>⟨D0 (h.ok c a).few A6,λd b f e=>by
 subst e;rw[((h.ok c a).conds _ b).1];decide⟩⟩
theorem Tv(h:Gz r):(Ea r).length<=60000:=by
 have j:=StrLaws.join_length_le Rc (r.map BU);have b:∀l:List Be,(∀c∈l,c.ok)->((l.map BU).map (·.length)).sum<=1000*l.length:=by
  intro l;induction l with
  |nil=>intro _;exact J9 _
  |cons d r i =>
   intro a;have n:=Ml (a d C8);have o:=i λe g=>a e (C9 _ g);simp only[F5,P4,D8];omega
 have m:=b r h.ok;have f:=h.few;have k:Rc.length=2:=rfl;rw[k,B8]at j;unfold Ea;omega
theorem aCu(h:r≠[]):decide (V.str (Ea r)=V.str (Str.ofString ""))=o6:=by
 refine A0f λz=>?_;injection z with z
 obtain⟨c,b⟩:=List.exists_mem_of_ne_nil r h;have d:=PySem.join_mem_le Rc (r.map BU) (BU c) (F1.mpr ⟨c,b,Z⟩);have e:=PySem.join_mem_le ⟨#[32]⟩ (wS c.cell::(c.conds.map Bb++[sgD c.makes])) (wS c.cell) C8;have f:(wS c.cell).length=1:=rfl;have a:(Ea r).length=0:=by rw[z];decide +kernel
 unfold Ea at a;have g:(BU c).length=(Str.join ⟨#[32]⟩ (wS c.cell::(c.conds.map Bb++[sgD c.makes]))).length:=rfl;omega
theorem DH.put{p q:R_}{c:Br}(h:DH a H q c)(i:H p=o3 u)(n:∀C d fs,u=HO.ins C d fs->fs.lookup ("state" : Str)=o4/\fs.lookup ("wanted" : Str)=o4/\fs.lookup ("makes" : Str)=o4)(nt:∀xs,u≠.tup xs):DH a (upd H p o) q c:=by
 have f:∀{b v},H b=o3 v->v≠u->upd H p o b=o3 v:=λ{b v} e d=>by rw[Av (AE e i d)];exact e
 cases h with
 |am h g =>
  refine .am (f h λz=>?_) (f g λz=>nt _ z.symm);have:=(n _ _ _ z.symm).1;rw[aA6 A3]at this;cases this
 |pl h g =>
  refine .pl (f h λz=>?_) (f g λz=>nt _ z.symm);have:=(n _ _ _ z.symm).2.1;rw[aDZ]at this;cases this
theorem Ci.put{p q:R_}{c:Be}(h:Ci a H q c)(g:H p=o3 u)(n:∀C d fs,u=HO.ins C d fs->fs.lookup ("state" : Str)=o4/\fs.lookup ("wanted" : Str)=o4/\fs.lookup ("makes" : Str)=o4)(nt:∀xs,u≠.tup xs):Ci a (upd H p o) q c:=by
 have f:∀{b v},H b=o3 v->v≠u->upd H p o b=o3 v:=λ{b v} e d=>by rw[Av (AE e g d)];exact e
 refine CL h.ex λi t cs j k l=>⟨i,t,cs,f j λz=>?_,f k λz=>nt _ z.symm,Paired.imp (λ_ _ z=>z.put g n nt) l⟩
 have:=(n _ _ _ z.symm).2.2;rw[aDa]at this;cases this
section
variable{P:N_}{w:Q_}{K:O_}{mg:C_}{n9:T_}{a:Ad}
inductive aFa(vs:List V)(H:Hp)(Q:VK):Prop
|mk (r:AB) (_:vs=[.str (Ea r)]) (_:Gz r) (_:∀(l:R_)(H':Hp),Ay H H'->H' l=o3 (.lst (r.map λc=>V.str (BU c)))->Q (.ref l) H'):aFa vs H Q
def aGr:Sp:=λvs H Q _=>aFa vs H Q
theorem aGT(F:Fun K "clause_texts" "clause_texts" FV f fd)(T:Top K mg a):AL P w K mg n9 CX0 1 f fd Ih aGr:=by
 refine F.ok Oo D_9 λn A i s H vs Q E u h=>?_
 obtain⟨r,rfl,m,k⟩:=h;have j:=Tv m;refine⟨_,(Ac (AO (AA Dj (pv 0) Fs (AF _)) (Ag (Aw (Cp Ab))) Az) (Ag (Aw (DJ A3f PySem.F.slot_str_split PySem.F.type_str_split Ua (pv 0) (Aa (OH Z T.aAL) Ab))))),?_⟩
 try dsimp only[cxK]
 refine xq1 Z ⟨Z,(xq1 Z ?_)⟩;by_cases b:r=[]
 .subst b;refine Cr ⟨S_0,λl g=>?_⟩;exact k l _ (Aq g) Af
 .rw[aCu b];refine Bc (xq1 Z ⟨Z,(xq2 Z Z ⟨A3,B1,λl g=>?_⟩)⟩);have o:Str.ofString "; " = (⟨#[59,32]⟩:Str):=by decide +kernel
  have e:Txt.split (Ea r) (Str.ofString "; ")=r.map BU:=by
   rw[o];refine Tx.Th _ (by simpa using b) λt q=>?_;refine xea (F1.mp q) λc p d=>?_;subst d;exact Ux (m.ok c p)
  rw[e,M9];exact k l _ (Aq g) Af
inductive aFl(a:Ad)(vs:List V)(H:Hp)(Q:VK):Prop
|mk (p dx:R_) (r:AB) (_:vs=[.ref p,.str (Ea r)]) (_:H p=o3 (.ins a.l7 dx [])) (_:Gz r) (_:∀H',(∀b o,H b=o3 o->b≠p->H' b=o3 o)->CS a H' p (Ea r) r->Q .non H'):aFl a vs H Q
def aGz(a:Ad):Sp:=λvs H Q _=>aFl a vs H Q
theorem aGZ(F:Fun K "__init__" "Rule.__init__" GJ f fd)(T:Top K mg a)(bU:Cal P w K mg n9 CX0 1 "clause_texts" Ih aGr)(cD:Cal P w K mg n9 CX0 5 "read_clause" Ih (aGy a)) :
 AL P w K mg n9 CX0 6 f fd Om (aGz a):=by
 refine F.ok RS D_9 λae A ac s H vs Q E hr h=>?_
 obtain⟨p,y,r,rfl,hp,X,k⟩:=h;have ad:=Tv X;have aa:=X.few;refine⟨_,(Ac (CO (pv 0) (pv 1) Z) (Ag (CO (pv 0) (BH CA Z T.m9 A3b (Aa (Cj Z (Bn.of (So:=Ah GJ) (No:=Om) (N:=["part"]) (k:=1) (cs:=[]) Z Z A3) (BY (Ar bU (rm hr) Z Am (Aa (pv 1) Ab))) (λ_ _ _=>(AY (i:=0) A3 Z Z)) (λ_ _ _=>BB) (λ_ _ _=>(Ar cD (rm hr) Z Am (Aa (pv 0) Ab)))) Ab)) Z))),?_⟩
 try dsimp only[cxK]
 refine xw2 Z Z ⟨p,_,y,[],Z,hp,T.aAF,T.aAH,B4,?_⟩;generalize I:upd H p (.ins a.l7 y (AW "text" (.str (Ea r)) []))=H1;have D:H1 p=o3 (.ins a.l7 y (AW "text" (.str (Ea r)) [])):=by rw[<-I];exact Af
 have k1:∀b o,H b=o3 o->b≠p->H1 b=o3 o:=λb o e n=>by rw[<-I,Av n];exact e
 refine xq1 Z ⟨r,Z,X,λl H2 s2 hl=>⟨l,Z,⟨_,SqL.of hl⟩,?_⟩⟩;refine Db (xs:=r.map λc=>V.str (BU c)) (λi j u=>∃g:List Addr,j=g.map V.ref/\Ay H2 u/\Paired (Ci a u) g (r.take i)) ⟨[],Z,Ay.refl H2,.nil⟩ (λi j u _ ⟨g,_,S,_⟩=>SqL.of (S _ _ hl)) ?_ ?_
 .intro i x j u hx U;refine AS U λg B S M=>?_;clear U;subst B;rw[C1]at hx;refine xea (D7.mp hx) λc ec Y=>?_;subst Y;refine⟨⟨[o3 (.str (BU c))],Z,Z⟩,?_,?_⟩
  .have e1:=A1e M;rw[J3]at e1;rw[B8,e1];exact F7 (P7 _ _) (F7 aa A6)
  .refine FP (xq1 Z ⟨c,Z,X.ok c (D5 ec),λq v s4 hq=>⟨g++[q],by rw[C7];rfl,S.trans s4,?_⟩⟩);rw[F4,ec];exact A4g (Paired.imp (λ_ _ z=>z.same s4) M) hq
 .intro j u W q nq;refine AS W λg B S M=>?_;clear W;subst B;rw[B8,F8]at M;refine⟨q,(xq1 Z (.inl ⟨SqL.of Af,λt ht=>?_⟩))⟩;generalize L:upd (upd u q (.lst (g.map V.ref))) t (.tup (g.map V.ref))=v;have R:Ay u v:=by rw[<-L];exact(Aq nq).trans (Aq ht)
  have G:v t=o3 (.tup (g.map V.ref)):=by rw[<-L];exact Af
  have m:=(s2.trans S).trans R;have ab:t≠p:=λz=>by rw[z,m _ _ D]at G;cases G
  refine xq1 Z ⟨p,_,y,(xq1 Z ⟨m _ _ D,T.aAF,T.l4,B7,?_⟩)⟩;have up:∀b o,v b=o3 o->b≠p->upd v p (.ins a.l7 y (fl2 "text" "clauses" (.str (Ea r)) (.ref t))) b=o3 o:=λb o e n=>by rw[Av n];exact e
  have cl:∀O c,Ci a v O c->Ci a (upd v p (.ins a.l7 y (fl2 "text" "clauses" (.str (Ea r)) (.ref t)))) O c:=λO c hc=>by
   exact hc.put (m _ _ D) (λC d fs e=>by
    cases e;exact⟨SG A3,SG A3,SG A3⟩) (λxs z=>by cases z)
  exact k _ (λb o e n=>up _ _ (m _ _ (k1 b o e n)) n) ⟨y,t,g,Af,up _ _ G ab,Paired.imp (λO c z=>cl O c (z.same R)) M⟩
noncomputable def BL:List Int:=[0,0,0,0,0,0,0,0]
inductive aFn(a:Ad)(vs:List V)(H:Hp)(Q:VK):Prop
|mk (r:AB) (_:vs=[.str (Ea r)]) (_:Gz r) (_:CK r 0 BL=0) (_:∀(p:R_)(H':Hp),Ay H H'->CS a H' p (Ea r) r->Q (.ref p) H'):aFn a vs H Q
def aG1(a:Ad):Sp:=λvs H Q _=>aFn a vs H Q
theorem aGb(F:Fun K "read_rule" "read_rule" JH f fd)(T:Top K mg a)(D:SU P w K mg n9 CX0 6 "Rule" a.l7 Om (aGz a))(B:Cal P w K mg n9 CX0 5 "becomes" Mg (Wl a)) :
 AL P w K mg n9 CX0 8 f fd Ih (aG1 a):=by
 refine F.ok Mq D_9 λC A g s H vs Q E t h=>?_
 obtain⟨r,rfl,q,I,k⟩:=h;refine⟨_,(Ac (AO (Cy (Cf (AH DN Z T.V_ A2c (Aa (pv 0) (Aa (EV (v:=.ty "str") Z T.aAR A5d Z) Ab))))) (Ag Bk) Az) (Ac (Ao (i:=1) Mq.nd Z O_9 (Lq D (rm t) Z Am (Aa (pv 0) Ab))) (Ac (AO (AA GM (Ar B (rm t) Z Am (Aa (pv 1) (AI (AV aEt (Cp (AI Ab)) (BZ Z T.aAG) Ab)))) Ae (AF _)) (Ag Bk) Az) (Ag (Aw (pv 1)))))),?_⟩
 try dsimp only[cxK]
 refine xq1 Z ⟨_,_,_,.type "str",o5,Z,Z,.of (.str _),Wc K,o5,Z,?_⟩;refine Bc (xq1 Z ?_);intro x G nx d L;refine⟨x,G,r,Z,Af,q,λy kp j=>⟨Z,?_⟩⟩;have M:Ay H y:=λb o e=>kp b o (by rw[Av (As e nx),Av (As e d)];exact e) (As e nx);refine xq1 Z ⟨S_1,λl n=>?_⟩;refine⟨l,8,(xq1 Z ⟨Z,Af,A6,A6,A6,λm p=>?_⟩)⟩;have N:=(M.trans (Aq (o:=.lst [.int 0]) n)).trans (Aq (o:=.lst (BL.map V.int)) p);have c:=(Aq (o:=.lst [.int 0]) n).trans (Aq (o:=.lst (BL.map V.int)) p);refine⟨x,m,_,r,0,BL,Z,j.same c,q.rok,Af,λz u=>?_⟩;refine⟨Z,(xq1 Z ?_)⟩;rw[I];refine ML Z (xq1 Z ?_);exact k x z (N.trans u) ((j.same c).same u)
end
end J
namespace J
open PySem L2
structure Sq where
parts:List Int
lev:Int
abbrev Gv:=List Sq
structure GA where
p:Addr
dx:Addr
lv:Addr
pt:Addr
nm:Addr
br:Addr
am:Addr
bx:Addr
noncomputable def fl6(g:GA):List (Str×V):=AW "boxes" (.ref g.bx) (AW "amounts" (.ref g.am) (AW "bares" (.ref g.br) (AW "numbers" (.ref g.nm) (AW "parts" (.ref g.pt) (AW "levels" (.ref g.lv) [])))))
theorem Fy(g:GA):(fl6 g).lookup ("levels" : Str)=o3 (V.ref g.lv):=by
 unfold fl6;rw[Ak,A0c A3,Ak,A0c A3,Ak,A0c A3,Ak,A0c A3,Ak,A0c A3,Ak,A0e rfl]
theorem Cz(g:GA):(fl6 g).lookup ("parts" : Str)=o3 (V.ref g.pt):=by
 unfold fl6;rw[Ak,A0c A3,Ak,A0c A3,Ak,A0c A3,Ak,A0c A3,Ak,A0e rfl]
theorem aA9(g:GA):(fl6 g).lookup ("numbers" : Str)=o3 (V.ref g.nm):=by
 unfold fl6;rw[Ak,A0c A3,Ak,A0c A3,Ak,A0c A3,Ak,A0e rfl]
theorem Jm(g:GA):(fl6 g).lookup ("bares" : Str)=o3 (V.ref g.br):=by
 unfold fl6;rw[Ak,A0c A3,Ak,A0c A3,Ak,A0e rfl]
theorem VJ(g:GA):(fl6 g).lookup ("amounts" : Str)=o3 (V.ref g.am):=by
 unfold fl6;rw[Ak,A0c A3,Ak,A0e rfl]
theorem aA8(g:GA):(fl6 g).lookup ("boxes" : Str)=o3 (V.ref g.bx):=by
 unfold fl6;rw[Ak,A0e rfl]
theorem Fw(g:GA)(a:¬m=("boxes" : Str))(b:¬m=("amounts" : Str))(c:¬m=("bares" : Str))(d:¬m=("numbers" : Str))(e:¬m=("parts" : Str))(f:¬m=("levels" : Str)):(fl6 g).lookup m=o4:=by
 unfold fl6;rw[Ak,A0c a,Ak,A0c b,Ak,A0c c,Ak,A0c d,Ak,A0c e,Ak,A0c f];rfl
theorem Sc(g:GA):(fl6 g).lookup ("kept" : Str)=o4:=Fw g A3 A3 A3 A3 A3 A3
theorem BT(g:GA):(fl6 g).lookup ("linked" : Str)=o4:=Fw g A3 A3 A3 A3 A3 A3
theorem Pz(g:GA):(fl6 g).lookup ("check_square" : Str)=o4:=Fw g A3 A3 A3 A3 A3 A3
theorem RZ(g:GA):(fl6 g).lookup ("leaf" : Str)=o4:=Fw g A3 A3 A3 A3 A3 A3
theorem EL(g:GA):(fl6 g).lookup ("level_of" : Str)=o4:=Fw g A3 A3 A3 A3 A3 A3
theorem aBj(g:GA):(fl6 g).lookup ("solid" : Str)=o4:=Fw g A3 A3 A3 A3 A3 A3
theorem Px(g:GA):(fl6 g).lookup ("state_of" : Str)=o4:=Fw g A3 A3 A3 A3 A3 A3
noncomputable def kOf(ps:I_):List Key:=ps.map Sum.inl
theorem aBN(a:I_):(kOf a).map kV=a.map V.int:=by unfold kOf;rw[M9];rfl
theorem Lx:∀{a qs:I_},kOf a=kOf qs->a=qs
|[],[],_=>rfl
|[],_::_,h=>by cases h
|_::_,[],h=>by cases h
|x::r,y::t,h=>by
 have h:=h;injection h with h1 h2
 injection h1 with h1
 rw[h1,Lx h2]
noncomputable def Li:Nat->Gv->List (List Key×V)
|_,[]=>[]
|n,q::r=>(kOf q.parts,.int (n:Int))::Li (n+1) r
theorem Uk:∀(G:Gv)(n:Nat),(Li n G).length=G.length
|[],_=>rfl
|q::r,n=>by show(Li (n+1) r).length+1=r.length+1;rw[Uk r]
theorem Rf(q:Sq):∀(G:Gv)(n:Nat),Li n (G++[q])=Li n G++[(kOf q.parts,.int ((n+G.length:Nat):Int))]
|[],_=>rfl
|p::r,n=>by
 show(kOf p.parts,V.int (n:Int))::Li (n+1) (r++[q])=_;rw[Rf q r (n+1)];show _=(kOf p.parts,V.int (n:Int))::(Li (n+1) r++[(kOf q.parts,V.int ((n+(r.length+1):Nat):Int))]);rw[show n+1+r.length=n+(r.length+1) by lia]
theorem SA(a:I_):∀(G:Gv)(n:Nat),(∃(i:Nat)(q:Sq),G[i]?=o3 q/\q.parts=a/\BK (Li n G) (kOf a)=o3 (.int ((n+i:Nat):Int)))\/(BK (Li n G) (kOf a)=o4/\∀q∈G,q.parts≠a)
|[],n=>.inr ⟨Z,λq b=>by simp at b⟩
|p::r,n=>by
 by_cases e:p.parts=a
 .exact .inl ⟨0,p,Z,e,BW (by rw[e])⟩
 .have c:¬(kOf p.parts,V.int (n:Int)).1=kOf a:=λz=>e (Lx z);rcases SA a r (n+1)with ⟨i,q,h1,h2,h3⟩|⟨h1,h2⟩
  .refine .inl ⟨i+1,q,h1,h2,?_⟩;show BK ((kOf p.parts,V.int (n:Int))::Li (n+1) r) (kOf a)=_;rw[BD c,h3,show n+1+i=n+(i+1) by lia]
  .refine .inr ⟨?_,λq b=>?_⟩
   .show BK ((kOf p.parts,V.int (n:Int))::Li (n+1) r) (kOf a)=_;rw[BD c,h1]
   .rcases C4.mp b with rfl|b
    .exact e
    .exact h2 q b
def aFw(H:Hp)(t:R_)(q:Sq):Prop:=H t=o3 (.tup (q.parts.map V.int))
structure AJ(a:Ad)(H:Hp)(g:GA)(G:Gv):Prop where
hp:H g.p=o3 (.ins a.J5 g.dx (fl6 g))
lv:H g.lv=o3 (.lst (G.map λq=>.int q.lev))
pt:∃ts:List Addr,H g.pt=o3 (.lst (ts.map V.ref))/\Paired (aFw H) ts G
nm:H g.nm=o3 (.dT (Li 0 G))
ne:g.lv≠g.pt
def Fr(g:GA)(H H':Hp):Prop:=∀b o,H b=o3 o->b≠g.lv->b≠g.pt->b≠g.nm->H' b=o3 o
theorem Fr.refl(g:GA)(H:Hp):Fr g H H:=λ_ _ e _ _ _=>e
theorem Fr.trans{a c d:Hp}(h:Fr g a c)(k:Fr g c d):Fr g a d:=λb o e f i j=>k b o (h b o e f i j) f i j
theorem Ay.fr{a c:Hp}(h:Ay a c):Fr g a c:=λb o e _ _ _=>h b o e
theorem PairedM.imp{α β:Type}{F G:α->β->Prop}(h:∀x y,F x y->G x y):∀{l:List α}{m:List β},Paired F l m->Paired G l m
|_,_,.nil=>.nil
|_,_,.cons r t=>.cons (h _ _ r) (PairedM.imp h t)
theorem PairedM.get{α β:Type}{F:α->β->Prop}:∀{l:List α}{m:List β}{i:Nat}{y:β},Paired F l m->m[i]?=o3 y->∃x,l[i]?=o3 x/\F x y
|_,_,_,_,.nil,e=>by simp at e
|_,_,0,_,.cons r _,e=>by simp at e;subst e;exact⟨_,Z,r⟩
|_,_,i+1,y,.cons _ t,e=>by
 exact xea (PairedM.get (i:=i) (y:=y) t (by simpa using e)) λx a b=>⟨x,by simpa using a,b⟩
theorem AM(h:H p=o4):Ay H (upd H p o):=λb u e=>by
 rw[Av (As e h)];exact e
theorem AJ.same{a:Ad}{H b:Hp}{g:GA}{G:Gv}(s:Ay H b)(h:AJ a H g G):AJ a b g G:=by
 obtain⟨c,d,⟨k,e,f⟩,i,j⟩:=h;exact⟨s _ _ c,s _ _ d,⟨k,s _ _ e,PairedM.imp (λt q z=>s _ _ z) f⟩,s _ _ i,j⟩
theorem AJ.put{a:Ad}{H:Hp}{g:GA}{G:Gv}{l:R_}{xs:List V}{o:HO}(p:H l=o3 (.lst xs))(r:l≠g.lv)(s:l≠g.pt)(h:AJ a H g G):AJ a (upd H l o) g G:=by
 obtain⟨d,f,⟨u,i,j⟩,k,m⟩:=h;have c:∀{b v},H b=o3 v->v≠.lst xs->upd H l o b=o3 v:=λ{b v} e n=>by rw[Av (AE e p n)];exact e
 exact⟨c d A4,by rw[Av (A1b r)];exact f,⟨u,by rw[Av (A1b s)];exact i,PairedM.imp (λt q z=>c z A4) j⟩,c k A4,m⟩
def Al(G:Gv)(x:Nat)(l:Int):Prop:=∃q,G[x]?=o3 q/\q.lev=l
structure GOk(G:Gv):Prop where
leaf:∀s:Nat,s<8->G[s]?=o3 ⟨[(s:Int)],0⟩
node:∀(i:Nat) q,G[i]?=o3 q->8<=i->∃x y z w:Nat,q.parts=[(x:Int),(y:Int),(z:Int),(w:Int)]/\(Al G x (q.lev-1)/\Al G y (q.lev-1)/\Al G z (q.lev-1)/\Al G w (q.lev-1))/\1<=q.lev/\q.lev<=48
nd:(G.map Sq.parts).Nodup
theorem Al.lt(h:Al G x l):x<G.length:=by
 exact xea h λq h _=>(B9.mp h).1
theorem MN{G r:Gv}{x:Nat}{q:Sq}(h:G[x]?=o3 q):(G++r)[x]?=o3 q:=by
 rw[M5 (B9.mp h).1];exact h
theorem Al.app{G r:Gv}{x:Nat}{l:Int}(h:Al G x l):Al (G++r) x l:=by
 exact xea h λq h e=>⟨q,MN h,e⟩
theorem GOk.lev{G:Gv}(h:GOk G){i:Nat}{q:Sq}(e:G[i]?=o3 q):0<=q.lev/\q.lev<=48:=by
 by_cases c:i<8
 .rw[h.leaf i c]at e;cases e;exact⟨Int.le_refl 0,by show(0:Int)<=48;decide⟩
 .refine xe4 (h.node i q e A0) λx y z w a=>?_;refine xa3 a λ_ _ d b=>?_;exact⟨by lia,b⟩
theorem GOk.snoc{G:Gv}(h:GOk G){x y z w:Nat}{l:Int}(B:Al G x l)(C:Al G y l)(D:Al G z l)(A:Al G w l)(o:l<=47)(new:∀q∈G,q.parts≠[(x:Int),(y:Int),(z:Int),(w:Int)]):GOk (G++[⟨[(x:Int),(y:Int),(z:Int),(w:Int)],l+1⟩]) where
 leaf:=λs v=>MN (h.leaf s v)
 node:=λi q e hi=>by
  by_cases r:i<G.length
  .rw[M5 r]at e;obtain⟨x,y,z,w,m,⟨d,f,g,j⟩,n⟩:=h.node i q e hi;exact⟨x,y,z,w,m,⟨d.app,f.app,g.app,j.app⟩,n⟩
  .rw[J0 A0]at e;have:i-G.length=0:=by
    by_cases z:i-G.length=0
    .exact z
    .rw[S4 (by rw[S3];lia)]at e;cases e
   rw[this]at e;cases e;refine xea B λH c E=>?_;have:=(h.lev c).1;have k:l+1-1=l:=by lia
   refine⟨x,y,z,w,Z,?_,?_,?_⟩
   .show Al _ x (l+1-1)/\Al _ y (l+1-1)/\Al _ z (l+1-1)/\Al _ w (l+1-1);rw[k];exact⟨Al.app ⟨H,c,E⟩,C.app,D.app,A.app⟩
   .show 1<=l+1;lia
   .show l+1<=48;lia
 nd:=by
  rw[C7,S5];refine⟨h.nd,by simp,λp t F b=>?_⟩;refine xea (F1.mp t) λq u a=>?_;subst a;rw[show F=[(x:Int),(y:Int),(z:Int),(w:Int)] by simpa using b];exact new q u
theorem GOk.one{G:Gv}(h:GOk G){i j:Nat}{p q:Sq}(hi:G[i]?=o3 p)(a:G[j]?=o3 q)(e:p.parts=q.parts):i=j:=by
 have c:=(B9.mp hi).1;have d:=(B9.mp a).1;have b:(G.map Sq.parts)[i]'(by rw[B8];exact c)=(G.map Sq.parts)[j]'(by rw[B8];exact d):=by
  rw[Y6,Y6,(B9.mp hi).2,(B9.mp a).2,e]
 exact(List.getElem_inj h.nd).mp b
seal L2.PA L2.PE L2.PS L2.PSs L2.PT L2.PW
theorem Fe(h:n<10000000):n<sizeLine:=F9 h A6
theorem Rg(K:O_):kitOne K (.type "int") (.type "int")=o3 o5/\kitOne K (.type "int") (.type "bool")=o3 o6:=⟨by kernel_rfl,by kernel_rfl⟩
section
variable{P:N_}{w:Q_}{K:O_}{mg:C_}{n9:T_}{a:Ad}
inductive aFj(vs:List V)(H:Hp)(Q:VK):Prop
|mk (i:Int) (_:vs=[.int i]) (_:Q (.bl o5) H):aFj vs H Q
def UT:Sp:=λvs H Q _=>aFj vs H Q
theorem aGX(F:Fun K "is_whole" "is_whole" LT f fd)(T:Top K mg a):AL P w K mg n9 CX0 1 f fd Vk UT:=by
 refine F.ok Tr D_9 λc A b s H vs Q E d h=>?_
 obtain⟨i,rfl,k⟩:=h;exact⟨_,(Ag (Aw (Md (AH DN Z T.V_ A2c (Aa (pv 0) (Aa (EV (v:=.ty "int") Z T.aAM A4d Z) Ab))) (Nt (aEv (AH DN Z T.V_ A2c (Aa (pv 0) (Aa (EV (v:=.ty "bool") Z T.aAU A8g Z) Ab)))))))),(xq1 Z ⟨_,_,_,.type "int",o5,Z,Z,.of (.int i),(Rg K).1,o5,Z,Cr (xq1 Z ⟨_,_,_,.type "int",o6,Z,Z,.of (.int i),(Rg K).2,o6,Z,k⟩)⟩)⟩
inductive aFi(vs:List V)(H:Hp)(Q:VK):Prop
|mk (i:Int) (_:vs=[.int i]) (_:0<=i) (_:i<8) (_:Q (.bl o5) H):aFi vs H Q
def aFB:Sp:=λvs H Q _=>aFi vs H Q
theorem aGW(F:Fun K "is_state" "is_state" LU f fd)(T:Top K mg a)(c:Cal P w K mg n9 CX0 1 "is_whole" Vk UT):AL P w K mg n9 CX0 2 f fd Vk aFB:=by
 refine F.ok Ts D_9 λd A b s H vs Q E j h=>?_
 obtain⟨i,rfl,e,g,k⟩:=h;refine⟨_,(Ag (Aw (Md (Ar c (rm j) Z Am (Aa (pv 0) Ab)) (Nt (ZV JY GN Ae (pv 0) (BZ Z T.aAS)))))),?_⟩
 try dsimp only[cxK]
 refine xq1 Z ⟨i,Z,o5,Z,Cr (xwb Z Z Z (xq1 Z ?_))⟩;rw[A0d e];refine Cr (xq2 Z Z ?_);show Q (.bl (decide (i<8))) H;rw[A0d g];exact k
inductive aAh(a:Ad)(vs:List V)(H:Hp)(Q:VK):Prop
|mk (g:GA) (G:Gv) (t:R_) (ps:I_) (l:Int) (_:vs=[.ref g.p,.ref t,.int l]) (_:AJ a H g G) (_:H t=o3 (.tup (ps.map V.int))) (_:(∀q∈G,q.parts≠ps)) (_:G.length<9000000) (_:∀H',Fr g H H'->AJ a H' g (G++[⟨ps,l⟩])->Q (.int (G.length:Int)) H'):aAh a vs H Q
def RJ(a:Ad):Sp:=λvs H Q _=>aAh a vs H Q
theorem aCc(F:Fun K "kept" "Grove.kept" IU f fd)(T:Top K mg a):AL P w K mg n9 CX0 1 f fd FJ (RJ a):=by
 refine F.ok LI D_9 λaa A X s H vs Q E hr h=>?_
 obtain⟨g,G,t,j,l,rfl,hg,ht,new,few,k⟩:=h;obtain⟨d,r,⟨Y,O,h4⟩,y,S⟩:=hg;have lt:=A1e h4;refine⟨_,(Ac (Ao (i:=3) LI.nd Z O_9 (AH Bh Z T.j_ A2g (Aa (AC (pv 0) Z) Ab))) (Ac (FH (Ed hr) (AC (pv 0) Z) (pv 1) (pv 3) Z) (Ac (Bp (DJ A1g A1h A2a Cb (AC (pv 0) Z) (Aa (pv 2) Ab))) (Ac (Bp (DJ A1g A1h A2a Cb (AC (pv 0) Z) (Aa (pv 1) Ab))) (Ag (Aw (pv 3))))))),?_⟩
 try dsimp only[cxK]
 refine xwf Z Z d T.J4 T.Q3 (Fy g) ⟨g.lv,(xq1 Z ⟨.inl (SqL.of r),?_⟩)⟩;rw[B8];have m:=AE d y A4;have p:=AE r y A4;have I:=AE O y A4;have L:=AE d r A4;have W:=AE d O A4;have vn:BK (Li 0 G) (kOf j)=o4:=by
  rcases SA j G 0 with ⟨i,q,e1,e2,_⟩|⟨e,_⟩
  .exact absurd e2 (new q (D5 e1))
  .exact e
 refine xw2 Z Z (xq5 d T.J4 T.g_ (aA9 g) (xq1 Z ⟨g.nm,(xq1 Z ⟨Mm.t (k:=kOf j) y (by rw[aBN];exact ht) (by rw[Uk];exact Fe A0),?_⟩)⟩));rw[Mw _ vn];have e5:Li 0 G++[(kOf j,V.int (G.length:Int))]=Li 0 (G++[⟨j,l⟩]):=by rw[Rf,O2]
 rw[e5];generalize B:upd H g.nm (.dT (Li 0 (G++[⟨j,l⟩])))=M;have u:∀b o,H b=o3 o->b≠g.nm->M b=o3 o:=λb o e n=>by rw[<-B,Av n];exact e
 have n1:M g.nm=o3 (.dT (Li 0 (G++[⟨j,l⟩]))):=by rw[<-B];exact Af
 refine xwf Z Z (u _ _ d m) T.J4 T.Q3 (Fy g) ⟨.inl ⟨Z,_,SqL.of (u _ _ r p)⟩,(xq1 Z ⟨g.lv,(xq2 Z Z ⟨u _ _ r p,by rw[B8];exact Fe A0,?_⟩)⟩)⟩;generalize C:upd M g.lv (.lst ((G.map λq=>V.int q.lev)++[.int l]))=N;have R:∀b o,M b=o3 o->b≠g.lv->N b=o3 o:=λb o e n=>by rw[<-C,Av n];exact e
 have n2:N g.lv=o3 (.lst ((G++[(⟨j,l⟩:Sq)]).map λq=>V.int q.lev)):=by rw[<-C,Af,C7];rfl
 have x:=R _ _ (u _ _ O I) (A1b S);refine xwf Z Z (R _ _ (u _ _ d m) L) T.J4 T.L0 (Cz g) ⟨.inl ⟨Z,_,SqL.of x⟩,(xq1 Z ⟨g.pt,(xq2 Z Z ⟨x,by rw[B8,lt];exact Fe A0,?_⟩)⟩)⟩;generalize D:upd N g.pt (.lst (Y.map V.ref++[.ref t]))=v;have U:∀b o,N b=o3 o->b≠g.pt->v b=o3 o:=λb o e n=>by rw[<-D,Av n];exact e
 have n3:v g.pt=o3 (.lst ((Y++[t]).map V.ref)):=by rw[<-D,Af,C7];rfl
 have fr:Fr g H v:=λb o e m1 m2 m3=>U _ _ (R _ _ (u _ _ e m3) m1) m2;have tp:∀(c:R_)(xs:List V),H c=o3 (.tup xs)->v c=o3 (.tup xs):=λc xs e=>fr _ _ e (AE e r A4) (AE e O A4) (AE e y A4);refine xq1 Z (k v fr ⟨fr _ _ d L W m,U _ _ n2 S,⟨Y++[t],n3,A4g (PairedM.imp (λc q z=>tp c _ z) h4) (tp t _ ht)⟩,U _ _ (R _ _ n1 (A1b p)) (A1b I),S⟩)
structure AK(G G':Gv)(n:Nat):Prop where
ok:GOk G'
pre:∃r,G'=G++r
few:G'.length<=G.length+n
theorem AK.refl(h:GOk G):AK G G 0:=⟨h,⟨[],by simp⟩,C0 _⟩
theorem AK.trans(h:AK G d n)(c:AK d b m):AK G b (n+m):=by
 obtain⟨r,e⟩:=h.pre;obtain⟨t,f⟩:=c.pre;have g:=h.few;have i:=c.few;exact⟨c.ok,⟨r++t,by rw[f,e,N7]⟩,by lia⟩
theorem AK.get{G b:Gv}{n x:Nat}{q:Sq}(h:AK G b n)(e:G[x]?=o3 q):b[x]?=o3 q:=by
 obtain⟨r,c⟩:=h.pre;rw[c];exact MN e
theorem AK.lev{G b:Gv}{n x:Nat}{l:Int}(h:AK G b n)(e:Al G x l):Al b x l:=by
 exact xea e λq e z=>⟨q,h.get e,z⟩
inductive VQ(a:Ad)(vs:List V)(H:Hp)(Q:VK):Prop
|mk (g:GA) (G:Gv) (t:R_) (x y z w:Nat) (l:Int) (_:vs=[.ref g.p,.ref t]) (_:AJ a H g G) (_:GOk G) (_:H t=o3 (.tup [.int x,.int y,.int z,.int w])) (_:(Al G x l/\Al G y l/\Al G z l/\Al G w l)) (_:l<=47) (_:G.length<9000000) (_:∀(n:Nat)(G':Gv)(H':Hp),Fr g H H'->AJ a H' g G'->AK G G' 1->G'[n]?=o3 ⟨[(x:Int),(y:Int),(z:Int),(w:Int)],l+1⟩->Q (.int n) H'):VQ a vs H Q
def EA(a:Ad):Sp:=λvs H Q _=>VQ a vs H Q
theorem aCe(F:Fun K "linked" "Grove.linked" Ga f fd)(T:Top K mg a)(R:BR P w K mg n9 CX0 1 a.J5 "kept" FJ (RJ a)):AL P w K mg n9 CX0 2 f fd Ba (EA a):=by
 refine F.ok Ju D_9 λS A v s H vs Q E I h=>?_
 obtain⟨g,G,t,x,y,z,w,l,rfl,D,ok,r,⟨u,hy,hz,Y⟩,o,few,k⟩:=h;have d:=D;obtain⟨n,W,⟨ts,h3,h4⟩,C,h6⟩:=D;refine⟨_,(Ac (Ao (i:=2) Ju.nd Z O_9 (JN (Ed I) (AC (pv 0) Z) (pv 1) ⟨Z,Z,Z,Z⟩)) (Ac (AO (AA Ji (pv 2) DE (AF _)) (Ag (Aw (AD (pv 0) R (rm I) Am (Aa (pv 1) (AV AQ (Aj Ax (AC (pv 0) Z) (Aj An (pv 1) Ae R_9) R_9) Ae Ab))))) Az) (Ag (Aw (pv 2))))),?_⟩
 try dsimp only[cxK]
 refine xwf Z Z n T.J4 T.g_ (aA9 g) ⟨g.nm,Z,.inr ⟨_,.inl C⟩,(xq1 Z ⟨_,GC.t (k:=kOf [(x:Int),(y:Int),(z:Int),(w:Int)]) C (by rw[aBN];exact r),?_⟩)⟩;rcases SA [(x:Int),(y:Int),(z:Int),(w:Int)] G 0 with ⟨i,q,c,b,U⟩|⟨e,new⟩
 .rw[U];refine xq1 Z ⟨Z,(xq1 Z (Bc (xq1 Z ?_)))⟩;rw[O2];refine k i G H (Fr.refl g H) d ⟨ok,⟨[],by simp⟩,by lia⟩ ?_;have X:8<=i:=by
   refine P8 λM=>?_;rw[ok.leaf i M]at c;cases c;cases b
  obtain⟨x',y',M,w',p1,⟨L,_⟩,_⟩:=ok.node i q c X;have m:x'=x:=by
   rw[p1]at b;injection b with b _
   exact A1f b
  rw[m]at L;refine xea L λqa O a2=>xea u λqb B b2=>?_;rw[O]at B;cases B;have V:q.lev=l+1:=by lia
  rw[c];cases q with
  |mk pp ll=>cases b;cases V;rfl
 .rw[e];refine xq1 Z ⟨Z,(xq1 Z (Cr ?_))⟩;refine xea (id u) λq c b=>xwn Z Z n (Sc g) Z (xwf Z Z n T.J4 T.Q3 (Fy g) (xwi Z Z Z (SqT.of r) (Ai (j:=0) Z) (xq4 Z Z (SqL.of W) (Ai (by rw[C1,c];rfl)) (xq2 Z Z ?_))));refine⟨g,G,t,[(x:Int),(y:Int),(z:Int),(w:Int)],l+1,by rw[<-b];rfl,d,r,new,few,λN fr p=>?_⟩;refine k G.length _ N fr p ⟨ok.snoc u hy hz Y o new,⟨_,Z⟩,by rw[C6];exact C0 _⟩ ?_;rw[J0 (C0 _),V3];rfl
inductive aC9(a:Ad)(vs:List V)(H:Hp)(Q:VK):Prop
|mk (g:GA) (G:Gv) (i:Nat) (_:vs=[.ref g.p,.int i]) (_:AJ a H g G) (_:i<G.length) (_:Q .non H):aC9 a vs H Q
def Tn(a:Ad):Sp:=λvs H Q _=>aC9 a vs H Q
theorem aEU(F:Fun K "check_square" "Grove.check_square" Dq f fd)(T:Top K mg a)(d:Cal P w K mg n9 CX0 1 "is_whole" Vk UT):AL P w K mg n9 CX0 2 f fd Lg (Tn a):=by
 refine F.ok JA D_9 λe A b s H vs Q E j h=>?_
 obtain⟨g,G,i,rfl,c,hi,k⟩:=h;refine⟨_,(Ag (AO (PW.pt (Jv (Cy (Cf (Ar d (rm j) Z Am (Aa (pv 1) Ab)))) (Gd (Cy (Pn JY GN Ae (pv 1) (AH Bh Z T.j_ A2g (Aa (AC (pv 0) Z) Ab))))))) (Ag Bk) Az)),?_⟩
 try dsimp only[cxK]
 refine⟨_,Z,_,Z,o5,Z,Bc ⟨_,Z,_,_,Z,Z,_,Z,?_⟩⟩;rw[A0d (by lia:(0:Int)<=(i:Int))];refine Cr (xwf Z Z c.hp T.J4 T.Q3 (Fy g) ⟨g.lv,(xq1 Z ⟨.inl (SqL.of c.lv),(xq2 Z Z (xq1 Z ?_))⟩)⟩);rw[B8,A0d (by lia:(i:Int)<(G.length:Int))];exact Bc k
inductive aAi(a:Ad)(vs:List V)(H:Hp)(Q:VK):Prop
|mk (p:R_) (i:Int) (_:vs=[.ref p,.int i]) (_:0<=i) (_:i<8) (_:Q (.int i) H):aAi a vs H Q
def OZ(a:Ad):Sp:=λvs H Q _=>aAi a vs H Q
theorem aCd(F:Fun K "leaf" "Grove.leaf" IT f fd)(T:Top K mg a)(c:Cal P w K mg n9 CX0 2 "is_state" Vk aFB):AL P w K mg n9 CX0 3 f fd Sr (OZ a):=by
 refine F.ok Qz D_9 λd A b s H vs Q E l h=>?_
 obtain⟨g,i,rfl,e,j,k⟩:=h;exact⟨_,(Ac (AO (Cy (Cf (Ar c (rm l) Z Am (Aa (pv 1) Ab)))) (Ag Bk) Az) (Ag (Aw (pv 1)))),(xq1 Z ⟨i,Z,e,j,o5,Z,Bc (xq1 Z k)⟩)⟩
inductive aDD(a:Ad)(vs:List V)(H:Hp)(Q:VK):Prop
|mk (g:GA) (G:Gv) (i:Nat) (q:Sq) (_:vs=[.ref g.p,.int i]) (_:AJ a H g G) (_:G[i]?=o3 q) (_:Q (.int q.lev) H):aDD a vs H Q
def Ob(a:Ad):Sp:=λvs H Q _=>aDD a vs H Q
theorem aEa(F:Fun K "level_of" "Grove.level_of" EF f fd)(T:Top K mg a)(d:BR P w K mg n9 CX0 2 a.J5 "check_square" Lg (Tn a)):AL P w K mg n9 CX0 3 f fd Lg (Ob a):=by
 refine F.ok Mu D_9 λe A c s H vs Q E j h=>?_
 obtain⟨g,G,i,q,rfl,b,hi,k⟩:=h;refine⟨_,(Ac (Bp (AD (pv 0) d (rm j) Am (Aa (pv 1) Ab))) (Ag (Aw (Aj Ax (AC (pv 0) Z) (pv 1) R_9)))),?_⟩
 try dsimp only[cxK]
 refine xwn Z Z b.hp (Pz g) Z ⟨g,G,i,Z,b,(B9.mp hi).1,?_⟩;exact xwf Z Z b.hp T.J4 T.Q3 (Fy g) (xwi Z Z Z (SqL.of b.lv) (Ai (by rw[C1,hi];rfl)) k)
inductive aDQ(a:Ad)(vs:List V)(H:Hp)(Q:VK):Prop
|mk (g:GA) (G:Gv) (i:Nat) (q:Sq) (_:vs=[.ref g.p,.int i]) (_:AJ a H g G) (_:G[i]?=o3 q) (_:q.lev=0) (_:Q (.int i) H):aDQ a vs H Q
def Wf(a:Ad):Sp:=λvs H Q _=>aDQ a vs H Q
theorem aEn(F:Fun K "state_of" "Grove.state_of" EE f fd)(T:Top K mg a)(d:BR P w K mg n9 CX0 3 a.J5 "level_of" Lg (Ob a)):AL P w K mg n9 CX0 4 f fd Lg (Wf a):=by
 refine F.ok Mt D_9 λe A b s H vs Q E l h=>?_
 obtain⟨g,G,i,q,rfl,c,hi,j,k⟩:=h;refine⟨_,(Ac (AO (AA GM (AD (pv 0) d (rm l) Am (Aa (pv 1) Ab)) Ae (AF _)) (Ag Bk) Az) (Ag (Aw (pv 1)))),?_⟩
 try dsimp only[cxK]
 refine xwn Z Z c.hp (EL g) Z ⟨g,G,i,q,Z,c,hi,Z,(xq1 Z ?_)⟩;rw[j];exact ML Z (xq1 Z k)
end
def Sol(G:Gv)(s:Nat):Nat->Nat->Prop
|0,n=>n=s
|l+1,n=>∃m:Nat,Sol G s l m/\G[n]?=o3 ⟨[(m:Int),(m:Int),(m:Int),(m:Int)],(l:Int)+1⟩
theorem Sol.lev(h:GOk G)(a:s<8):∀{l n:Nat},Sol G s l n->Al G n l
|0,n,e=>by
 have e:=e;subst e;exact⟨_,h.leaf n a,Z⟩
|l+1,n,e=>by
 exact xea e λm _ e=>⟨_,e,Z⟩
theorem Sol.goes{k:Nat}(h:AK G a k):∀{l n:Nat},Sol G s l n->Sol a s l n
|0,n,e=>e
|l+1,n,e=>by
 exact xea e λm b c=>⟨m,Sol.goes h b,h.get c⟩
section
variable{P:N_}{w:Q_}{K:O_}{mg:C_}{n9:T_}{a:Ad}
inductive WP(a:Ad)(vs:List V)(H:Hp)(Q:VK):Prop
|mk (g:GA) (G:Gv) (l s:Nat) (_:vs=[.ref g.p,.int l,.int s]) (_:AJ a H g G) (_:GOk G) (_:l<=48) (_:s<8) (_:G.length<8000000) (_:∀(n:Nat)(G':Gv)(H':Hp),Fr g H H'->AJ a H' g G'->AK G G' l->Sol G' s l n->Q (.int n) H'):WP a vs H Q
def RF(a:Ad):Sp:=λvs H Q _=>WP a vs H Q
theorem ZY(F:Fun K "solid" "Grove.solid" Ic f fd)(T:Top K mg a)(R:Cal P w K mg n9 CX0 1 "is_whole" Vk UT)(S:BR P w K mg n9 CX0 3 a.J5 "leaf" Sr (OZ a))(O:BR P w K mg n9 CX0 2 a.J5 "linked" Ba (EA a)):AL P w K mg n9 CX0 4 f fd Il (RF a):=by
 refine F.ok El D_9 λU A I s H vs Q E D h=>?_
 obtain⟨g,G,l,st,rfl,M,ok,W,X,few,k⟩:=h;refine⟨_,(Ac (AO (PW.pt (Jv (Cy (Cf (Ar R (rm D) Z Am (Aa (pv 1) Ab)))) (Gd (Cy (Pn JY JY Ae (pv 1) (BZ Z T.m_)))))) (Ag Bk) Az) (Ac (Ao (i:=3) El.nd Z O_9 (AD (pv 0) S (rm D) Am (Aa (pv 2) Ab))) (Ac (BN A1c Z (Ca Z T.Y_ (Aa (pv 1) Ab)) (AU (i:=4) El.nd Z O_9) (Ag (Ao (i:=3) El.nd Z O_9 (AD (pv 0) O (rm D) Am (AZ (Aa (pv 3) (Aa (pv 3) (Aa (pv 3) (Aa (pv 3) Ab)))) Ab))))) (Ag (Aw (pv 3)))))),?_⟩
 try dsimp only[cxK]
 refine⟨_,Z,_,Z,o5,Z,Bc ⟨_,Z,_,_,Z,Z,_,Z,?_⟩⟩;rw[A0d (by lia:(0:Int)<=(l:Int))];refine Cr (xq2 Z Z (xq1 Z ?_));rw[A0d (by lia:(l:Int)<=(48:Int))];refine Bc (xwn Z Z M.hp (RZ g) Z ⟨g.p,(st:Int),Z,by lia,by lia,?_⟩);refine xw2 Z Z ⟨by lia,by lia,?_⟩;rw[L8];refine Cc (n:=l) (λi σ q=>∃(c:Gv)(m:Nat)(L:Option V),σ=[o3 (.ref g.p),o3 (.int l),o3 (.int st),o3 (.int m),L]/\Fr g H q/\AJ a q g c/\AK G c i/\Sol c st i m) ⟨G,st,o4,Z,Fr.refl g H,M,AK.refl ok,Z⟩ ?_ ?_
 .intro i σ q hi u;refine BV u λc m L d fr b j y=>?_;clear u;subst d;have lf:=j.few;have x:=Sol.lev j.ok X y;refine xwn Z Z b.hp (BT g) Z (xw3 Z Z Z ⟨S_4,λt Y=>?_⟩);have N:=AM (o:=.tup [.int m,.int m,.int m,.int m]) Y;refine⟨g,c,t,m,m,m,m,(i:Int),Z,b.same N,j.ok,Af,⟨x,x,x,x⟩,by lia,by lia,λn z H' B C r e=>?_⟩;exact⟨z,n,(xq1 Z ⟨(fr.trans (Ay.fr N)).trans B,C,j.trans r,m,Sol.goes r y,e⟩)⟩
 .intro σ q v;refine BV v λc m L d fr b j y=>?_;clear v;subst d;exact xq1 Z (k m c q fr b j y)
end
end J
namespace J
open PySem L2
noncomputable def bareN:Nat->Nat
|0=>0
|j+1=>8+j
noncomputable def Ec(n:Nat):Gv:=(List.range n).map λ(s:Nat)=>(⟨[(s:Int)],0⟩:Sq)
noncomputable def Gy(n:Nat):Gv:=(List.range n).map λ(j:Nat)=>(⟨[(bareN j:Int),(bareN j:Int),(bareN j:Int),(bareN j:Int)],(j:Int)+1⟩:Sq)
noncomputable def G0:Gv:=Ec 8++Gy 48
theorem Vz(n:Nat):Ec (n+1)=Ec n++[⟨[(n:Int)],0⟩]:=by unfold Ec;rw[P2,C7];rfl
theorem Qo(n:Nat):Gy (n+1)=Gy n++[⟨[(bareN n:Int),(bareN n:Int),(bareN n:Int),(bareN n:Int)],(n:Int)+1⟩]:=by unfold Gy;rw[P2,C7];rfl
theorem FL(n:Nat):(Ec n).length=n:=by unfold Ec;rw[B8,O4]
theorem RA(n:Nat):(Gy n).length=n:=by unfold Gy;rw[B8,O4]
theorem Za{i j:Nat}(h:bareN i=bareN j):i=j:=by
 cases i<;>cases j
 .rfl
 .have:0=8+_:=h;lia
 .have:8+_=0:=h;lia
 .have:8+_=8+_:=h;lia
theorem YI(n:Nat):∀q∈Ec n,q.parts≠[(n:Int)]:=λq b z=>by
 refine xea (F1.mp b) λs c a=>?_;subst a;have:=N2.mp c;injection z with z _
 have:s=n:=A1f z;lia
theorem Rz(n:Nat):∀q∈Ec 8++Gy n,q.parts≠[(bareN n:Int),(bareN n:Int),(bareN n:Int),(bareN n:Int)]:=λq b z=>by
 rcases J7.mp b with b|b
 .refine xea (F1.mp b) λs c a=>?_;subst a;cases z
 .refine xea (F1.mp b) λs c a=>?_;subst a;have:=N2.mp c;injection z with z _
  have:=Za (A1f z);lia
theorem NO:G0.length=56:=by unfold G0;rw[C6,FL,RA]
theorem OO(j:Nat)(h:j<48):G0[8+j]?=o3 ⟨[(bareN j:Int),(bareN j:Int),(bareN j:Int),(bareN j:Int)],(j:Int)+1⟩:=by
 unfold G0;rw[J0 (by rw[FL];lia),FL,show 8+j-8=j by lia];unfold Gy;rw[C1,R4 h];rfl
theorem SE(s:Nat)(h:s<8):G0[s]?=o3 ⟨[(s:Int)],0⟩:=by
 unfold G0;rw[M5 (by rw[FL];exact h)];unfold Ec;rw[C1,R4 h];rfl
theorem aBB(j:Nat)(h:j<=48):Al G0 (bareN j) (j:Int):=by
 cases j with
 |zero=>exact⟨_,SE 0 A6,Z⟩
 |succ j=>exact⟨_,OO j A0,Z⟩
theorem aDb:∀n,((Ec 8++Gy n).map Sq.parts).Nodup
|0=>by decide
|n+1=>by
 rw[Qo,<-N7,C7,S5];refine⟨aDb n,by simp,λp c e b=>?_⟩;refine xea (F1.mp c) λq d a=>?_;subst a;rw[show e=[(bareN n:Int),(bareN n:Int),(bareN n:Int),(bareN n:Int)] by simpa using b];exact Rz n q d
theorem aGE:GOk G0 where
 leaf:=SE
 node:=λi q e a=>by
  have hi:i<56:=by rw[<-NO];exact(B9.mp e).1
  obtain⟨j,rfl⟩:∃j,i=8+j:=⟨i-8,by lia⟩
  rw[OO j A0]at e;cases e;have:=aBB j A0;refine⟨bareN j,bareN j,bareN j,bareN j,Z,?_,?_,?_⟩
  .show Al G0 _ ((j:Int)+1-1)/\Al G0 _ ((j:Int)+1-1)/\Al G0 _ ((j:Int)+1-1)/\Al G0 _ ((j:Int)+1-1);rw[show(j:Int)+1-1=(j:Int) by lia];exact⟨this,this,this,this⟩
  .show 1<=(j:Int)+1;lia
  .show(j:Int)+1<=48;lia
 nd:=aDb 48
noncomputable def amK(n:Nat):List (Key×V):=(List.range n).map λ(s:Nat)=>(Sum.inl (s:Int),V.int (if(1:Int)<(s:Int)then 1 else(s:Int)))
theorem UE(n:Nat):amK (n+1)=amK n++[(Sum.inl (n:Int),V.int (if(1:Int)<(n:Int)then 1 else(n:Int)))]:=by unfold amK;rw[P2,C7];rfl
theorem aB1(n:Nat):(amK n).length=n:=by unfold amK;rw[B8,O4]
theorem RD{κ:Type}[DecidableEq κ]{k:κ}:∀{l m:List (κ×V)},BK l k=o4->BK (l++m) k=BK m k
|[],_,_=>rfl
|p::r,m,h=>by
 by_cases e:p.1=k
 .rw[BW e]at h;cases h
 .rw[BD e]at h;show BK (p::(r++m)) k=_;rw[BD e];exact RD h
theorem UF(n:Nat):∀m,n<=m->BK (amK n) (Sum.inl (m:Int))=o4:=by
 induction n with
 |zero=>intro m _;rfl
 |succ n a =>
  intro m b;rw[UE,RD (a m A0),BD (by intro z;injection z with z;have:=A1f z;lia)];rfl
noncomputable def Du(n:Nat):List Int:=(List.range (n+1)).map λj=>((bareN j:Nat):Int)
theorem Qp(n:Nat):Du (n+1)=Du n++[((bareN (n+1):Nat):Int)]:=by unfold Du;rw[P2,C7];rfl
theorem VP(n:Nat):(Du n).getLast?=o3 ((bareN n:Nat):Int):=by
 cases n with
 |zero=>rfl
 |succ n=>rw[Qp,List.getLast?_append];rfl
theorem aAs(h:xs.getLast?=o3 x):atI xs (-1)=o3 x:=by
 obtain⟨ys,rfl⟩:=List.getLast?_eq_some_iff.mp h;unfold atI ixN;rw[A0c A6,A0e (by rw[C6,S3];lia)];show(ys++[x])[((-1:Int)+((ys++[x]).length:Nat)).toNat]?=o3 x;rw[C6,S3,show((-1:Int)+((ys.length+1:Nat):Int)).toNat=ys.length by lia,J0 (C0 _),V3];rfl
seal L2.PA L2.PE L2.PS L2.PSs L2.PT L2.PW
structure UL(a:Ad)(H H':Hp)(g:GA)(G:Gv)(B:I_)(am:List (Key×V)):Prop where
kp:∀b o,H b=o3 o->b≠g.p->H' b=o3 o
at':AJ a H' g G
br:H' g.br=o3 (.lst (B.map V.int))
am:H' g.am=o3 (.dK am)
bx:H' g.bx=o3 (.dK [])
fresh:H g.lv=o4/\H g.pt=o4/\H g.nm=o4/\H g.br=o4/\H g.am=o4/\H g.bx=o4
n1:g.br≠g.lv
n2:g.br≠g.pt
n3:g.am≠g.bx
section
variable{P:N_}{w:Q_}{K:O_}{mg:C_}{n9:T_}{a:Ad}
inductive WW(a:Ad)(vs:List V)(H:Hp)(Q:VK):Prop
|mk (p dx:R_) (_:vs=[.ref p]) (_:H p=o3 (.ins a.J5 dx [])) (_:∀(g:GA)(H':Hp),g.p=p->UL a H H' g G0 (Du 48) (amK 8)->Q .non H'):WW a vs H Q
def RM(a:Ad):Sp:=λvs H Q _=>WW a vs H Q
theorem aBr(F:Fun K "__init__" "Grove.__init__" IV f fd)(T:Top K mg a)(aR:BR P w K mg n9 CX0 1 a.J5 "kept" FJ (RJ a)):AL P w K mg n9 CX0 2 f fd Jh (RM a):=by
 refine F.ok EO D_9 λa1 A az s H vs Q E hr h=>?_
 obtain⟨p,r,rfl,hp,k⟩:=h;refine⟨_,(Ac (CO (pv 0) (Cp Ab) Z) (Ac (CO (pv 0) (Cp Ab) Z) (Ac (CO (pv 0) Mz Z) (Ac (CO (pv 0) (Cp (AI Ab)) Z) (Ac (CO (pv 0) MB Z) (Ac (CO (pv 0) MB Z) (Ac (BN A1c Z (Ca Z T.Y_ (Aa (BZ Z T.aAS) Ab)) (AU (i:=1) EO.nd Z O_9) (Ac (Bp (AD (pv 0) aR (rm hr) Am (AZ (Aa (pv 1) Ab) (AI Ab)))) (Ag (FH (Ed hr) (AC (pv 0) Z) (pv 1) (AH (NU Z) Z T.aAK A3g (Aa (pv 1) (AI Ab))) Z)))) (Ag (BN A1c Z (Nq Z T.Y_ (AI (AV AQ (BZ Z T.m_) Ae Ab))) (AU (i:=2) EO.nd Z O_9) (Ac (Ao (i:=3) EO.nd Z O_9 (Aj Ax (AC (pv 0) Z) (Fc Dm Ae) R_9)) (Ag (Bp (DJ A1g A1h A2a Cb (AC (pv 0) Z) (Aa (AD (pv 0) aR (rm hr) Am (AZ (Aa (pv 3) (Aa (pv 3) (Aa (pv 3) (Aa (pv 3) Ab)))) (Aa (pv 2) Ab))) Ab)))))))))))))),?_⟩
 try dsimp only[cxK]
 have stp:∀{B:Hp}{x:R_}{o:HO}{fs fs':List (Str×V)},B p=o3 (.ins a.J5 r fs)->B x=o4->(∀b v,B b=o3 v->b≠p->upd (upd B x o) p (.ins a.J5 r fs') b=o3 v)/\upd (upd B x o) p (.ins a.J5 r fs') x=o3 o/\upd (upd B x o) p (.ins a.J5 r fs') p=o3 (.ins a.J5 r fs')/\upd B x o p=o3 (.ins a.J5 r fs):=λ{B x o fs fs'} e1 e2=>by
  have n:x≠p:=λz=>by rw[z,e1]at e2;cases e2
  exact⟨λb v e nb=>by rw[Av nb,Av (As e e2)];exact e,by rw[Av n];exact Af,Af,by rw[Av (A1b n)];exact e1⟩
 refine Bj ?_;intro L M Y m G;refine⟨S_0,λO aa=>?_⟩;refine xa3 (stp (o:=.lst []) (fs':=AW "levels" (.ref O) []) hp aa) λk1 x1 p1 q1=>xq1 Z ⟨p,_,r,[],Z,q1,T.J4,T.Q3,B4,?_⟩;show Y _ _;generalize upd (upd H O _) p _=H1 at k1 x1 p1⊢;refine m (Bj ?_);intro L M Y m G;refine⟨S_0,λpt X=>?_⟩;refine xa3 (stp (o:=.lst []) (fs':=AW "parts" (.ref pt) (AW "levels" (.ref O) [])) p1 X) λk2 x2 p2 q2=>xq1 Z ⟨p,_,r,(xq1 Z ⟨q2,T.J4,T.L0,B7,?_⟩)⟩;show Y _ _;generalize upd (upd H1 pt _) p _=H2 at k2 x2 p2⊢;refine m (Bj ?_);intro L M Y m G;intro nm ab;refine xa3 (stp (o:=.dT []) (fs':=AW "numbers" (.ref nm) (AW "parts" (.ref pt) (AW "levels" (.ref O) []))) p2 ab) λk3 x3 p3 q3=>xq1 Z ⟨p,_,r,(xq1 Z ⟨q3,T.J4,T.g_,(by show 2<1000;decide),?_⟩)⟩;show Y _ _;generalize upd (upd H2 nm _) p _=H3 at k3 x3 p3⊢;refine m (Bj ?_);intro L M Y m G;refine⟨S_1,λU l=>?_⟩;refine xa3 (stp (o:=.lst [.int 0]) (fs':=AW "bares" (.ref U) (AW "numbers" (.ref nm) (AW "parts" (.ref pt) (AW "levels" (.ref O) [])))) p3 l) λk4 x4 p4 q4=>xq1 Z ⟨p,_,r,(xq1 Z ⟨q4,T.J4,T.U_,(by show 3<1000;decide),?_⟩)⟩;show Y _ _;generalize upd (upd H3 U _) p _=H4 at k4 x4 p4⊢;refine m (Bj ?_);intro L M Y m G;intro S I;refine xa3 (stp (o:=.dK []) (fs':=AW "amounts" (.ref S) (AW "bares" (.ref U) (AW "numbers" (.ref nm) (AW "parts" (.ref pt) (AW "levels" (.ref O) []))))) p4 I) λk5 x5 p5 q5=>xq1 Z ⟨p,_,r,(xq1 Z ⟨q5,T.J4,T.d_,(by show 4<1000;decide),?_⟩)⟩;show Y _ _;generalize upd (upd H4 S _) p _=H5 at k5 x5 p5⊢;refine m (Bj ?_);intro L M Y m G;intro bx D;refine xa3 (stp (o:=.dK []) (fs':=fl6 ⟨p,r,O,pt,nm,U,S,bx⟩) p5 D) λk6 x6 p6 q6=>xq1 Z ⟨p,_,r,(xq1 Z ⟨q6,T.J4,T.m6,(by show 5<1000;decide),?_⟩)⟩;show Y _ (upd (upd H5 bx (.dK [])) p (.ins a.J5 r (fl6 ⟨p,r,O,pt,nm,U,S,bx⟩)));generalize upd (upd H5 bx _) p _=H6 at k6 x6 p6⊢;refine m ?_;have al:∀b v,H1 b=o3 v->b≠p->H6 b=o3 v:=λb v e n=>k6 _ _ (k5 _ _ (k4 _ _ (k3 _ _ (k2 _ _ e n) n) n) n) n;have an:∀b v,H2 b=o3 v->b≠p->H6 b=o3 v:=λb v e n=>k6 _ _ (k5 _ _ (k4 _ _ (k3 _ _ e n) n) n) n;have ao:∀b v,H3 b=o3 v->b≠p->H6 b=o3 v:=λb v e n=>k6 _ _ (k5 _ _ (k4 _ _ e n) n) n;have aq:∀b v,H4 b=o3 v->b≠p->H6 b=o3 v:=λb v e n=>k6 _ _ (k5 _ _ e n) n;have np:∀{B:Hp}{x:R_}{fs:List (Str×V)},B p=o3 (.ins a.J5 r fs)->B x=o4->x≠p:=λ{B x fs} e1 e2 z=>by rw[z,e1]at e2;cases e2
 have no:∀{B Hm:Hp}{x y:R_}{v:HO},B x=o3 v->B y=o4->x≠y:=λ{B Hm x y v} e1 e2=>As e1 e2;have ac:=np hp aa;have ad:=np p1 X;have aj:=np p2 ab;have ai:=np p3 l;have ah:=np p4 I;have as:=np p5 D;have y1:=al _ _ x1 ac;have y2:=an _ _ x2 ad;have y3:=ao _ _ x3 aj;have y4:=aq _ _ x4 ai;have y5:=k6 _ _ x5 ah;have C:∀{B:Hp}{x:R_},(∀b v,H b=o3 v->b≠p->B b=o3 v)->x≠p->B x=o4->H x=o4:=λ{B x} kp n e=>by
  cases h:H x with
  |none=>rfl
  |some v=>rw[kp _ _ h n]at e;cases e
 have c2:∀b v,H b=o3 v->b≠p->H2 b=o3 v:=λb v e n=>k2 _ _ (k1 _ _ e n) n;have c3:∀b v,H b=o3 v->b≠p->H3 b=o3 v:=λb v e n=>k3 _ _ (c2 _ _ e n) n;have c4:∀b v,H b=o3 v->b≠p->H4 b=o3 v:=λb v e n=>k4 _ _ (c3 _ _ e n) n;have c5:∀b v,H b=o3 v->b≠p->H5 b=o3 v:=λb v e n=>k5 _ _ (c4 _ _ e n) n;have c6:∀b v,H b=o3 v->b≠p->H6 b=o3 v:=λb v e n=>k6 _ _ (c5 _ _ e n) n;have d1:=As x1 X;have d2:=A1b (As (k3 _ _ (k2 _ _ x1 ac) ac) l);have d3:=A1b (As (k3 _ _ x2 ad) l);have d4:=As x5 D;have N0:UL a H H6 ⟨p,r,O,pt,nm,U,S,bx⟩ (Ec 0) (Du 0) (amK 0):=⟨c6,⟨p6,y1,⟨[],y2,.nil⟩,y3,d1⟩,y4,y5,x6,⟨aa,C k1 ad X,C c2 aj ab,C c3 ai l,C c4 ah I,C c5 as D⟩,d2,d3,d4⟩
 have k':=k ⟨p,r,O,pt,nm,U,S,bx⟩;have gp:(⟨p,r,O,pt,nm,U,S,bx⟩:GA).p=p:=rfl;generalize (⟨p,r,O,pt,nm,U,S,bx⟩:GA)=g at N0 k' gp;subst gp;clear k p6 q6 q5 q4 q3 q2 q1 y1 y2 y3 y4 y5 x6 c6 c5 c4 c3 c2 al an ao aq k1 k2 k3 k4 k5 k6 x1 x2 x3 x4 x5 p1 p2 p3 p4 p5 d1 d2 d3 d4 ac ad aj ai ah as D I l ab X aa C no np stp;refine⟨8,Z,by decide,by decide,?_⟩;refine Cc (n:=8) (λi σ H7=>∃u1:Option V,σ=[o3 (.ref g.p),u1,o4,o4]/\UL a H H7 g (Ec i) (Du 0) (amK i)) ⟨o4,Z,N0⟩ ?_ ?_
 .intro i σ H7 hi au;refine xea au λu1 af N=>?_;clear au;subst af;obtain⟨kp,at',l,I,D,fresh,n1,n2,n3⟩:=N;have cl:(i:Int)=0+(i:Int):=(T0 _).symm;refine xq1 Z ⟨g.p,g.dx,(xq1 Z ⟨at'.hp,Sc g,(xq1 Z ⟨S_1,λt ht=>?_⟩)⟩)⟩;have s1:=AM (o:=.tup [.int (0+(i:Int))]) ht;refine⟨g,Ec i,t,[0+(i:Int)],0,Z,at'.same s1,Af,by rw[<-cl];exact YI i,by rw[FL];lia,λH8 fr u=>?_⟩;rw[<-cl,<-Vz]at u;have R:=(Ay.fr s1).trans fr;refine xea at'.pt λts h3 h4=>?_;have kd:∀(b:R_)(kvs:List (Key×V)),H7 b=o3 (.dK kvs)->H8 b=o3 (.dK kvs):=λb kvs e=>R _ _ e (AE e at'.lv A4) (AE e h3 A4) (AE e at'.nm A4);have ae:=kd _ _ I;refine xq1 Z ⟨_,_,Z,(xwf Z Z u.hp T.J4 T.d_ (VJ g) (xq1 Z ⟨g.am,(xq1 Z ⟨Mm.k (k:=Sum.inl (0+(i:Int))) ae (by rw[aB1];exact Fe A0),?_⟩)⟩))⟩;rw[<-cl,Mw _ (UF i i (C0 _)),<-UE];have d:∀{b:R_}{v:HO},H8 b=o3 v->b≠g.am->upd H8 g.am (.dK (amK (i+1))) b=o3 v:=λ{b v} e n=>by rw[Av n];exact e
  have na:∀{b:R_}{v:HO},H8 b=o3 v->v≠.dK (amK i)->b≠g.am:=λ{b v} e n=>AE e ae n;refine xea u.pt λa0 ar ay=>xq1 Z ⟨?_,⟨d u.hp (na u.hp A4),d u.lv (na u.lv A4),⟨a0,d ar (na ar A4),PairedM.imp (λc q z=>d z (na z A4)) ay⟩,d u.nm (na u.nm A4),u.ne⟩,?_,Af,?_,fresh,n1,n2,n3⟩
  .intro b v e nb;have e8:=R _ _ (kp _ _ e nb) (As e fresh.1) (As e fresh.2.1) (As e fresh.2.2.1);exact d e8 (As e fresh.2.2.2.2.1)
  .have e8:=R _ _ l n1 n2 (AE l at'.nm A4);exact d e8 (na e8 A4)
  .exact d (kd _ _ D) (A1b n3)
 .intro σ H7 av;refine xea av λu1 af N=>?_;clear av;subst af;refine xq2 Z Z ⟨1,49,Z,⟨by decide,by decide,by decide,by decide⟩,?_⟩;have N0:UL a H H7 g (Ec 8++Gy 0) (Du 0) (amK 8):=by rw[show Ec 8++Gy 0=Ec 8 from S0 _];exact N
  clear N;refine Cc (lo:=1) (n:=48) (λj σ H8=>∃u2 u3:Option V,σ=[o3 (.ref g.p),u1,u2,u3]/\UL a H H8 g (Ec 8++Gy j) (Du j) (amK 8)) ⟨o4,o4,Z,N0⟩ ?_ ?_
  .intro j σ H8 hj aw;refine BJ aw λu2 u3 ag N=>?_;clear aw;subst ag;obtain⟨kp,at',l,I,D,fresh,n1,n2,n3⟩:=N;refine xwf Z Z at'.hp T.J4 T.U_ (Jm g) (xwi Z Z Z (SqL.of l) (aAs (by rw[List.getLast?_map,VP];rfl)) ?_);refine xwf Z Z at'.hp T.J4 T.U_ (Jm g) ⟨.inl ⟨Z,_,SqL.of l⟩,(xq1 Z ⟨g.p,g.dx,(xq1 Z ⟨at'.hp,Sc g,(xw3 Z Z Z (xq1 Z ⟨S_4,λt ht=>(xq1 Z ?_)⟩))⟩)⟩)⟩;have s1:=AM (o:=.tup [.int (bareN j:Int),.int (bareN j:Int),.int (bareN j:Int),.int (bareN j:Int)]) ht;have ln:(Ec 8++Gy j).length=8+j:=by rw[C6,FL,RA]
   refine⟨g,Ec 8++Gy j,t,[(bareN j:Int),(bareN j:Int),(bareN j:Int),(bareN j:Int)],1+(j:Int),Z,at'.same s1,Af,Rz j,by rw[ln];lia,λH9 fr ak=>?_⟩;rw[show(1:Int)+(j:Int)=(j:Int)+1 by lia,N7,<-Qo]at ak;have R:=(Ay.fr s1).trans fr;refine xea at'.pt λts h3 h4=>?_;have kd:∀(b:R_)(kvs:List (Key×V)),H8 b=o3 (.dK kvs)->H9 b=o3 (.dK kvs):=λb kvs e=>R _ _ e (AE e at'.lv A4) (AE e h3 A4) (AE e at'.nm A4);have W:=R _ _ l n1 n2 (AE l at'.nm A4);refine⟨g.br,(xq2 Z Z ⟨W,by rw[B8];unfold Du;rw[B8,O4];exact Fe A0,?_⟩)⟩;have eb:(Du j).map V.int++[V.int ((Ec 8++Gy j).length:Int)]=(Du (j+1)).map V.int:=by rw[Qp,C7,ln];rfl
   rw[eb];have d:∀{b:R_}{v:HO},H9 b=o3 v->v≠.lst ((Du j).map V.int)->upd H9 g.br (.lst ((Du (j+1)).map V.int)) b=o3 v:=λ{b v} e n=>by rw[Av (AE e W n)];exact e
   refine⟨_,_,Z,?_,ak.put W n1 n2,Af,d (kd _ _ I) A4,d (kd _ _ D) A4,fresh,n1,n2,n3⟩;intro b v e nb;rw[Av (As e fresh.2.2.2.1)];exact R _ _ (kp _ _ e nb) (As e fresh.1) (As e fresh.2.1) (As e fresh.2.2.1)
  .intro σ H8 ax;refine BJ ax λu2 u3 ag N=>?_;clear ax;subst ag;exact k' H8 Z N
end
end J
namespace J
open PySem L2
theorem Al.uniq(h:Al G i l)(b:Al G i m):l=m:=by
 refine xea h λq e z=>xea b λp a c=>?_;rw[e]at a;cases a;exact z.symm.trans c
theorem aCJ(ok:GOk G)(h:Al G i 0):i<8:=by
 refine xea h λq e z=>W8 λn=>?_;refine xe4 (ok.node i q e n) λ_ _ _ _ a=>?_;refine xa3 a λ_ _ b _=>?_;lia
structure IC(G:Gv)(n i:Nat)(q:Sq)(x y z w:Nat):Prop where
g:G[i]?=o3 q
ps:q.parts=[(x:Int),(y:Int),(z:Int),(w:Int)]
lev:q.lev=(n:Int)+1
hx:Al G x n
hy:Al G y n
hz:Al G z n
hw:Al G w n
theorem BC(ok:GOk G)(h:Al G i ((n+1:Nat):Int)):∃q x y z w,IC G n i q x y z w:=by
 refine xea h λq e f=>?_;have l:8<=i:=by
  refine P8 λk=>?_;rw[ok.leaf i k]at e;cases e;have:(0:Int)=((n+1:Nat):Int):=f;lia
 obtain⟨x,y,z,w,j,⟨b,c,d,a⟩,_,_⟩:=ok.node i q e l;have g:q.lev-1=(n:Int):=by lia
 rw[g]at b c d a;exact⟨q,x,y,z,w,e,j,by lia,b,c,d,a⟩
theorem IC.app{k n i:Nat}{q:Sq}{x y z w:Nat}(a:AK G b k)(h:IC G n i q x y z w):IC b n i q x y z w:=⟨a.get h.g,h.ps,h.lev,a.lev h.hx,a.lev h.hy,a.lev h.hz,a.lev h.hw⟩
noncomputable def Cd(G:Gv):Nat->Nat->Int
|0,i=>if i=0 then 0 else 1
|n+1,i=>match G[i]? with
 |some q=>(q.parts.map λp=>Cd G n p.toNat).sum
 |none=>0
theorem FM{q:Sq}{x y z w:Nat}(h:IC G n i q x y z w):Cd G (n+1) i=([x,y,z,w].map λk=>Cd G n k).sum:=by
 rw[show Cd G (n+1) i=(match G[i]? with|some q=>(q.parts.map λ(p:Int)=>Cd G n p.toNat).sum|none=>0)from rfl,h.g];show(q.parts.map λ(p:Int)=>Cd G n p.toNat).sum=_;rw[h.ps];rfl
theorem Lk{k:Nat}(ok:GOk G)(c:AK G a k):∀(n i:Nat),Al G i (n:Int)->Cd a n i=Cd G n i
|0,i,_=>rfl
|n+1,i,h=>by
 refine xe5 (BC ok h) λq x y z w b=>?_;rw[FM b,FM (b.app c)];show Cd a n x+(Cd a n y+(Cd a n z+(Cd a n w+0)))=_;rw[Lk ok c n x b.hx,Lk ok c n y b.hy,Lk ok c n z b.hz,Lk ok c n w b.hw];rfl
theorem EZ(G:Gv):∀(n i:Nat),0<=Cd G n i
|0,i=>by
 show 0<=if i=0 then(0:Int)else 1;split<;>lia
|n+1,i=>by
 unfold Cd;split
 .rename_i q _;have:∀l:List Int,0<=(l.map λp=>Cd G n p.toNat).sum:=by
   intro l;induction l with
   |nil=>exact Int.le_refl 0
   |cons p r a=>rw[F5,P4];have:=EZ G n p.toNat;lia
  exact this _
 .exact Int.le_refl 0
theorem NQ:∀(n:Nat)(l:J_),l.Nodup->(∀x∈l,x<n)->l.length<=n
|0,l,_,h=>by
 cases l with
 |nil=>exact C0 0
 |cons x r=>exact absurd (h x C8) (N5 _)
|n+1,l,nd,h=>by
 by_cases c:n∈l
 .have:=NQ n (l.erase n) (nd.erase n) λx a=>by
   have b:=(nd.mem_erase_iff).mp a;have:=h x b.2;have:=b.1;lia
  rw[List.length_erase_of_mem c]at this;lia
 .have:=NQ n l nd λx a=>by
   have:=h x a;have:x≠n:=λz=>c (z▸a);lia
  lia
structure Iu(G:Gv)(ks:List (Key×V)):Prop where
nd:(ks.map Prod.fst).Nodup
lt:∀k∈ks.map Prod.fst,∃i:Nat,i<G.length/\k=Sum.inl (i:Int)
theorem Iu.len(h:Iu G ks):ks.length<=G.length:=by
 let f:Key->Nat:=λk=>match k with|.inl i=>i.toNat|.inr _=>0
 have:=NQ G.length ((ks.map Prod.fst).map f) (by
  rw[N6,P1];refine List.Pairwise.imp_of_mem (λ{a b} e g d z=>d ?_) (N6.mp h.nd);refine xea (h.lt a e) λi _ c=>?_;subst c;refine xea (h.lt b g) λj _ c=>?_;subst c;have:(i:Int).toNat=(j:Int).toNat:=z;rw[L8,L8]at this;rw[this]) (λx m=>by
  refine xea (F1.mp m) λk l c=>?_;subst c;refine xea (h.lt k l) λi hi c=>?_;subst c;show(i:Int).toNat<_;rw[L8];exact hi)
 rw[B8,B8]at this;exact this
theorem Iu.app(le:G.length<=a.length)(h:Iu G ks):Iu a ks:=⟨h.nd,λk b=>by
 exact xea (h.lt k b) λi hi e=>⟨i,by lia,e⟩⟩
theorem Iu.put(h:Iu G ks)(hi:i<G.length)(v:V):Iu G (EG ks (Sum.inl (i:Int)) v):=by
 unfold EG;by_cases a:(ks.any λb=>decide (b.1=Sum.inl (i:Int)))=o5
 .rw[A0e a];have e:(ks.map λb=>if b.1=Sum.inl (i:Int)then(b.1,v)else b).map Prod.fst=ks.map Prod.fst:=by
   rw[M9];refine List.map_congr_left λb _=>?_;show(if b.1=Sum.inl (i:Int)then(b.1,v)else b).1=b.1;split<;>rfl
  exact⟨by rw[e];exact h.nd,by rw[e];exact h.lt⟩
 .rw[A0c a];refine⟨?_,λk c=>?_⟩
  .rw[C7,S5];refine⟨h.nd,by simp,λk c j d z=>a ?_⟩;have:j=Sum.inl (i:Int):=by simpa using d
   subst this;subst z;exact xea (F1.mp c) λb f g=>Z1.mpr ⟨b,f,A0d g⟩
  .rw[C7]at c;rcases J7.mp c with z|z
   .exact h.lt k z
   .exact⟨i,hi,by simpa using z⟩
structure SV(G:Gv)(ks:List (Key×V)):Prop where
keys:Iu G ks
leaf:∀s:Nat,s<8->∃v,BK ks (Sum.inl (s:Int))=o3 v
val:∀(i:Nat) v,BK ks (Sum.inl (i:Int))=o3 v->∃l:Nat,Al G i l/\v=.int (Cd G l i)
theorem SV.app{k:Nat}(ok:GOk G)(a:AK G b k)(h:SV G ks):SV b ks:=⟨h.keys.app (by obtain⟨r,e⟩:=a.pre;rw[e,C6];lia),h.leaf,λi v e=>by
 exact xea (h.val i v e) λl c d=>⟨l,a.lev c,by rw[Lk ok a l i c];exact d⟩⟩
theorem SV.put{G:Gv}{ks:List (Key×V)}(h:SV G ks){i l:Nat}(a:Al G i l):SV G (EG ks (Sum.inl (i:Int)) (.int (Cd G l i))):=⟨h.keys.put a.lt _,λs b=>by
 rw[Iv];split
 .exact⟨_,Z⟩
 .exact h.leaf s b,λj v e=>by
 rw[Iv]at e;split at e
 .rename_i z;injection z with z
  have:j=i:=A1f z;subst this;cases e;exact⟨l,a,Z⟩
 .exact h.val j v e⟩
theorem am0:SV G0 (amK 8) where
 keys:=⟨by decide +kernel,λk c=>by
  refine xea (F1.mp c) λp d a=>?_;subst a;refine xea (F1.mp d) λs b a=>?_;subst a;have:=N2.mp b;exact⟨s,by rw[NO];lia,Z⟩⟩
 leaf:=λs b=>by
  match s,b with
  |0,_=>exact⟨_,Z⟩
  |1,_=>exact⟨_,Z⟩
  |2,_=>exact⟨_,Z⟩
  |3,_=>exact⟨_,Z⟩
  |4,_=>exact⟨_,Z⟩
  |5,_=>exact⟨_,Z⟩
  |6,_=>exact⟨_,Z⟩
  |7,_=>exact⟨_,Z⟩
 val:=λi v e=>by
  have hi:i<8:=by
   refine W8 λz=>?_;rw[UF 8 i z]at e;cases e
  refine⟨0,⟨_,SE i hi,Z⟩,?_⟩
  match i,hi with
  |0,_=>cases e;rfl
  |1,_=>cases e;rfl
  |2,_=>cases e;rfl
  |3,_=>cases e;rfl
  |4,_=>cases e;rfl
  |5,_=>cases e;rfl
  |6,_=>cases e;rfl
  |7,_=>cases e;rfl
structure Bx where
l:Int
t:Int
w:Int
h:Int
noncomputable def Bx.ns(b:Bx):List Int:=[b.l,b.t,b.w,b.h]
noncomputable def shB(half:Int)(k:Nat)(b:Bx):Bx:=⟨b.l+half*((k:Int)%2),b.t+half*((k:Int)/2),b.w,b.h⟩
noncomputable def Ef(half:Int):Nat->List (Option Bx)->List Bx
|_,[]=>[]
|k,o4::r=>Ef half (k+1) r
|k,o3 b::r=>shB half k b::Ef half (k+1) r
noncomputable def mnL(l:I_):Int:=l.min?.getD 0
noncomputable def mxL(l:I_):Int:=l.max?.getD 0
noncomputable def Qa(bs:List Bx):Bx:=⟨mnL (bs.map (·.l)),mnL (bs.map (·.t)),mxL (bs.map λb=>b.l+b.w)-mnL (bs.map (·.l)),mxL (bs.map λb=>b.t+b.h)-mnL (bs.map (·.t))⟩
noncomputable def QA(half:Int)(obs:List (Option Bx)):Option Bx:=match Ef half 0 obs with
|[]=>o4
|b::r=>o3 (Qa (b::r))
noncomputable def Ch(G:Gv):Nat->Nat->Option Bx
|0,i=>if i=0 then o4 else o3 ⟨0,0,1,1⟩
|n+1,i=>match G[i]? with
 |some q=>QA (2^n) (q.parts.map λ(p:Int)=>Ch G n p.toNat)
 |none=>o4
theorem aBd(h:m∈l)(a:∀x∈l,m<=x):m=mnL l:=by
 unfold mnL;rw[List.min?_eq_some_iff.mpr ⟨h,a⟩];rfl
theorem aBf(h:m∈l)(a:∀x∈l,x<=m):m=mxL l:=by
 unfold mxL;rw[List.max?_eq_some_iff.mpr ⟨h,a⟩];rfl
theorem FO{q:Sq}{x y z w:Nat}(h:IC G n i q x y z w):Ch G (n+1) i=QA (2^n) [Ch G n x,Ch G n y,Ch G n z,Ch G n w]:=by
 rw[show Ch G (n+1) i=(match G[i]? with|some q=>QA (2^n) (q.parts.map λ(p:Int)=>Ch G n p.toNat)|none=>o4)from rfl,h.g];show QA (2^n) (q.parts.map λ(p:Int)=>Ch G n p.toNat)=_;rw[h.ps];rfl
theorem IA{G c:Gv}{k:Nat}(ok:GOk G)(b:AK G c k):∀(n i:Nat),Al G i (n:Int)->Ch c n i=Ch G n i
|0,i,_=>rfl
|n+1,i,h=>by
 refine xe5 (BC ok h) λq x y z w a=>?_;rw[FO a,FO (a.app b),IA ok b n x a.hx,IA ok b n y a.hy,IA ok b n z a.hz,IA ok b n w a.hw]
theorem QX:∀{a:List (Option Bx)},QA half a=o4 ↔ ∀o∈a,o=o4:=by
 intro a;have g:∀(a:List (Option Bx))(k:Nat),Ef half k a=[] ↔ ∀o∈a,o=o4:=by
  intro a;induction a with
  |nil=>intro k;exact⟨λ_ o c=>by simp at c,λ_=>Z⟩
  |cons o r d =>
   intro k;cases o with
   |none =>
    rw[show Ef half k (o4::r)=Ef half (k+1) r from rfl,d (k+1)];exact⟨λh o c=>by rcases C4.mp c with z|z;exact z;exact h o z,λh o c=>h o (C9 _ c)⟩
   |some b=>exact⟨λh=>(by cases h),λh=>(by cases h (o3 b) C8)⟩
 rw[<-g a 0];unfold QA;constructor
 .intro h;split at h
  .assumption
  .cases h
 .intro h;rw[h]
theorem MW(ok:GOk G):∀(n i:Nat),Al G i (n:Int)->(Ch G n i=o4↔Cd G n i=0)
|0,i,_=>by
 show(if i=0 then o4 else o3 (⟨0,0,1,1⟩:Bx))=o4↔(if i=0 then(0:Int)else 1)=0;split
 .exact⟨λ_=>Z,λ_=>Z⟩
 .exact⟨λh=>(by cases h),λh=>A0⟩
|n+1,i,h=>by
 refine xe5 (BC ok h) λq x y z w a=>?_;rw[FO a,FM a,QX];show _↔Cd G n x+(Cd G n y+(Cd G n z+(Cd G n w+0)))=0;have c:=MW ok n x a.hx;have d:=MW ok n y a.hy;have e:=MW ok n z a.hz;have b:=MW ok n w a.hw;have nx:=EZ G n x;have g:=EZ G n y;have j:=EZ G n z;have nw:=EZ G n w;constructor
 .intro h;rw[c.mp (h _ B0),d.mp (h _ B0),e.mp (h _ B0),b.mp (h _ B0)];rfl
 .intro h o f;simp only[C4,F6,A2h]at f;rcases f with rfl|rfl|rfl|rfl
  .exact c.mpr A0
  .exact d.mpr A0
  .exact e.mpr A0
  .exact b.mpr A0
theorem aBC(e:G=G0++r)(j:Nat)(h:j<48):G[8+j]?=o3 ⟨[(bareN j:Int),(bareN j:Int),(bareN j:Int),(bareN j:Int)],(j:Int)+1⟩:=by
 rw[e];exact MN (OO j h)
theorem Ll(ok:GOk G)(e:G=G0++r):∀(n i:Nat),n<=48->Al G i (n:Int)->(Ch G n i=o4↔i=bareN n)
|0,i,_,_=>by
 show(if i=0 then o4 else o3 (⟨0,0,1,1⟩:Bx))=o4↔i=0;split
 .rename_i z;exact⟨λ_=>z,λ_=>Z⟩
 .rename_i z;exact⟨λh=>(by cases h),λh=>absurd h z⟩
|n+1,i,hn,h=>by
 refine xe5 (BC ok h) λq x y z w a=>?_;rw[FO a,QX];have c:=Ll ok e n x A0 a.hx;have d:=Ll ok e n y A0 a.hy;have f:=Ll ok e n z A0 a.hz;have b:=Ll ok e n w A0 a.hw;have j:=aBC e n A0;constructor
 .intro h;have m:=c.mp (h _ B0);have s:=d.mp (h _ B0);have t:=f.mp (h _ B0);have l:=b.mp (h _ B0);show i=8+n;refine ok.one a.g j ?_;rw[a.ps,m,s,t,l]
 .intro h;have h:i=8+n:=h;have g:=a.g;rw[h,j]at g;cases g;have p:=a.ps;have p:=p;injection p with p1 p
  injection p with p2 p
  injection p with p3 p
  injection p with p4 p
  intro o k;simp only[C4,F6,A2h]at k;rcases k with rfl|rfl|rfl|rfl
  .exact c.mpr (A1f p1).symm
  .exact d.mpr (A1f p2).symm
  .exact f.mpr (A1f p3).symm
  .exact b.mpr (A1f p4).symm
structure aFS(G:Gv)(H:Hp)(ks:List (Key×V)):Prop where
keys:Iu G ks
val:∀(i:Nat) v,BK ks (Sum.inl (i:Int))=o3 v->∃(l:Nat)(b:Bx)(t:R_),Al G i l/\Ch G l i=o3 b/\v=.ref t/\H t=o3 (.tup (b.ns.map V.int))
structure AX(a:Ad)(H:Hp)(g:GA)(G:Gv):Prop where
at':AJ a H g G
ok:GOk G
g0:∃r,G=G0++r
br:H g.br=o3 (.lst ((Du 48).map V.int))
am:∃ks,H g.am=o3 (.dK ks)/\SV G ks
bx:∃ks,H g.bx=o3 (.dK ks)/\aFS G H ks
n1:g.br≠g.lv
n2:g.br≠g.pt
n3:g.am≠g.bx
theorem AX.new(h:UL a H b g G0 (Du 48) (amK 8)):AX a b g G0:=⟨h.at',aGE,⟨[],by simp⟩,h.br,⟨_,h.am,am0⟩,⟨_,h.bx,⟨by simp,λk c=>by simp at c⟩,λi v e=>by cases e⟩,h.n1,h.n2,h.n3⟩
theorem AX.ne_am(h:AX a H g G)(e:H b=o3 o)(n:∀ks,o≠.dK ks):b≠g.am/\b≠g.bx:=by
 exact xea h.am λks c _=>xea h.bx λf d _=>⟨AE e c (n _),AE e d (n _)⟩
theorem AX.same(s:Ay H d)(h:AX a H g G):AX a d g G:=by
 obtain⟨at',ok,p,j,⟨ks,q,r⟩,⟨c,u,f⟩,w,x,y⟩:=h;refine⟨at'.same s,ok,p,s _ _ j,⟨ks,s _ _ q,r⟩,⟨c,s _ _ u,f.keys,λi v e=>?_⟩,w,x,y⟩;exact Fz (f.val i v e) λl b t k m n o=>⟨l,b,t,k,m,n,s _ _ o⟩
theorem AK.le{k:Nat}(b:AK G a k):G.length<=a.length:=by
 obtain⟨r,e⟩:=b.pre;rw[e,C6];lia
theorem AX.fr{G j:Gv}(h:AX a H g G)(f:Fr g H d)(k:AJ a d g j)(c:AK G j m):AX a d g j:=by
 obtain⟨at',ok,⟨r,D⟩,p,⟨ks,E,F⟩,⟨n,I,s⟩,u,w,L⟩:=h;refine xea at'.pt λus K _=>?_;have keep:∀{b:R_}{o:HO},H b=o3 o->(∀l,o≠.lst l)->(∀l,o≠.dT l)->d b=o3 o:=λ{b o} e x M=>f _ _ e (AE e at'.lv (x _)) (AE e K (x _)) (AE e at'.nm (M _));obtain⟨t,C⟩:=c.pre;refine⟨k,c.ok,⟨r++t,by rw[C,D,N7]⟩,f _ _ p u w (AE p at'.nm A4),⟨ks,keep E (by intro l z;cases z) (by intro l z;cases z),F.app ok c⟩,⟨n,keep I (by intro l z;cases z) (by intro l z;cases z),s.keys.app c.le,λi v e=>?_⟩,u,w,L⟩;exact Fz (s.val i v e) λl b t q y A B=>⟨l,b,t,c.lev q,by rw[IA ok c l i q];exact y,A,keep B (by intro l z;cases z) (by intro l z;cases z)⟩
theorem AX.put(h:AX a H g G)(k:H l=o3 (.lst xs))(y:l≠g.lv)(z:l≠g.pt)(A:l≠g.br):AX a (upd H l o) g G:=by
 obtain⟨at',ok,s,f,⟨ks,u,w⟩,⟨d,x,j⟩,B,C,D⟩:=h;have c:∀{b v},H b=o3 v->v≠.lst xs->upd H l o b=o3 v:=λ{b v} e n=>by rw[Av (AE e k n)];exact e
 refine⟨at'.put k y z,ok,s,by rw[Av (A1b A)];exact f,⟨ks,c u A4,w⟩,⟨d,c x A4,j.keys,λi v e=>?_⟩,B,C,D⟩;exact Fz (j.val i v e) λl b t m p q r=>⟨l,b,t,m,p,q,c r A4⟩
def FrQ(g:GA)(H H':Hp):Prop:=∀b o,H b=o3 o->b≠g.am->b≠g.bx->H' b=o3 o
theorem FrQ.refl(g:GA)(H:Hp):FrQ g H H:=λ_ _ e _ _=>e
theorem FrQ.trans{a c d:Hp}(h:FrQ g a c)(j:FrQ g c d):FrQ g a d:=λb o e f i=>j b o (h b o e f i) f i
theorem Ay.frq{a c:Hp}(h:Ay a c):FrQ g a c:=λb o e _ _=>h b o e
theorem AJ.dict(p:H d=o3 (.dK ks))(h:AJ a H g G):AJ a (upd H d o) g G:=by
 obtain⟨f,i,⟨r,j,k⟩,l,m⟩:=h;have c:∀{b v},H b=o3 v->v≠.dK ks->upd H d o b=o3 v:=λ{b v} e n=>by rw[Av (AE e p n)];exact e
 exact⟨c f A4,c i A4,⟨r,c j A4,PairedM.imp (λt q z=>c z A4) k⟩,c l A4,m⟩
theorem AX.am_put(h:AX a H g G)(e:H g.am=o3 (.dK ks))(w:SV G ks2):AX a (upd H g.am (.dK ks2)) g G/\FrQ g H (upd H g.am (.dK ks2)):=by
 obtain⟨at',ok,u,m,⟨_,_,_⟩,⟨f,x,j⟩,z,A,k⟩:=h;have c:∀{b v},H b=o3 v->v≠.dK ks->upd H g.am (.dK ks2) b=o3 v:=λ{b v} d n=>by rw[Av (AE d e n)];exact d
 refine⟨⟨at'.dict e,ok,u,c m A4,⟨_,Af,w⟩,⟨f,by rw[Av (A1b k)];exact x,j.keys,λi v e=>?_⟩,z,A,k⟩,λb o d y _=>by rw[Av y];exact d⟩;exact Fz (j.val i v e) λl b t p q r s=>⟨l,b,t,p,q,r,c s A4⟩
theorem AX.bx_put(h:AX a H g G)(e:H g.bx=o3 (.dK ks))(j:aFS G H ks2):AX a (upd H g.bx (.dK ks2)) g G/\FrQ g H (upd H g.bx (.dK ks2)):=by
 obtain⟨at',ok,u,m,⟨f,w,x⟩,⟨_,_,_⟩,z,A,k⟩:=h;have c:∀{b v},H b=o3 v->v≠.dK ks->upd H g.bx (.dK ks2) b=o3 v:=λ{b v} d n=>by rw[Av (AE d e n)];exact d
 refine⟨⟨at'.dict e,ok,u,c m A4,⟨f,by rw[Av k];exact w,x⟩,⟨_,Af,j.keys,λi v e=>?_⟩,z,A,k⟩,λb o d _ y=>by rw[Av y];exact d⟩;exact Fz (j.val i v e) λl b t p q r s=>⟨l,b,t,p,q,r,c s A4⟩
theorem Py(g:GA):(fl6 g).lookup ("counted" : Str)=o4:=Fw g A3 A3 A3 A3 A3 A3
theorem Yu(g:GA):(fl6 g).lookup ("living" : Str)=o4:=Fw g A3 A3 A3 A3 A3 A3
theorem TV(g:GA):(fl6 g).lookup ("boxed" : Str)=o4:=Fw g A3 A3 A3 A3 A3 A3
theorem TU(g:GA):(fl6 g).lookup ("measured" : Str)=o4:=Fw g A3 A3 A3 A3 A3 A3
theorem aCT(g:GA):(fl6 g).lookup ("span" : Str)=o4:=Fw g A3 A3 A3 A3 A3 A3
seal L2.PA L2.PE L2.PS L2.PSs L2.PT L2.PW
theorem IC.mem{G:Gv}{n i:Nat}{q:Sq}{x y z w:Nat}(h:IC G n i q x y z w){j:Nat}{v:V}(e:(q.parts.map V.int)[j]?=o3 v):∃k:Nat,v=.int k/\Al G k n/\q.parts[j]?=o3 (k:Int):=by
 rw[C1]at e;refine xea (D7.mp e) λp a b=>?_;subst b;have c:=D5 a;rw[h.ps]at c;simp only[C4,F6,A2h]at c;rcases c with rfl|rfl|rfl|rfl
 .exact⟨x,Z,h.hx,a⟩
 .exact⟨y,Z,h.hy,a⟩
 .exact⟨z,Z,h.hz,a⟩
 .exact⟨w,Z,h.hw,a⟩
section
variable{P:N_}{w:Q_}{K:O_}{mg:C_}{n9:T_}{a:Ad}
inductive aDA(a:Ad)(n:Nat)(vs:List V)(H:Hp)(Q:VK):Prop
|mk (g:GA) (G:Gv) (i l:Nat) (_:vs=[.ref g.p,.int i]) (_:AX a H g G) (_:Al G i l) (_:l<n) (_:G.length<9000000) (_:∀H',FrQ g H H'->AX a H' g G->Q (.int (Cd G l i)) H'):aDA a n vs H Q
def Wj(a:Ad)(n:Nat):Sp:=λvs H Q _=>aDA a n vs H Q
theorem aBp(F:Fun K "counted" "Grove.counted" DO f fd)(T:Top K mg a)(Me:Qs K a.J5 "counted" f)(Bi:CM K fd Lg []):∀n,AL P w K mg n9 CX0 (n+1) f fd Lg (Wj a n)
|0=>by
 refine F.ok Dv (λvs H Q E h=>?_) (λaa A I s H vs Q E Y h=>?_)
 .obtain⟨g,G,i,l,rfl,_,_,h0,_⟩:=h;exact absurd h0 (N5 _)
 .obtain⟨g,G,i,l,rfl,_,_,h0,_⟩:=h;exact absurd h0 (N5 _)
|n+1=>by
 have aT:BR P w K mg n9 CX0 (n+1) a.J5 "counted" Lg (Wj a n):=⟨⟨f,fd,aBp F T Me Bi n,Me,Bi⟩,T.J4⟩
 refine F.ok Dv (λvs H Q E h=>?_) (λaa A I s H vs Q E Y h=>?_)
 .obtain⟨g,G,i,l,rfl,_⟩:=h;rfl
 .obtain⟨g,G,i,l,rfl,r,X,ln,few,k⟩:=h;refine xea r.am λks O M=>⟨_,(Ac (Ao (i:=2) Dv.nd Z O_9 (JN (Ed Y) (AC (pv 0) Z) (pv 1) ⟨Z,Z,Z,Z⟩)) (Ac (AO (AA Ji (pv 2) DE (AF _)) (Ac (Ao (i:=2) Dv.nd Z O_9 (AH (aAy Z) Z T.aFy PyProof.Rows.boot_sum (Aa (Cj Z (Bn.of (So:=Ah DO) (No:=Jx) (N:=["quarter","self"]) (k:=1) (cs:=[0]) Z Z A3) (Po (Aj Ax (AC (pv 0) Z) (pv 1) R_9)) (λ_ _ _=>(AY (i:=0) A3 Z Z)) (λ_ _ _=>BB) (λ_ _ _=>(AD (pv 1) aT (rm Y) Am (Aa (pv 0) Ab)))) Ab))) (Ag (FH (Ed Y) (AC (pv 0) Z) (pv 1) (pv 2) Z))) Az) (Ag (Aw (pv 2))))),?_⟩
  refine xwf Z Z r.at'.hp T.J4 T.d_ (VJ g) ⟨g.am,Z,.inl ⟨_,.inl O⟩,(xq1 Z ⟨_,GC.k (k:=Sum.inl (i:Int)) O,?_⟩)⟩;cases e:BK ks (Sum.inl (i:Int))with
  |some v =>
   refine xea (M.val i v e) λl' af c=>?_;subst c;have el:=A1f (af.uniq X);subst el;exact xq1 Z ⟨Z,(xq1 Z (Bc (xq1 Z (k H (FrQ.refl g H) r))))⟩
  |none =>
   refine xq1 Z ⟨Z,(xq1 Z (Cr ?_))⟩;cases l with
   |zero =>
    obtain⟨v,W⟩:=M.leaf i (aCJ r.ok X);rw[e]at W;cases W
   |succ m =>
    refine xe5 (BC r.ok X) λq x y z w D=>xea r.at'.pt λts h3 h4=>xea (PairedM.get h4 D.g) λt et R=>?_;have R:=R;have nt:=r.ne_am R (by intro l z;cases z);refine xwf Z Z r.at'.hp T.J4 T.L0 (Cz g) (xwi Z Z Z (SqL.of h3) (Ai (by rw[C1,et];rfl)) ⟨t,Z,⟨_,SqT.of R⟩,?_⟩);refine OQ (xs:=q.parts.map V.int) (λj d L=>FrQ g H L/\AX a L g G/\d=((q.parts.take j).map λ(p:Int)=>Cd G m p.toNat).map V.int) ⟨FrQ.refl g H,r,Z⟩ (λj d L _ z=>SqT.of (z.1 _ _ R nt.1 nt.2)) ?_ ?_
    .intro j v d L W S;refine xa2 S λfr u c=>?_;clear S;subst c;refine AS (D.mem W) λk' ab hk ek=>?_;subst ab;refine⟨⟨[o3 (.int k')],Z,Z⟩,by rw[B8,B8,J3,D.ps];exact Fe (by show min j 4<10000000;lia),FP (xq1 Z ⟨g.p,g.dx,(xq1 Z ⟨u.at'.hp,Py g,(xq1 Z ⟨g,G,k',m,Z,u,hk,by lia,few,λH3 ac b=>⟨fr.trans ac,b,?_⟩⟩)⟩)⟩)⟩;rw[F4,ek,C7,C7];rfl
    .intro d L U qd hq;refine xa2 U λfr u c=>?_;clear U;subst c;rw[B8,F8]at *
     have s3:=AM (o:=.lst ((q.parts.map λ(p:Int)=>Cd G m p.toNat).map V.int)) hq;have b:=u.same s3;refine⟨qd,q.parts.map λ(p:Int)=>Cd G m p.toNat,Z,SqL.of Af,?_⟩;generalize upd L qd (.lst ((q.parts.map λ(p:Int)=>Cd G m p.toNat).map V.int))=H3 at s3 b⊢;refine xea b.am λag C B=>?_;have lk:=B.keys.len;have es:(q.parts.map λ(p:Int)=>Cd G m p.toNat).sum=Cd G (m+1) i:=by
      rw[FM D,D.ps];rfl
     rw[es];obtain⟨ae,ad⟩:=b.am_put C (B.put (l:=m+1) X);exact xw2 Z Z (xq5 b.at'.hp T.J4 T.d_ (VJ g) (xq1 Z ⟨g.am,(xq1 Z ⟨Mm.k (k:=Sum.inl (i:Int)) C (Fe A0),(xq1 Z (k _ ((fr.trans (Ay.frq s3)).trans ad) ae))⟩)⟩))
inductive aDF(a:Ad)(vs:List V)(H:Hp)(Q:VK):Prop
|mk (g:GA) (G:Gv) (i l:Nat) (_:vs=[.ref g.p,.int i]) (_:AX a H g G) (_:Al G i l) (_:G.length<9000000) (_:∀H',FrQ g H H'->AX a H' g G->Q (.int (Cd G l i)) H'):aDF a vs H Q
def ZB(a:Ad):Sp:=λvs H Q _=>aDF a vs H Q
theorem aEc(F:Fun K "living" "Grove.living" FZ f fd)(T:Top K mg a)(n:BR P w K mg n9 CX0 2 a.J5 "check_square" Lg (Tn a))(o:BR P w K mg n9 CX0 50 a.J5 "counted" Lg (Wj a 49)):AL P w K mg n9 CX0 51 f fd Lg (ZB a):=by
 refine F.ok Os D_9 λr A j s H vs Q E m h=>?_
 obtain⟨g,G,i,l,rfl,b,c,few,k⟩:=h;refine⟨_,(Ac (Bp (AD (pv 0) n (rm m) Am (Aa (pv 1) Ab))) (Ag (Aw (AD (pv 0) o (rm m) Am (Aa (pv 1) Ab))))),?_⟩
 try dsimp only[cxK]
 have d:l<49:=by
  refine xea (id c) λq e t=>?_;have:=(b.ok.lev e).2;lia
 refine xq1 Z ⟨g.p,g.dx,(xq1 Z ⟨b.at'.hp,Pz g,(xq1 Z ⟨g,G,i,Z,b.at',c.lt,?_⟩)⟩)⟩;exact xq1 Z ⟨g.p,g.dx,(xq1 Z ⟨b.at'.hp,Py g,(xq1 Z ⟨g,G,i,l,Z,b,c,d,few,k⟩)⟩)⟩
end
theorem Qc(half:Int):∀(l r:List (Option Bx))(k:Nat),Ef half k (l++r)=Ef half k l++Ef half (k+l.length) r
|[],r,k=>rfl
|none::l,r,k=>by
 show Ef half (k+1) (l++r)=Ef half (k+1) l++Ef half (k+(l.length+1)) r;rw[Qc half l r (k+1),show k+1+l.length=k+(l.length+1) by lia]
|some b::l,r,k=>by
 show shB half k b::Ef half (k+1) (l++r)=shB half k b::(Ef half (k+1) l++Ef half (k+(l.length+1)) r);rw[Qc half l r (k+1),show k+1+l.length=k+(l.length+1) by lia]
theorem MO(half:Int):∀(l:List (Option Bx))(k:Nat),(Ef half k l).length<=l.length
|[],k=>C0 _
|none::l,k=>D0 (MO half l (k+1)) (S7 _)
|some b::l,k=>P5 (MO half l (k+1))
theorem PairedM.getL{α β:Type}{F:α->β->Prop}:∀{l:List α}{m:List β}{i:Nat}{x:α},Paired F l m->l[i]?=o3 x->∃y,m[i]?=o3 y/\F x y
|_,_,_,_,.nil,e=>by simp at e
|_,_,0,_,.cons r _,e=>by simp at e;subst e;exact⟨_,Z,r⟩
|_,_,i+1,x,.cons _ t,e=>by
 exact xea (PairedM.getL (i:=i) (x:=x) t (by simpa using e)) λy a b=>⟨y,by simpa using a,b⟩
def QO(H:Hp)(t:R_)(b:Bx):Prop:=H t=o3 (.tup (b.ns.map V.int))
theorem OR{β:Type}{K:O_}{k:Nat}{cs:J_}{g:TG}{tc:TT}{o:TE}{σ:St}{H:Hp}{fin:List V->Hp->Prop}{D:Addr->β->Prop}{L:R_}{f:H_}{bs:List β}(c:β->Int)(r:H L=o3 (.lst (f.map V.ref)))(n:Paired D f bs)(few:f.length<1000)
  (u:∀t b a N,D t b->a.length<sizeLine->N (a++[.int (c b)]) H->Bt k cs g tc o σ (.ref t) a H N) (s:fin ((bs.map c).map V.int) H):Fk k cs g tc o (Itl K L) σ H fin:=by
 have w:=A1e n;refine Db (xs:=f.map V.ref) (λj a e=>H=e/\a=((bs.take j).map c).map V.int) ⟨Z,Z⟩ (λj a e _ z=>z.1▸SqL.of r) ?_ ?_
 .intro j v a e m i;obtain⟨rfl,rfl⟩:=i;rw[C1]at m;refine xea (D7.mp m) λt q h=>?_;subst h;refine xea (PairedM.getL n q) λb p d=>u t b _ _ d (by rw[B8,B8,J3];exact Fe A0) ⟨Z,?_⟩;rw[F4,p,C7,C7];rfl
 .intro a e l;obtain⟨rfl,rfl⟩:=l;rw[B8,w,F8];exact s
section
variable{P:N_}{w:Q_}{K:O_}{mg:C_}{n9:T_}{a:Ad}
inductive WQ(vs:List V)(H:Hp)(Q:VK):Prop
|mk (t:R_) (b:Bx) (dx dy:Int) (_:vs=[.ref t,.int dx,.int dy]) (_:QO H t b) (_:∀t',H t'=o4->Q (.ref t') (upd H t' (.tup [.int (b.l+dx),.int (b.t+dy),.int b.w,.int b.h]))):WQ vs H Q
def Mo:Sp:=λvs H Q _=>WQ vs H Q
theorem ZZ(F:Fun K "shifted_box" "shifted_box" GW f fd)(T:Top K mg a):AL P w K mg n9 CX0 1 f fd QB Mo:=by
 refine F.ok Pc D_9 λe A d s H vs Q E l h=>?_
 obtain⟨t,b,g,i,rfl,c,k⟩:=h;have c:=c;refine⟨_,(Ag (Aw (Dr (AV AQ (Aj An (pv 0) Ae R_9) (pv 1) (AV AQ (Aj An (pv 0) Ae R_9) (pv 2) (Aa (Aj An (pv 0) Ae R_9) (Aa (Aj An (pv 0) Ae R_9) Ab))))))),?_⟩
 try dsimp only[cxK]
 refine xwi Z Z Z (SqT.of c) (Ai (j:=0) Z) (xwb Z Z Z (xwi Z Z Z (SqT.of c) (Ai (j:=1) Z) (xwb Z Z Z (xwi Z Z Z (SqT.of c) (Ai (j:=2) Z) (xwi Z Z Z (SqT.of c) (Ai (j:=3) Z) ⟨S_4,λt' n=>k t' n⟩)))))
inductive WU(vs:List V)(H:Hp)(Q:VK):Prop
|mk (L:R_) (ts:H_) (bs:List Bx) (_:vs=[.ref L]) (_:H L=o3 (.lst (ts.map V.ref))) (_:Paired (QO H) ts bs) (_:bs≠[]) (_:ts.length<1000) (_:∀t' H',Ay H H'->QO H' t' (Qa bs)->Q (.ref t') H'):WU vs H Q
def OC:Sp:=λvs H Q _=>WU vs H Q
theorem aBu(F:Fun K "least_box" "least_box" Do f fd)(T:Top K mg a):AL P w K mg n9 CX0 1 f fd GL OC:=by
 refine F.ok Ei D_9 λaa A S s H vs Q E hr h=>?_
 obtain⟨L,ts,bs,rfl,n,u,ne,few,k⟩:=h;have c:∀m:Bx->Int,bs.map m≠[]:=λm z=>ne (R3.mp z);refine⟨_,(Ac (Ao (i:=1) Ei.nd Z O_9 (AH (LA Z) Z T.aAK A3g (Aa (Cj Z (Bn.of (So:=Ah Do) (No:=Fd) (N:=["box"]) (k:=1) (cs:=[]) Z Z A3) (BY (pv 0)) (λ_ _ _=>(AY (i:=0) A3 Z Z)) (λ_ _ _=>BB) (λ_ _ _=>(Aj (GQ (K:=K) Z) (pv 0) Ae R_9))) Ab))) (Ac (Ao (i:=2) Ei.nd Z O_9 (AH (LA Z) Z T.aAK A3g (Aa (Cj Z (Bn.of (So:=Ah Do) (No:=Fd) (N:=["box"]) (k:=1) (cs:=[]) Z Z A3) (BY (pv 0)) (λ_ _ _=>(AY (i:=0) A3 Z Z)) (λ_ _ _=>BB) (λ_ _ _=>(Aj (GQ (K:=K) Z) (pv 0) Ae R_9))) Ab))) (Ac (Ao (i:=3) Ei.nd Z O_9 (AH (LB Z) Z T.aAN A4e (Aa (Cj Z (Bn.of (So:=Ah Do) (No:=Fd) (N:=["box"]) (k:=1) (cs:=[]) Z Z A3) (BY (pv 0)) (λ_ _ _=>(AY (i:=0) A3 Z Z)) (λ_ _ _=>BB) (λ_ _ _=>(AG AQ (Aj (GQ (K:=K) Z) (pv 0) Ae R_9) (Aj (GQ (K:=K) Z) (pv 0) Ae R_9)))) Ab))) (Ac (Ao (i:=4) Ei.nd Z O_9 (AH (LB Z) Z T.aAN A4e (Aa (Cj Z (Bn.of (So:=Ah Do) (No:=Fd) (N:=["box"]) (k:=1) (cs:=[]) Z Z A3) (BY (pv 0)) (λ_ _ _=>(AY (i:=0) A3 Z Z)) (λ_ _ _=>BB) (λ_ _ _=>(AG AQ (Aj (GQ (K:=K) Z) (pv 0) Ae R_9) (Aj (GQ (K:=K) Z) (pv 0) Ae R_9)))) Ab))) (Ag (Aw (Dr (Aa (pv 1) (Aa (pv 2) (AV Cg (pv 3) (pv 1) (AV Cg (pv 4) (pv 2) Ab))))))))))),?_⟩
 try dsimp only[cxK]
 refine xq1 Z ⟨L,Z,⟨_,SqL.of n⟩,OR (·.l) n u few (λt b e N d g nx=>⟨⟨[o3 (.ref t)],Z,Z⟩,g,FP (xwi Z Z Z (SqT.of d) (Ai (j:=0) Z) nx)⟩) λY h1=>?_⟩;refine⟨Y,(xq1 Z ⟨SqL.of Af,c _,λm1 B I=>?_⟩)⟩;obtain rfl:=aBd B I;have v:=AM (o:=.lst ((bs.map (·.l)).map V.int)) h1;generalize upd H Y (.lst ((bs.map (·.l)).map V.int))=H1 at v⊢;have p:=v _ _ n;have U:=PairedM.imp (λt b z=>v _ _ z) u;refine xq1 Z ⟨L,Z,⟨_,SqL.of p⟩,OR (·.t) p U few (λt b e N d g nx=>⟨⟨[o3 (.ref t)],Z,Z⟩,g,FP (xwi Z Z Z (SqT.of d) (Ai (j:=1) Z) nx)⟩) λq2 h2=>?_⟩;refine⟨q2,(xq1 Z ⟨SqL.of Af,c _,λm2 C M=>?_⟩)⟩;obtain rfl:=aBd C M;have x:=v.trans (AM (o:=.lst ((bs.map (·.t)).map V.int)) h2);generalize upd H1 q2 (.lst ((bs.map (·.t)).map V.int))=H2 at x⊢;have q:=x _ _ n;have W:=PairedM.imp (λt b z=>x _ _ z) u;refine xq1 Z ⟨L,Z,⟨_,SqL.of q⟩,OR (λb=>b.l+b.w) q W few (λt b e N d g nx=>⟨⟨[o3 (.ref t)],Z,Z⟩,g,FP (xwi Z Z Z (SqT.of d) (Ai (j:=0) Z) (xwi Z Z Z (SqT.of d) (Ai (j:=2) Z) (xq2 Z Z nx)))⟩) λq3 h3=>?_⟩;refine⟨q3,(xq1 Z ⟨SqL.of Af,c _,λm3 D O=>?_⟩)⟩;obtain rfl:=aBf D O;have y:=x.trans (AM (o:=.lst ((bs.map λb=>b.l+b.w).map V.int)) h3);generalize upd H2 q3 (.lst ((bs.map λb=>b.l+b.w).map V.int))=H3 at y⊢;have r:=y _ _ n;have X:=PairedM.imp (λt b z=>y _ _ z) u;refine xq1 Z ⟨L,Z,⟨_,SqL.of r⟩,OR (λb=>b.t+b.h) r X few (λt b e N d g nx=>⟨⟨[o3 (.ref t)],Z,Z⟩,g,FP (xwi Z Z Z (SqT.of d) (Ai (j:=1) Z) (xwi Z Z Z (SqT.of d) (Ai (j:=3) Z) (xq2 Z Z nx)))⟩) λq4 h4=>?_⟩;refine⟨q4,(xq1 Z ⟨SqL.of Af,c _,λm4 G R=>?_⟩)⟩;obtain rfl:=aBf G R;have s4:=y.trans (AM (o:=.lst ((bs.map λb=>b.t+b.h).map V.int)) h4);generalize upd H3 q4 (.lst ((bs.map λb=>b.t+b.h).map V.int))=H4 at s4⊢;exact xw3 Z Z Z (xwb Z Z Z (xw2 Z Z (xq2 Z Z ⟨S_4,λt5 h5=>k t5 _ (s4.trans (AM h5)) Af⟩)))
inductive aC5(a:Ad)(n:Nat)(vs:List V)(H:Hp)(Q:VK):Prop
|mk (g:GA) (G:Gv) (i l:Nat) (_:vs=[.ref g.p,.int i]) (_:AX a H g G) (_:Al G i l) (_:l<n) (_:G.length<9000000) (_:(Ch G l i=o4->∀H',FrQ g H H'->AX a H' g G->Q .non H')) (_:∀b,Ch G l i=o3 b->∀t H',FrQ g H H'->AX a H' g G->QO H' t b->Q (.ref t) H'):aC5 a n vs H Q
def To(a:Ad)(n:Nat):Sp:=λvs H Q _=>aC5 a n vs H Q
inductive aDI(a:Ad)(n:Nat)(vs:List V)(H:Hp)(Q:VK):Prop
|mk (g:GA) (G:Gv) (i l:Nat) (b:Bx) (_:vs=[.ref g.p,.int i]) (_:AX a H g G) (_:Al G i l) (_:l<n) (_:G.length<9000000) (_:Ch G l i=o3 b) (_:∀t H',FrQ g H H'->AX a H' g G->QO H' t b->Q (.ref t) H'):aDI a n vs H Q
def aDm(a:Ad)(n:Nat):Sp:=λvs H Q _=>aDI a n vs H Q
theorem RE(m:Nat)(e:l=(m:Int)+1):(1:Int)*2^(l-1).toNat=2^m:=by
 rw[e,Int.one_mul,show((m:Int)+1-1).toNat=m by lia]
theorem aEf(F:Fun K "measured" "Grove.measured" Dx f fd)(T:Top K mg a)(hd:1<=d)(aM:Cal P w K mg n9 CX0 1 "shifted_box" QB Mo)(b8:Cal P w K mg n9 CX0 1 "least_box" GL OC)(b6:BR P w K mg n9 CX0 d a.J5 "boxed" Lg (To a n)):AL P w K mg n9 CX0 (d+1) f fd Lg (aDm a (n+1)):=by
 refine F.ok BE (λvs H Q E h=>?_) (λar A aq s H vs Q E hr h=>?_)
 .obtain⟨g,G,i,l,b,rfl,_⟩:=h;rfl
 .obtain⟨g,G,i,l,b,rfl,M,hl,ln,few,eb,k⟩:=h;refine xea (id hl) λq0 e0 l0=>⟨_,(Ac (Ao (i:=2) BE.nd Z O_9 (Aj Ax (AC (pv 0) Z) (pv 1) R_9)) (Ac (AO (AA Dj (pv 2) Ae (AF _)) (Ag (Aw (Dr (AI (AI (AI (AI Ab))))))) Az) (Ac (Ao (i:=3) BE.nd Z O_9 (AG NA Ae (AG Cg (pv 2) Ae))) (Ac (Ao (i:=4) BE.nd Z O_9 (Cp Ab)) (Ac (BN A1c Z (Mx o5 Z T.i_ (Aa (Aj Ax (AC (pv 0) Z) (pv 1) R_9) Ab)) (Nr Z (CW (AU (i:=5) BE.nd Z O_9) (CW (AU (i:=6) BE.nd Z O_9) Lp))) (Ac (Ao (i:=7) BE.nd Z O_9 (AD (pv 0) b6 (rm hr) Am (Aa (pv 6) Ab))) (Ag (AO (AA Wv (pv 7) DE (AF _)) (Ag (Bp (DJ A1g A1h A2a Cb (pv 4) (Aa (Ar aM (rm hr) Z Am (Aa (pv 7) (AV EK (pv 3) (AG Bm (pv 5) Ae) (AV EK (pv 3) (AG CP (pv 5) Ae) Ab)))) Ab)))) Az)))) (Ag (Aw (Ar b8 (rm hr) Z Am (Aa (pv 4) Ab))))))))),?_⟩
  refine⟨_,Z,g.p,_,g.dx,_,_,Z,M.at'.hp,T.J4,T.Q3,Fy g,_,Z,g.lv,_,(i:Int),.int q0.lev,Z,Z,SqL.of M.at'.lv,Ai (by rw[C1,e0];rfl),?_⟩;cases l with
  |zero =>
   rw[l0];refine xq1 Z ⟨Z,(xq1 Z (Cr ⟨S_4,λt ht=>?_⟩))⟩;have e:b=⟨0,0,1,1⟩:=by
    have eb:(if i=0 then o4 else o3 (⟨0,0,1,1⟩:Bx))=o3 b:=eb;split at eb
    .cases eb
    .cases eb;rfl
   subst e;have sm:=AM (o:=.tup [.int 0,.int 0,.int 1,.int 1]) ht;exact k t _ (Ay.frq sm) (M.same sm) Af
  |succ m =>
   have ao:q0.lev=(m:Int)+1:=by rw[l0];lia
   refine xq1 Z ⟨Z,(xq1 Z ?_)⟩;rw[A0f (by intro z;injection z with z;lia)];refine xe5 (BC M.ok hl) λq x y z w D=>xea M.at'.pt λts h3 h4=>xea (PairedM.get h4 D.g) λt et ht=>?_;have ht:=ht;have nt:=M.ne_am ht (by intro l z;cases z);refine Bc (xwb Z Z Z (xq2 Z Z ⟨⟨by lia,by have:=(M.ok.lev e0).2;lia,by decide⟩,?_⟩));rw[show(λ(i j:Int)=>V.int (i*2^j.toNat)) 1 (q0.lev-1)=V.int (2^m)from A2f V.int (RE m ao)];refine⟨S_0,λL hL=>?_⟩;have m1:=A1b (As M.at'.lv hL);have m2:=A1b (As h3 hL);have m3:=A1b (As M.br hL);have s1:=AM (o:=.lst []) hL;have ad:upd H L (.lst []) L=o3 (.lst []):=Af;generalize upd H L (.lst [])=H1 at s1 ad⊢;have ab:=M.same s1;have al:=s1 _ _ h3;have am:=s1 _ _ ht;generalize B:[Ch G m x,Ch G m y,Ch G m z,Ch G m w]=r;have C:r.length=4:=by rw[<-B];rfl
   have aa:Ch G (m+1) i=QA (2^m) r:=by rw[FO D,B]
   have ac:∀(j k:Nat),q.parts[j]?=o3 (k:Int)->r[j]?=o3 (Ch G m k):=by
    intro j k e;rw[D.ps]at e;rw[<-B]
    match j,e with
    |0,e=>have e:=e;rw[show x=k from A1f (A1d e)];rfl
    |1,e=>have e:=e;rw[show y=k from A1f (A1d e)];rfl
    |2,e=>have e:=e;rw[show z=k from A1f (A1d e)];rfl
    |3,e=>have e:=e;rw[show w=k from A1f (A1d e)];rfl
    |j+4,e=>simp at e
   refine xwf Z Z ab.at'.hp T.J4 T.L0 (Cz g) (xwi Z Z Z (SqL.of al) (Ai (by rw[C1,et];rfl)) ⟨t,Z,⟨_,SqT.of am⟩,?_⟩);refine Lj (b:=o5) (xs:=q.parts.map V.int) (λj σ R=>∃(us:H_)(u5 u6 u7:Option V),σ=[o3 (.ref g.p),o3 (.int i),o3 (.int q0.lev),o3 (.int (2^m)),o3 (.ref L),u5,u6,u7]/\FrQ g H R/\AX a R g G/\R L=o3 (.lst (us.map V.ref))/\Paired (QO R) us (Ef (2^m) 0 (r.take j))) ⟨[],o4,o4,o4,Z,Ay.frq s1,ab,ad,.nil⟩ (λj σ R _ ⟨_,_,_,_,_,fr,_⟩=>SqT.of (fr _ _ ht nt.1 nt.2)) ?_ ?_
   .intro j v σ R T' ev ag nT;refine Cm ag λus u5 u6 u7 S fr U X pr=>?_;clear ag;subst S;refine AS (D.mem ev) λk' ai hk ek=>?_;subst ai;have eo:=ac j k' ek;have hj:j<4:=by rw[<-C];exact(B9.mp eo).1
    have lu:us.length<=4:=by
     rw[A1e pr];have:=MO (2^m) (r.take j) 0;rw[J3]at this;lia
    have s2:=AM (o:=.tup [.int j,.int k']) nT;refine Qb Af ?_;generalize upd R T' (.tup [.int j,.int k'])=H3 at s2⊢;have O:=U.same s2;have ge:Ef (2^m) 0 (r.take (j+1))=Ef (2^m) 0 (r.take j)++Ef (2^m) j [Ch G m k']:=by
     rw[F4,eo,Q4,Qc,J3,C,O2,Nat.min_eq_left A0]
    have nL:∀{u:Hp},FrQ g H3 u->u L=o3 (.lst (us.map V.ref)):=λ{u} f4=>by
     have:=s2 _ _ X;have n:=O.ne_am this (by intro l z;cases z);exact f4 _ _ this n.1 n.2
    have nP:∀{u:Hp},FrQ g H3 u->Paired (QO u) us (Ef (2^m) 0 (r.take j)):=λ{u} f4=>PairedM.imp (λt b z=>by
     have:=s2 _ _ z;have n:=O.ne_am this (by intro l z;cases z);exact f4 _ _ this n.1 n.2) pr
    refine xq1 Z ⟨g.p,g.dx,(xq1 Z ⟨O.at'.hp,TV g,(xq1 Z ⟨g,G,k',m,Z,O,hk,by lia,few,λen u f4 W=>?_,λb' aj t4 u f4 W an=>?_⟩)⟩)⟩
    .refine xq1 Z ⟨Z,(xq1 Z (Bc ⟨us,_,_,_,Z,(fr.trans (Ay.frq s2)).trans f4,W,nL f4,?_⟩))⟩;rw[ge,en];show Paired _ us (_++[]);rw[S0];exact nP f4
    .refine xq1 Z ⟨Z,(xq1 Z (Cr ?_))⟩;refine xq1 Z ⟨.inl ⟨Z,_,SqL.of (nL f4)⟩,(xw3 Z Z Z (xq2 Z Z ⟨(by show(0:Int)<2;decide),(xq2 Z Z ⟨.inr ⟨by lia,by lia⟩,(xw2 Z Z (xq2 Z Z ⟨⟨by decide,by decide⟩,(xq2 Z Z ⟨.inr ⟨by lia,by lia⟩,?_⟩)⟩))⟩)⟩))⟩;refine⟨t4,b',_,_,Z,an,λt5 h5=>?_⟩;have s5:=AM (o:=.tup [.int (b'.l+2^m*((j:Int)%2)),.int (b'.t+2^m*((j:Int)/2)),.int b'.w,.int b'.h]) h5;have af:QO (upd u t5 (.tup [.int (b'.l+2^m*((j:Int)%2)),.int (b'.t+2^m*((j:Int)/2)),.int b'.w,.int b'.h])) t5 (shB (2^m) j b'):=Af;generalize upd u t5 (.tup [.int (b'.l+2^m*((j:Int)%2)),.int (b'.t+2^m*((j:Int)/2)),.int b'.w,.int b'.h])=H5 at s5 af⊢;have Y:=s5 _ _ (nL f4);have ak:=W.same s5;refine⟨L,(xq2 Z Z ⟨Y,by rw[B8];exact Fe A0,?_⟩)⟩;have I:∀{c:R_}{l:List V},H5 c=o3 (.tup l)->upd H5 L (.lst (us.map V.ref++[.ref t5])) c=o3 (.tup l):=λ{c l} e=>by rw[Av (AE e Y A4)];exact e
     refine⟨us++[t5],_,_,_,Z,?_,ak.put Y m1 m2 m3,by rw[Af,C7];rfl,?_⟩
     .intro c o e n1 n2;have e5:=s5 _ _ (((fr.trans (Ay.frq s2)).trans f4) _ _ e n1 n2);rw[Av (As e hL)];exact e5
     .rw[ge,aj];exact A4g (PairedM.imp (λc b z=>I (s5 _ _ z)) (nP f4)) (I af)
   .intro σ R ah;refine Cm ah λus u5 u6 u7 S fr U X pr=>?_;clear ah;subst S;rw[B8,show q.parts.length=r.length by rw[D.ps,C];rfl,F8]at pr;have N:QA (2^m) r=o3 b:=by rw[<-aa];exact eb
    have lu:us.length<=4:=by
     rw[A1e pr];have:=MO (2^m) r 0;lia
    have e3:Ef (2^m) 0 r≠[]/\Qa (Ef (2^m) 0 r)=b:=by
     unfold QA at N;split at N
     .cases N
     .rename_i b1 r1 eg;rw[eg];exact⟨A4,A1d N⟩
    refine xq1 Z ⟨L,us,_,Z,X,pr,e3.1,by lia,λt' H' s' ae=>?_⟩;rw[e3.2]at ae;exact k t' H' (fr.trans (Ay.frq s')) (U.same s') ae
theorem aAu(h:l<=48):((Du 48).map V.int)[l]?=o3 (.int (bareN l:Int)):=by
 unfold Du;rw[C1,C1,R4 A0];rfl
theorem aCZ(F:Fun K "boxed" "Grove.boxed" ES f fd)(T:Top K mg a)(cU:BR P w K mg n9 CX0 d a.J5 "measured" Lg (aDm a n)):AL P w K mg n9 CX0 (d+1) f fd Lg (To a n):=by
 refine F.ok Em D_9 λaa A U s H vs Q E S h=>?_
 obtain⟨g,G,i,l,rfl,c,x,ln,few,k1,Y⟩:=h;refine xea (id x) λq0 W l0=>?_;have I:l<=48:=by have:=(c.ok.lev W).2;lia
 refine xea c.bx λks D y=>?_;have lk:=y.keys.len;obtain⟨r,eg⟩:=c.g0;have V:=Ll c.ok eg l i I x;refine⟨_,(Ac (AO (AA Dj (pv 1) (Aj Ax (AC (pv 0) Z) (Aj Ax (AC (pv 0) Z) (pv 1) R_9) R_9) (AF _)) (Ag (Aw DE)) Az) (Ac (Ao (i:=2) Em.nd Z O_9 (JN (Ed S) (AC (pv 0) Z) (pv 1) ⟨Z,Z,Z,Z⟩)) (Ac (AO (AA Ji (pv 2) DE (AF _)) (Ac (Ao (i:=2) Em.nd Z O_9 (AD (pv 0) cU (rm S) Am (Aa (pv 1) Ab))) (Ag (FH (Ed S) (AC (pv 0) Z) (pv 1) (pv 2) Z))) Az) (Ag (Aw (pv 2)))))),?_⟩
 try dsimp only[cxK]
 refine xw2 Z Z (xq5 c.at'.hp T.J4 T.U_ (Jm g) (xwf Z Z c.at'.hp T.J4 T.Q3 (Fy g) (xwi Z Z Z (SqL.of c.at'.lv) (Ai (by rw[C1,W];rfl)) (xq4 Z Z (SqL.of c.br) (by rw[l0];exact Ai (aAu I)) ⟨Z,(xq1 Z ?_)⟩))));refine Jl (λO=>?_) (λO=>?_)
 .have ei:i=bareN l:=by
   have:=A2b O;injection this with this
   exact A1f this
  exact k1 (V.mpr ei) H (FrQ.refl g H) c
 .have ne:¬i=bareN l:=λz=>O (by rw[z];exact A0d Z);obtain⟨b,B⟩:∃b,Ch G l i=o3 b:=by
   cases e:Ch G l i with
   |none=>exact absurd (V.mp e) ne
   |some b=>exact⟨b,Z⟩
  refine xwf Z Z c.at'.hp T.J4 T.m6 (aA8 g) ⟨g.bx,Z,.inl ⟨_,.inl D⟩,(xq1 Z ⟨_,GC.k (k:=Sum.inl (i:Int)) D,?_⟩)⟩;cases e:BK ks (Sum.inl (i:Int))with
  |some v =>
   refine Fz (y.val i v e) λl' b' t R C M ht=>?_;subst M;have el:=A1f (R.uniq x);subst el;rw[B]at C;cases C;exact xq1 Z ⟨Z,(xq1 Z (Bc (xq1 Z (Y b B t H (FrQ.refl g H) c ht))))⟩
  |none =>
   refine xq1 Z ⟨Z,(xq1 Z (Cr (xq1 Z ⟨g.p,g.dx,(xq1 Z ⟨c.at'.hp,TU g,(xq1 Z ⟨g,G,i,l,b,Z,c,x,ln,few,B,λt H2 f2 o u=>?_⟩)⟩)⟩)))⟩;refine xea o.bx λks2 q m=>?_;have ab:=m.keys.len;obtain⟨N,X⟩:=o.bx_put q (ks2:=EG ks2 (Sum.inl (i:Int)) (.ref t)) ⟨m.keys.put x.lt _,λj v L=>by
    rw[Iv]at L;split at L
    .rename_i z;injection z with z
     have:j=i:=A1f z;subst this;cases L;exact⟨l,b,t,x,B,Z,u⟩
    .exact m.val j v L⟩
   have nt:=o.ne_am u (by intro l z;cases z);exact xw2 Z Z (xq5 o.at'.hp T.J4 T.m6 (aA8 g) (xq1 Z ⟨g.bx,(xq1 Z ⟨Mm.k (k:=Sum.inl (i:Int)) q (Fe A0),(xq1 Z (Y b B t _ (f2.trans X) N (X _ _ u nt.1 nt.2)))⟩)⟩))
theorem aBn{j:E_}{k:R_}(F:Fun K "boxed" "Grove.boxed" ES f j)(q:Fun K "measured" "Grove.measured" Dx k b)(T:Top K mg a)(r:Qs K a.J5 "boxed" f)(p:CM K j Lg [])(e:Qs K a.J5 "measured" k)(c:CM K b Lg [])
 (t:Cal P w K mg n9 CX0 1 "shifted_box" QB Mo) (u:Cal P w K mg n9 CX0 1 "least_box" GL OC):∀n,AL P w K mg n9 CX0 (2*n+2) f j Lg (To a n)
|0=>by
 refine F.ok Em (λvs H Q E h=>?_) (λv A o s H vs Q E x h=>?_)
 .obtain⟨g,G,i,l,rfl,_,_,m,_⟩:=h;exact absurd m (N5 _)
 .obtain⟨g,G,i,l,rfl,_,_,m,_⟩:=h;exact absurd m (N5 _)
|n+1=>aCZ F T ⟨⟨k,b,aEf (d:=2*n+2) q T A0 t u ⟨⟨f,j,aBn F q T r p e c t u n,r,p⟩,T.J4⟩,e,c⟩,T.J4⟩
inductive aAn(a:Ad)(vs:List V)(H:Hp)(Q:VK):Prop
|mk (g:GA) (G:Gv) (i l:Nat) (_:vs=[.ref g.p,.int i]) (_:AX a H g G) (_:Al G i l) (_:G.length<9000000) (_:(Ch G l i=o4->∀H',FrQ g H H'->AX a H' g G->Q .non H')) (_:∀b,Ch G l i=o3 b->∀t H',FrQ g H H'->AX a H' g G->QO H' t b->Q (.ref t) H'):aAn a vs H Q
def UR(a:Ad):Sp:=λvs H Q _=>aAn a vs H Q
theorem aCk(F:Fun K "span" "Grove.span" IS f fd)(T:Top K mg a)(m:BR P w K mg n9 CX0 2 a.J5 "check_square" Lg (Tn a))(n:BR P w K mg n9 CX0 100 a.J5 "boxed" Lg (To a 49)):AL P w K mg n9 CX0 101 f fd Lg (UR a):=by
 refine F.ok Qy D_9 λo A j s H vs Q E k h=>?_
 obtain⟨g,G,i,l,rfl,b,c,few,r,t⟩:=h;refine⟨_,(Ac (Bp (AD (pv 0) m (rm k) Am (Aa (pv 1) Ab))) (Ag (Aw (AD (pv 0) n (rm k) Am (Aa (pv 1) Ab))))),?_⟩
 try dsimp only[cxK]
 have d:l<49:=by
  refine xea (id c) λq e u=>?_;have:=(b.ok.lev e).2;lia
 refine xq1 Z ⟨g.p,g.dx,(xq1 Z ⟨b.at'.hp,Pz g,(xq1 Z ⟨g,G,i,Z,b.at',c.lt,?_⟩)⟩)⟩;exact xq1 Z ⟨g.p,g.dx,(xq1 Z ⟨b.at'.hp,TV g,(xq1 Z ⟨g,G,i,l,Z,b,c,d,few,r,t⟩)⟩)⟩
end
noncomputable def atN(ns:I_)(k:Int):Int:=ns.getD k.toNat 0
section
variable{P:N_}{w:Q_}{K:O_}{mg:C_}{n9:T_}{a:Ad}
inductive aFX(K:O_)(vs:List V)(H:Hp)(Q:VK):Prop
|mk (l:R_) (ns:I_) (k:Int) (_:vs=[.ref l,.int k]) (_:SqL K H l (ns.map V.int)) (_:0<=k) (_:Q (.int (atN ns k)) H):aFX K vs H Q
def ZJ(K:O_):Sp:=λvs H Q _=>aFX K vs H Q
theorem aGM(F:Fun K "_law_at" "_law_at" Nn f fd)(T:Top K mg a):AL P w K mg n9 CX0 1 f fd YD (ZJ K):=by
 refine F.ok UZ D_9 λi A d s H vs Q E m h=>?_
 obtain⟨l,ns,k,rfl,g,j,q⟩:=h;refine⟨_,(Ac (AO (AA GN (pv 1) (AH Bh Z T.j_ A2g (Aa (pv 0) Ab)) (AF _)) (Ag (Aw (Aj Ax (pv 0) (pv 1) R_9))) Az) (Ag (Aw Ae))),?_⟩
 try dsimp only[cxK]
 refine⟨_,Z,_,Z,l,_,Z,.inl g,_,_,Z,Z,_,Z,?_⟩;obtain⟨n,rfl⟩:=J6 j;refine Jl (λc=>?_) (λc=>?_)
 .have b:n<ns.length:=by
   have:=A2b c;rw[B8]at this;lia
  refine⟨_,Z,_,Z,l,_,n,.int ns[n],Z,Z,g,Ai (by rw[C1,C5 b];rfl),?_⟩;have e:atN ns (n:Int)=ns[n]:=by
   unfold atN;rw[L8,D3,C5 b];rfl
  rw[e]at q;exact q
 .have b:ns.length<=n:=by
   have:¬(n:Int)<((ns.map V.int).length:Int):=λz=>c (A0d z);rw[B8]at this;lia
  have e:atN ns (n:Int)=0:=by
   unfold atN;rw[L8,D3,S4 b];rfl
  rw[e]at q;exact q
end
inductive aDC(K:O_)(vs:List V)(H:Hp)(Q:VK):Prop
|mk (a:R_) (ns:I_) (_:vs=[.ref a]) (_:SqL K H a (ns.map V.int)) (_:ns.length<=63) (_:∀H',Q (.bl o5) H'):aDC K vs H Q
def Wi(K:O_):Sp:=λvs H Q _=>aDC K vs H Q
end J
namespace J
open PySem L2
def Ap(g:GA)(x:R_):Prop:=x≠g.lv/\x≠g.pt/\x≠g.nm
theorem Ap.new(h:AJ a H g G)(n:H x=o4):Ap g x:=by
 exact xea h.pt λc b _=>⟨A1b (As h.lv n),A1b (As b n),A1b (As h.nm n)⟩
theorem Fr.get(f:Fr g H a)(p:Ap g x)(e:H x=o3 o):a x=o3 o:=f _ _ e p.1 p.2.1 p.2.2
theorem Fr.tup{a:Ad}{g:GA}{G:Gv}{H b:Hp}{x:R_}{l:List V}(f:Fr g H b)(h:AJ a H g G)(e:H x=o3 (.tup l)):b x=o3 (.tup l):=by
 exact xea h.pt λus c _=>f _ _ e (AE e h.lv A4) (AE e c A4) (AE e h.nm A4)
theorem AK.mono(h:AK G a n)(e:n<=m):AK G a m:=⟨h.ok,h.pre,D0 h.few A0⟩
theorem OG(l:Nat):(0:Int)<2^l:=Int.pow_pos A6
theorem Wu(h:l<64):(2:Int)^l<2^64:=by
 have:(2:Nat)^l<2^64:=X7 A6 h
 exact_mod_cast this
theorem Nd{d:Int}(a:0<=d)(b:d<=9):d.natAbs.log2<1920:=by
 obtain⟨m,rfl⟩:=J6 a;exact(show ∀m:Nat,m<10->(m:Int).natAbs.log2<1920 by decide +kernel) m B1
theorem Jk(h:n<=100000):n<=sizeLine:=D0 h A6
noncomputable abbrev Tg:Str:=Str.ofString "01234567*"
theorem Wd:∀m:Nat,m<9->Tg.cps.toList[m]?=o3 (if m=8 then 42 else 48+m):=by decide +kernel
noncomputable def LN(n:Int)(k:Nat):Bool:=decide (V.int (Builtin.bitAnd (n/2^k) 1)=V.int 1)
noncomputable def La(n:Int):List Int:=((List.range 9).filter (LN n)).map λ(k:Nat)=>(k:Int)
theorem aCV:∀m:Nat,m<511->La ((m:Int)+1)≠[]:=by decide +kernel
theorem aBl(n:Int):(La n).Pairwise (· < ·):=by
 unfold La;rw[P1];have:((List.range 9).filter (LN n)).Pairwise (· < ·):=List.pairwise_lt_range.sublist List.filter_sublist;exact this.imp λh=>by omega
theorem aCU(n:Int):∀m∈La n,0<=m/\m<=8:=λm c=>by
 refine xea (F1.mp c) λk b a=>?_;subst a;have:=N2.mp (Z8.mp b).1;omega
seal L2.PA L2.PE L2.PS L2.PSs L2.PT L2.PW
noncomputable abbrev amT:Str:=Str.ofString "amount"
noncomputable abbrev plT:Str:=Str.ofString "places"
noncomputable def unO:Option Int->Int
|none=>8
|some d=>d
inductive CT(H:Hp):Addr->Br->Prop where
|am {q l:R_} {s:Int} {ns:I_} (h:H q=o3 (.tup [.str amT,.int s,.ref l])) (hl:H l=o3 (.lst (ns.map V.int))):CT H q (.am s ns)
|pl {q l:R_} {ws:List (Option Int)} (h:H q=o3 (.tup [.str plT,.ref l])) (hl:H l=o3 (.lst (ws.map λw=>V.int (unO w)))):CT H q (.pl ws)
structure RC(H:Hp)(q:R_)(c:Be):Prop where
ex:∃(l:R_)(ds:H_),H q=o3 (.tup [.int (unO c.cell),.ref l,.int c.makes])/\H l=o3 (.lst (ds.map V.ref))/\Paired (CT H) ds c.conds
structure LO(H:Hp)(q:R_)(r:AB):Prop where
ex:∃cs:List Addr,H q=o3 (.lst (cs.map V.ref))/\Paired (RC H) cs r
theorem CT.same{q:R_}(s:Ay H b)(h:CT H q d):CT b q d:=by
 cases h with
 |am h a=>exact .am (s _ _ h) (s _ _ a)
 |pl h a=>exact .pl (s _ _ h) (s _ _ a)
theorem RC.same{q:R_}{c:Be}(s:Ay H a)(h:RC H q c):RC a q c:=by
 exact AN h.ex λl ds b d e=>⟨l,ds,s _ _ b,s _ _ d,Paired.imp (λ_ _ z=>z.same s) e⟩
theorem LO.same{q:R_}(s:Ay H a)(h:LO H q r):LO a q r:=by
 exact xea h.ex λcs b c=>⟨cs,s _ _ b,Paired.imp (λ_ _ z=>z.same s) c⟩
theorem aFR(h:wOk x):0<=unO x/\unO x<=8:=by
 cases x with
 |none=>exact⟨by decide,by decide⟩
 |some d=>exact⟨h.1,Int.le_of_lt h.2⟩
theorem Zq(h:wOk x):atI Tg.cps.toList (unO x)=o3 (wC x):=by
 cases x with
 |none=>exact Ai (Wd 8 A6)
 |some d =>
  obtain⟨n,b⟩:=J6 h.1;have c:=h.2;have a:n≠8:=by lia
  show atI Tg.cps.toList d=o3 (48+d.toNat);rw[b,L8];have:=Wd n A0;rw[A0c a]at this;exact Ai this
theorem Ta(h:wOk x)(y:Int):Dn x y=(decide (unO x=8) || decide (unO x=y)):=by
 cases x with
 |none=>rfl
 |some d =>
  have:=h.2;show decide (d=y)=(decide (d=8) || decide (d=y))
  rw[A0f (by lia:¬d=8),Bool.false_or]
theorem aEE(a:List (Option Int)):Str.join (Str.ofString "") (a.map λw=>(⟨#[wC w]⟩:Str))=Bb (.pl a):=by
 have b:Str.ofString "" = (⟨#[]⟩:Str):=by decide +kernel
 rw[b];refine Nu.ext ?_;rw[Tx.Fj,Tx.VC,M9];show(a.map _).flatten=a.map wC;induction a with
 |nil=>rfl
 |cons x r c=>rw[F5,S6,c,F5];rfl
theorem aBM{ns:I_}(h:∀m∈ns,0<=m/\m<=8):Str.join (Str.ofString "") (ns.map λn=>Str.ofString (toString n))=Ee ns:=by
 have a:Str.ofString "" = (⟨#[]⟩:Str):=by decide +kernel
 rw[a];refine Nu.ext ?_;rw[Tx.Fj,Tx.VC,M9];show(ns.map _).flatten=ns.map λn=>48+n.toNat;induction ns with
 |nil=>rfl
 |cons n r d =>
  have b:=h n C8;rw[F5,S6,d λm c=>h m (C9 _ c)];show(Str.ofString (toString n)).cps.toList++_=_;rw[Tx.MS b.1 A0];rfl
theorem SH{d:Int}(a:0<=d)(b:d<=9):(Str.ofString (toString d)).length=1:=by rw[Tx.MS a b];rfl
section
variable{P:N_}{w:Q_}{K:O_}{mg:C_}{n9:T_}{a:Ad}
inductive aDL(vs:List V)(H:Hp)(Q:VK):Prop
|mk (c k:Int) (_:vs=[.int c,.int k]) (_:0<=k) (_:k<=1000000) (_:∀i:Int,0<=i->Q (.int i) H):aDL vs H Q
def Tl:Sp:=λvs H Q _=>aDL vs H Q
theorem aEi(F:Fun K "_law_mix" "_law_mix" LZ f fd):AL P w K mg n9 CX0 1 f fd Gk Tl:=by
 refine F.ok Oc D_9 λd A b s H vs Q E j h=>?_
 obtain⟨c,k,rfl,e,g,q⟩:=h;refine⟨_,(Ac (Ao (i:=2) Oc.nd Z O_9 (AG Bm (AG EK (AG AQ (AG AQ (AG Bm (pv 0) Ae) (AG EK Ae (pv 1))) Ae) (AG AQ Ae (AG EK Ae (pv 1)))) Ae)) (Ag (Aw (AG CP (AG Bm (AG EK (AG AQ (AG CP (pv 2) Ae) (pv 1)) Ae) Ae) Ae)))),?_⟩
 try dsimp only[cxK]
 refine xwb Z Z Z ⟨(by show(0:Int)<998244353;decide),(xwb Z Z Z ⟨.inl ⟨by decide,by decide⟩,(xq2 Z Z (xq2 Z Z (xwb Z Z Z ⟨.inl ⟨by decide,by decide⟩,(xq2 Z Z (xq2 Z Z ⟨.inr ⟨by lia,by lia⟩,(xq2 Z Z ⟨(by show(0:Int)<2147483647;decide),?_⟩)⟩))⟩)))⟩)⟩;refine xwb Z Z Z ⟨⟨by decide,by decide⟩,(xwb Z Z Z (xq2 Z Z ⟨.inr ⟨by decide,by decide⟩,(xq2 Z Z ⟨(by show(0:Int)<2147483629;decide),(xq2 Z Z ⟨⟨by decide,by decide⟩,?_⟩)⟩)⟩))⟩;exact q _ A0
inductive aFr(vs:List V)(H:Hp)(Q:VK):Prop
|mk (m:R_) (x y v:Int) (_:vs=[.ref m,.int v]) (_:H m=o3 (.tup [.int x,.int y])) (_:Jz x) (_:Jz y) (_:∀d:Int,Jz d->Q (.int d) H):aFr vs H Q
def Zt:Sp:=λvs H Q _=>aFr vs H Q
theorem aGf(F:Fun K "_law_state_by" "_law_state_by" Fo f fd):AL P w K mg n9 CX0 1 f fd Ou Zt:=by
 refine F.ok Ng D_9 λd A b s H vs Q E n h=>?_
 obtain⟨m,x,y,v,rfl,c,k,l,q⟩:=h;refine⟨_,(Ac (AO (AA GN (AG Bm (pv 1) Ae) Ae (AF _)) (Ag (Aw (Aj An (pv 0) (AG Bm (pv 1) Ae) R_9))) Az) (Ag (Aw (AG Bm (AG CP (pv 1) Ae) Ae)))),?_⟩
 try dsimp only[cxK]
 refine xwb Z Z Z ⟨B3,(xq2 Z Z (xq1 Z ?_))⟩;refine Jl (λg=>?_) (λ_=>?_)
 .have i:=A2b g;rcases(show v%3=0\/v%3=1 by lia)with e|e
  .exact xw2 Z Z (xq2 Z Z ⟨B3,(xq4 Z Z (SqT.of c) (by rw[e];exact Ai (j:=0) Z) (q x k))⟩)
  .exact xw2 Z Z (xq2 Z Z ⟨B3,(xq4 Z Z (SqT.of c) (by rw[e];exact Ai (j:=1) Z) (q y l))⟩)
 .exact xwb Z Z Z ⟨⟨by decide,by decide⟩,(xq2 Z Z ⟨B5,q _ ⟨by lia,by lia⟩⟩)⟩
def VS(H:Hp)(m:R_):Prop:=∃x y:Int,H m=o3 (.tup [.int x,.int y])/\Jz x/\Jz y
theorem VS.same(s:Ay H b)(h:VS H m):VS b m:=by
 exact BJ h λx y c d=>⟨x,y,s _ _ c,d⟩
inductive aFd(vs:List V)(H:Hp)(Q:VK):Prop
|mk (m:R_) (sd j:Int) (_:vs=[.ref m,.int sd,.int j]) (_:VS H m) (_:0<=j) (_:j<=900000) (_:∀(q:R_)(d:Br)(H':Hp),Ay H H'->CT H' q d->d.ok->Q (.ref q) H'):aFd vs H Q
def aGu:Sp:=λvs H Q _=>aFd vs H Q
theorem aGR(F:Fun K "_law_condition_by" "_law_condition_by" CG f fd)(T:Top K mg a)(W:Cal P w K mg n9 CX0 1 "_law_mix" Gk Tl)(aA:Cal P w K mg n9 CX0 1 "_law_state_by" Ou Zt) :
 AL P w K mg n9 CX0 2 f fd DF aGu:=by
 refine F.ok BM D_9 λai A ac s H vs Q E G h=>?_
 obtain⟨m,C,j,rfl,⟨mx,my,hm,I,Y⟩,h0,h1,k⟩:=h;refine⟨_,(Ac (AO (AA Dj (AG Bm (Ar W (rm G) Z Am (Aa (pv 1) (Aa (pv 2) Ab))) Ae) Ae (AF _)) (Ac (Ao (i:=3) BM.nd Z O_9 (Cp Ab)) (Ac (BN A1c Z (Ca Z T.Y_ (AI Ab)) (AU (i:=4) BM.nd Z O_9) (Ac (Ao (i:=5) BM.nd Z O_9 (Ar W (rm G) Z Am (Aa (pv 1) (AV AQ (AG AQ (pv 2) Ae) (pv 4) Ab)))) (Ag (AO (AA Dj (AG Bm (AG CP (pv 5) Ae) Ae) Ae (AF _)) (Ag (Bp (DJ A1g A1h A2a Cb (pv 3) (Aa (Ar aA (rm G) Z Am (Aa (pv 0) (Aa (pv 5) Ab))) Ab)))) (Ag (Bp (DJ A1g A1h A2a Cb (pv 3) (AI Ab)))))))) (Ag (Aw (Dr (Pt (Aa (pv 3) Ab))))))) Az) (Ac (Ao (i:=6) BM.nd Z (Or.inr Z) (AG AQ (AG Bm (Ar W (rm G) Z Am (Aa (pv 1) (AV AQ (pv 2) Ae Ab))) Ae) Ae)) (Ag (Aw (Dr (Pt (Aa (Ar aA (rm G) Z Am (Aa (pv 0) (Aa (Ar W (rm G) Z Am (Aa (pv 1) (AV AQ (pv 2) Ae Ab))) Ab))) (Aa (Cj Z (Bn.of (So:=Ah CG) (No:=FC) (N:=["_law_k","_law_mask"]) (k:=1) (cs:=[6]) Z Z A3) (Ca Z T.Y_ (AI Ab)) (λ_ _ _=>(AY (i:=0) A3 Z Z)) (λ_ _ _=>(aCs (AA Dj (AG aEs (AG aEu (pv 1) (pv 0)) Ae) Ae (AF _)))) (λ_ _ _=>(pv 0))) Ab)))))))),?_⟩
 try dsimp only[cxK]
 refine xw2 Z Z ⟨C,j,Z,h0,by lia,λv hv=>(xq2 Z Z ⟨B3,Z,(xq1 Z ?_)⟩)⟩;refine Jl (λ_=>?_) (λ_=>?_)
 .refine⟨S_0,λl X=>?_⟩;refine⟨8,Z,by decide,by decide,Cc (n:=8) (λi σ p=>∃(c:List (Option Int))(u5 L M:Option V),σ=[o3 (.ref m),o3 (.int C),o3 (.int j),o3 (.ref l),u5,L,M]/\p=upd H l (.lst (c.map λw=>V.int (unO w)))/\c.length=i/\∀x∈c,wOk x) ⟨[],o4,o4,o4,Z,Z,Z,λx I=>by simp at I⟩ ?_ ?_⟩
  .intro i σ p hi S;refine xe4 S λc u5 L M g=>?_;refine xa3 g λt u B hw=>?_;clear g;clear S;subst t;subst u;have lt:(c.map λw=>V.int (unO w)).length<sizeLine:=by rw[B8,B];exact F9 hi A6
   have aa:upd H l (.lst (c.map λw=>V.int (unO w))) m=o3 (.tup [.int mx,.int my]):=Aq X _ _ hm;refine xq1 Z (xq1 Z (xq2 Z Z (xq1 Z (xq2 Z Z ⟨C,_,Z,by lia,by lia,λb ab=>?_⟩))));have app:∀x:Option Int,wOk x->∀L M,∃(D:List (Option Int))(ad ae af:Option V),([o3 (.ref m),o3 (.int C),o3 (.int j),o3 (.ref l),o3 (.int (0+(i:Int))),L,M]:St)=[o3 (.ref m),o3 (.int C),o3 (.int j),o3 (.ref l),ad,ae,af] /\
     upd (upd H l (.lst (c.map λw=>V.int (unO w)))) l (.lst ((c.map λw=>V.int (unO w))++[V.int (unO x)]))=upd H l (.lst (D.map λw=>V.int (unO w)))/\D.length=i+1/\∀x∈D,wOk x:=λx I L M =>
    ⟨c++[x],_,_,_,Z,by rw[GD,C7];rfl,by rw[C6,B];rfl,λy Y=>by
     rcases J7.mp Y with q|q
     .exact hw y q
     .rw[D4.mp q];exact I⟩
   refine xwb Z Z Z ⟨⟨by decide,by decide⟩,(xq2 Z Z ⟨B3,Z,(xq1 Z ?_)⟩)⟩;refine Jl (λ_=>?_) (λ_=>?_)
   .exact xq1 Z ⟨.inl ⟨Z,_,SqL.of Af⟩,(xw2 Z Z ⟨m,mx,my,b,Z,aa,I,Y,λd hd=>⟨l,(xq2 Z Z ⟨Af,lt,app (o3 d) hd _ _⟩)⟩⟩)⟩
   .exact xq1 Z ⟨.inl ⟨Z,_,SqL.of Af⟩,l,(xq2 Z Z ⟨Af,lt,app o4 trivial _ _⟩)⟩
  .intro σ p U;refine xe4 U λc u5 L M g=>?_;refine xa3 g λt u B hw=>?_;clear g;clear U;subst t;subst u;refine xq1 Z ⟨S_2,λq R=>?_⟩;have s2:=(Aq (o:=.lst (c.map λw=>V.int (unO w))) X).trans (Aq (o:=.tup [.str plT,.ref l]) R);exact k q (.pl c) _ s2 (.pl Af (Aq R _ _ Af)) ⟨B,hw⟩
 .refine xq1 Z (xq1 Z (xq2 Z Z ⟨C,_,Z,by lia,by lia,λb ab=>(xq2 Z Z ⟨(by show(0:Int)<511;decide),_,_,Z,Z,?_⟩)⟩));have z:∃n:Nat,n<511/\b%511+1=(n:Int)+1:=by
   obtain⟨n,B⟩:=J6 (show 0<=b%511 by lia);exact⟨n,by lia,by lia⟩
  refine xq1 Z (xq1 Z (xq1 Z (xq2 Z Z ⟨C,_,Z,by lia,by lia,λv3 aj=>⟨m,mx,my,v3,Z,hm,I,Y,λd hd=>?_⟩⟩)));refine⟨9,Z,by decide,by decide,?_⟩;refine Ru (n:=9) (λi r p=>H=p/\r=(((List.range i).filter (LN (b%511+1))).map λ(k:Nat)=>V.int (k:Int))) ⟨Z,Z⟩ ?_ ?_
  .intro i r p hi ag;obtain⟨rfl,rfl⟩:=ag;have lt:(((List.range i).filter (LN (b%511+1))).map λ(k:Nat)=>V.int (k:Int)).length<sizeLine:=by
    rw[B8];have:=List.length_filter_le (LN (b%511+1)) (List.range i);rw[O4]at this;exact F7 (D0 this (N8 hi)) A6
   refine⟨⟨[o3 (.int (0+(i:Int)))],Z,Z⟩,lt,?_⟩;refine xw2 Z Z (xq2 Z Z ⟨(by show(0:Int)<=0+(i:Int);lia),(xq2 Z Z ⟨Z,(xq1 Z ?_)⟩)⟩);have ei:(0+(i:Int)).toNat=i:=by lia
   have e:(List.range (i+1)).filter (LN (b%511+1))=(List.range i).filter (LN (b%511+1))++if LN (b%511+1) i=o5 then [i]else []:=by
    rw[P2,List.filter_append,List.filter_cons,List.filter_nil]
   rw[ei];show if LN (b%511+1) i=o5 then _ else _;refine Jl (λhb=>?_) (λhb=>?_)
   .refine xq1 Z ⟨Z,?_⟩;rw[e,A0e hb,C7];show _++[V.int (0+(i:Int))]=_++[V.int (i:Int)]
    rw[T0]
   .refine⟨Z,?_⟩;rw[e,A0c hb,S0]
  .intro r p ah l X;obtain⟨rfl,rfl⟩:=ah;have O:(((List.range 9).filter (LN (b%511+1))).map λ(k:Nat)=>V.int (k:Int))=(La (b%511+1)).map V.int:=by
    unfold La;rw[M9];rfl
   rw[O];refine⟨S_3,λq R=>?_⟩;have s2:=(Aq (o:=.lst ((La (b%511+1)).map V.int)) X).trans (Aq (o:=.tup [.str amT,.int d,.ref l]) R);refine k q (.am d (La (b%511+1))) _ s2 (.am Af (Aq R _ _ Af)) ⟨hd,?_,aCU _,aBl _⟩;refine xea z λn B e=>?_;rw[e];exact aCV n B
end
theorem aDh:decide (V.str amT=V.str (Str.ofString "places"))=o6:=by decide +kernel
theorem aDi:decide (V.str plT=V.str (Str.ofString "places"))=o5:=by decide +kernel
section
variable{P:N_}{w:Q_}{K:O_}{mg:C_}{n9:T_}{a:Ad}
inductive aFv(vs:List V)(H:Hp)(Q:VK):Prop
|mk (q:R_) (d:Br) (_:vs=[.ref q]) (_:CT H q d) (_:d.ok) (_:∀H',Ay H H'->Q (.str (Bb d)) H'):aFv vs H Q
def aG6:Sp:=λvs H Q _=>aFv vs H Q
theorem aGh(F:Fun K "_law_word" "_law_word" Fb f fd)(T:Top K mg a):AL P w K mg n9 CX0 1 f fd Lb aG6:=by
 refine F.ok RP D_9 λab A R s H vs Q E hr h=>?_
 obtain⟨q,d,rfl,hd,G,k⟩:=h;have l0:(Str.ofString "").length=0:=by decide +kernel
 refine⟨_,(Ac (AO (AA Dj (Aj An (pv 0) Ae R_9) Fs (AF _)) (Ag (Aw (DJ A3f A7e A7f OJ Fs (Aa (Cj Z (Bn.of (So:=Ah Fb) (No:=Lb) (N:=["_law_state"]) (k:=1) (cs:=[]) Z Z A3) (BY (Aj An (pv 0) Ae R_9)) (λ_ _ _=>(AY (i:=0) A3 Z Z)) (λ_ _ _=>BB) (λ_ _ _=>(Aj aBH Fs (pv 0) R_9))) Ab)))) Az) (Ag (Aw (AG Pw (AG Pw (BH Jp Z T.aAR A5d (Aa (Aj An (pv 0) Ae R_9) Ab)) Fs) (DJ A3f A7e A7f OJ Fs (Aa (Cj Z (Bn.of (So:=Ah Fb) (No:=Lb) (N:=["_law_k"]) (k:=1) (cs:=[]) Z Z A3) (BY (Aj An (pv 0) Ae R_9)) (λ_ _ _=>(AY (i:=0) A3 Z Z)) (λ_ _ _=>BB) (λ_ _ _=>(BH Jp Z T.aAR A5d (Aa (pv 0) Ab)))) Ab)))))),?_⟩
 try dsimp only[cxK]
 cases hd with
 |@pl l S h C =>
  refine xwi Z Z Z (SqT.of h) (Ai (j:=0) Z) ⟨Z,(xq1 Z ?_)⟩;rw[aDi];refine Cr ⟨Z,(xwi Z Z Z (SqT.of h) (Ai (j:=1) Z) ⟨l,Z,⟨_,SqL.of C⟩,?_⟩)⟩;refine Db (xs:=S.map λw=>V.int (unO w)) (λi b r=>H=r/\b=((S.take i).map λx=>(⟨#[wC x]⟩:Str)).map V.str) ⟨Z,Z⟩ (λi b r _ z=>z.1▸SqL.of C) ?_ ?_
  .intro i x b r D U;obtain⟨rfl,rfl⟩:=U;rw[C1]at D;refine xea (D7.mp D) λn y c=>?_;subst c;have v:=G.2 n (D5 y);refine⟨⟨[o3 (.int (unO n))],Z,Z⟩,?_,FP (xq1 Z ⟨Tg,_,wC n,Z,Z,A3,Zq v,Z,?_⟩)⟩
   .rw[B8,B8,J3,G.1];exact F7 (P7 _ _) A6
   .rw[F4,y,C7,C7];rfl
  .intro b r W p M;obtain⟨rfl,rfl⟩:=W;rw[B8,F8];have g:JoinOk (Str.ofString "") (S.map λx=>(⟨#[wC x]⟩:Str))=o5:=by
    refine Tx.OM 1 (λt O=>?_) ?_
    .refine xea (F1.mp O) λn v c=>?_;subst c;exact C0 1
    .rw[B8,l0,G.1];decide
   refine⟨_,p,(xq1 Z ⟨Z,SqL.of Af,g,?_⟩)⟩;rw[aEE];exact k _ (Aq M)
 |@am l st ns h C =>
  refine xa3 G λm _ v B=>?_;have aa:=OS ns 0 A6 v B;have u:st<=9:=by have:=m.2;lia
  refine xwi Z Z Z (SqT.of h) (Ai (j:=0) Z) ⟨Z,(xq1 Z ?_)⟩;rw[aDh];refine Bc (xwi Z Z Z (SqT.of h) (Ai (j:=1) Z) ⟨st,Z,Nd m.1 u,(xq2 Z Z ⟨Jk (by erw [SH m.1 u];decide),Z,(xwi Z Z Z (SqT.of h) (Ai (j:=2) Z) ⟨l,Z,⟨_,SqL.of C⟩,?_⟩)⟩)⟩);refine Db (xs:=ns.map V.int) (λi b r=>H=r/\b=((ns.take i).map λn=>Str.ofString (toString n)).map V.str) ⟨Z,Z⟩ (λi b r _ z=>z.1▸SqL.of C) ?_ ?_
  .intro i x b r D X;obtain⟨rfl,rfl⟩:=X;rw[C1]at D;refine xea (D7.mp D) λn y c=>?_;subst c;have I:=v n (D5 y);refine⟨⟨[o3 (.int n)],Z,Z⟩,?_,FP (xq1 Z ⟨n,Z,Nd I.1 A0,Z,?_⟩)⟩
   .rw[B8,B8,J3];exact F7 (P7 _ _) (F7 (show _<=9 by lia) A6)
   .rw[F4,y,C7,C7];rfl
  .intro b r Y p M;obtain⟨rfl,rfl⟩:=Y;rw[B8,F8];have g:JoinOk (Str.ofString "") (ns.map λn=>Str.ofString (toString n))=o5:=by
    refine Tx.OM 1 (λt O=>?_) ?_
    .refine xea (F1.mp O) λn L c=>?_;subst c;have:=v n L;rw[SH this.1 A0];decide
    .rw[B8,l0];lia
   refine⟨_,p,(xq1 Z ⟨Z,SqL.of Af,g,(xq2 Z Z ⟨Jk ?_,?_⟩)⟩)⟩
   .rw[aBM v];have e1:(Ee ns).length=ns.length:=by rw[Nu.len];show(ns.map _).length=_;rw[B8]
    have e2:(Str.ofString "=").length=1:=by decide +kernel
    rw[Tx.app_len,e1,e2]
    erw [SH m.1 u]
    lia
   .have e:Str.ofString (toString st)++Str.ofString "=" ++ Str.join (Str.ofString "") (ns.map λn=>Str.ofString (toString n))=Bb (.am st ns):=by
     rw[aBM v,Tx.MS m.1 u,show Str.ofString "=" = (⟨#[61]⟩:Str) by decide +kernel];rfl
    have:=k _ (Aq (o:=.lst ((ns.map λn=>Str.ofString (toString n)).map V.str)) M);rw[<-e]at this;exact this
inductive aFs(vs:List V)(H:Hp)(Q:VK):Prop
|mk (q:R_) (r:AB) (_:vs=[.ref q]) (_:LO H q r) (_:Gz r) (_:∀H',Ay H H'->Q (.str (Ea r)) H'):aFs vs H Q
def aG3:Sp:=λvs H Q _=>aFs vs H Q
theorem aGg(F:Fun K "_law_text" "_law_text" GI f fd)(T:Top K mg a)(cO:Cal P w K mg n9 CX0 1 "_law_word" Lb aG6):AL P w K mg n9 CX0 2 f fd JT aG3:=by
 refine F.ok FG D_9 λaq A am s H vs Q E hr h=>?_
 obtain⟨q,r,rfl,hR,ho,k⟩:=h;refine xea hR.ex λcs hq U=>?_;have ln:=A1e U;have ag:=ho.few;refine⟨_,(Ac (Ao (i:=1) FG.nd Z O_9 (Cp Ab)) (Ac (BN A1c Z (BY (pv 0)) (AU (i:=2) FG.nd Z O_9) (Ac (Ao (i:=3) FG.nd Z O_9 (AG Vf (Cp (Aa (Aj aBH Fs (Aj An (pv 2) Ae R_9) R_9) Ab)) (Cj Z (Bn.of (So:=Ah GI) (No:=Ol) (N:=["_law_condition"]) (k:=1) (cs:=[]) Z Z A3) (BY (Aj An (pv 2) Ae R_9)) (λ_ _ _=>(AY (i:=0) A3 Z Z)) (λ_ _ _=>BB) (λ_ _ _=>(Ar cO (rm hr) Z Am (Aa (pv 0) Ab)))))) (Ag (Bp (DJ A1g A1h A2a Cb (pv 1) (Aa (DJ A3f A7e A7f OJ Fs (AV Vf (pv 3) (Cp (Aa (BH Jp Z T.aAR A5d (Aa (Aj An (pv 2) Ae R_9) Ab)) Ab)) Ab)) Ab)))))) (Ag (Aw (DJ A3f A7e A7f OJ Fs (Aa (pv 1) Ab)))))),?_⟩
 try dsimp only[cxK]
 refine⟨S_0,λpt L=>?_⟩;have ah:∀o,upd H pt o q=o3 (.lst (cs.map V.ref)):=λo=>Aq L _ _ hq;refine xq1 Z ⟨q,Z,⟨_,SqL.of (ah _)⟩,MQ (xs:=cs.map V.ref) (λi σ n=>∃u2 u3:Option V,σ=[o3 (.ref q),o3 (.ref pt),u2,u3]/\Ay H n/\n pt=o3 (.lst ((r.take i).map λc=>V.str (BU c)))) ⟨o4,o4,Z,Aq L,Af⟩ (λi σ n _ ⟨_,_,_,S,_⟩=>SqL.of (S _ _ hq)) ?_ ?_⟩
 .intro i x σ n Y ab;refine AN ab λu2 u3 g S m=>?_;clear ab;subst g;rw[C1]at Y;refine xea (D7.mp Y) λcq ae g=>?_;subst g;refine xea (Paired.get U ae) λc ec hc=>?_;have mc:=D5 ec;have I:=ho.ok c mc;have ad:=I.few;refine AN ((hc.same S).ex) λcl ds h1 h2 h3=>?_;have aa:c.makes<=9:=by have:=I.makes.2;lia
  have un:=aFR I.cell;refine xwi Z Z Z (SqT.of h1) (Ai (j:=0) Z) ⟨Tg,_,wC c.cell,Z,Z,A3,Zq I.cell,S_1,λw1 ai=>?_⟩;have R:=Aq (o:=.lst [.str ⟨#[wC c.cell]⟩]) ai;refine xwi Z Z Z (SqT.of (R _ _ h1)) (Ai (j:=1) Z) ⟨cl,Z,⟨_,SqL.of (R _ _ h2)⟩,?_⟩;have v:upd n w1 (.lst [.str ⟨#[wC c.cell]⟩]) w1=o3 (.lst [.str ⟨#[wC c.cell]⟩]):=Af;generalize upd n w1 (.lst [.str ⟨#[wC c.cell]⟩])=H3 at R v⊢;refine Db (xs:=ds.map V.ref) (λj p O=>Ay H3 O/\p=((c.conds.take j).map Bb).map V.str) ⟨Ay.refl H3,Z⟩ (λj p O _ z=>SqL.of (z.1 _ _ (R _ _ h2))) ?_ ?_
  .intro j x p O Y an;obtain⟨s4,rfl⟩:=an;rw[C1]at Y;refine xea (D7.mp Y) λdq af g=>?_;subst g;refine xea (Paired.get h3 af) λd ed hd=>⟨⟨[o3 (.ref dq)],Z,Z⟩,?_,FP (xq1 Z ⟨dq,d,Z,(hd.same R).same s4,I.conds d (D5 ed),λH5 s5=>⟨s4.trans s5,?_⟩⟩)⟩
   .rw[B8,B8,J3];exact F7 (P7 _ _) (F7 ad A6)
   .rw[F4,ed,C7,C7];rfl
  .intro p O ao w2 aj;obtain⟨s4,rfl⟩:=ao;have ld:=A1e h3;rw[B8,ld,F8];have s5:=s4.trans (Aq (o:=.lst ((c.conds.map Bb).map V.str)) aj);have y:upd O w2 (.lst ((c.conds.map Bb).map V.str)) w2=o3 (.lst ((c.conds.map Bb).map V.str)):=Af;generalize upd O w2 (.lst ((c.conds.map Bb).map V.str))=H5 at s5 y⊢;refine⟨w1,w2,(xq2 Z Z ⟨s5 _ _ v,y,Jk (by simp only[D8,R8,B8];lia),λw3 ak=>?_⟩)⟩;have s6:=s5.trans (Aq (o:=.lst ([.str ⟨#[wC c.cell]⟩]++(c.conds.map Bb).map V.str)) ak);have B:upd H5 w3 (.lst ([.str ⟨#[wC c.cell]⟩]++(c.conds.map Bb).map V.str)) w3=o3 (.lst ([.str ⟨#[wC c.cell]⟩]++(c.conds.map Bb).map V.str)):=Af;generalize upd H5 w3 (.lst ([.str ⟨#[wC c.cell]⟩]++(c.conds.map Bb).map V.str))=H6 at s6 B⊢;have M:=R.trans s6;refine xq1 Z ⟨.inl ⟨Z,_,SqL.of (M _ _ m)⟩,Z,(xwj Z Z Z Z (SqT.of (M _ _ h1)) (Ai (j:=2) Z) ⟨c.makes,Z,Nd I.makes.1 aa,S_1,λw4 X=>?_⟩)⟩;have s7:=M.trans (Aq (o:=.lst [.str (Str.ofString (toString c.makes))]) X);have D:upd H6 w4 (.lst [.str (Str.ofString (toString c.makes))]) w4=o3 (.lst [.str (Str.ofString (toString c.makes))]):=Af;have C:=Aq (o:=.lst [.str (Str.ofString (toString c.makes))]) X _ _ B;generalize upd H6 w4 (.lst [.str (Str.ofString (toString c.makes))])=H7 at s7 D C⊢;refine⟨w3,w4,(xq2 Z Z ⟨C,D,Jk (by simp only[C6,D8,R8,B8];lia),λw5 al=>?_⟩)⟩;have eL:([.str ⟨#[wC c.cell]⟩]++(c.conds.map Bb).map V.str)++[.str (Str.ofString (toString c.makes))]=(wS c.cell::(c.conds.map Bb++[sgD c.makes])).map V.str:=by
    rw[Tx.MS I.makes.1 aa,F5,C7];rfl
   rw[eL];have s8:=s7.trans (Aq (o:=.lst ((wS c.cell::(c.conds.map Bb++[sgD c.makes])).map V.str)) al);have G:upd H7 w5 (.lst ((wS c.cell::(c.conds.map Bb++[sgD c.makes])).map V.str)) w5=o3 (.lst ((wS c.cell::(c.conds.map Bb++[sgD c.makes])).map V.str)):=Af;generalize upd H7 w5 (.lst ((wS c.cell::(c.conds.map Bb++[sgD c.makes])).map V.str))=H8 at s8 G⊢;have lb:(Str.ofString " ").length=1:=by decide +kernel
   have l:JoinOk (Str.ofString " ") (wS c.cell::(c.conds.map Bb++[sgD c.makes]))=o5:=by
    refine Tx.OM 11 (λt u=>?_) ?_
    .rcases C4.mp u with rfl|u
     .show 1<=11;decide
     .rcases J7.mp u with u|u
      .refine xea (F1.mp u) λd hd g=>?_;subst g;exact MU (I.conds d hd)
      .rw[D4.mp u];show 1<=11;decide
    .rw[lb,D8,C6,B8,D8,R8];lia
   refine⟨_,w5,(xq1 Z ⟨Z,SqL.of G,l,?_⟩)⟩;have eC:Str.join (Str.ofString " ") (wS c.cell::(c.conds.map Bb++[sgD c.makes]))=BU c:=by
    rw[show Str.ofString " " = (⟨#[32]⟩:Str) by decide +kernel];rfl
   rw[eC];refine⟨pt,(xq2 Z Z ⟨s8 _ _ m,?_,?_⟩)⟩
   .rw[B8,J3];exact F7 (P7 _ _) (F7 ag A6)
   .refine⟨_,_,Z,λb o e=>?_,?_⟩
    .have ne:=As e L;rw[Av ne];exact s8 _ _ (S _ _ e)
    .rw[Af,F4,ec,C7];rfl
 .intro σ n ac;refine AN ac λu2 u3 g S m=>?_;clear ac;subst g;rw[B8,ln,F8]at m;have W:n pt=o3 (.lst ((r.map BU).map V.str)):=by rw[m,M9];rfl
  have em:Str.ofString "; " = Rc:=by decide +kernel
  have l:JoinOk (Str.ofString "; ") (r.map BU)=o5:=by
   refine Tx.OM 1000 (λt u=>?_) ?_
   .refine xea (F1.mp u) λc hc g=>?_;subst g;exact Ml (ho.ok c hc)
   .rw[B8,em,show Rc.length=2 from rfl];lia
  refine⟨Z,(xq1 Z ⟨_,pt,(xq1 Z ⟨Z,SqL.of W,l,?_⟩)⟩)⟩;rw[em];exact k n S
inductive aFh(vs:List V)(H:Hp)(Q:VK):Prop
|mk (q m:R_) (d:Br) (ar:I_) (_:vs=[.ref q,.ref m]) (_:CT H q d) (_:d.ok) (_:H m=o3 (.lst (ar.map V.int))) (_:ar.length=8) (_:Q (.bl (d.holds ar)) H):aFh vs H Q
def aGx:Sp:=λvs H Q _=>aFh vs H Q
theorem aGV(F:Fun K "_law_holds" "_law_holds" IQ f fd)(T:Top K mg a):AL P w K mg n9 CX0 1 f fd Je aGx:=by
 refine F.ok DI D_9 λY A L s H vs Q E hr h=>?_
 obtain⟨q,m,d,b,rfl,hd,ho,G,a8,k⟩:=h;refine⟨_,(Ac (AO (AA Dj (Aj An (pv 0) Ae R_9) Fs (AF _)) (Ac (BN A1c Z (Ca Z T.Y_ (AI Ab)) (AU (i:=2) DI.nd Z O_9) (Ag (AO (PW.pt (Mb (AA GM (Aj Ax (Aj An (pv 0) Ae R_9) (pv 2) R_9) Ae (AF _)) (IW (AA GM (Aj Ax (Aj An (pv 0) Ae R_9) (pv 2) R_9) (Aj Ax (pv 1) (pv 2) R_9) (AF _))))) (Ag (Aw Jw)) Az))) (Ag (Aw Jw))) Az) (Ac (Ao (i:=3) DI.nd Z O_9 Ae) (Ac (BN A1c Z (BY (pv 1)) (AU (i:=4) DI.nd Z O_9) (Ag (AO (AA Dj (pv 4) (Aj An (pv 0) Ae R_9) (AF _)) (Ag (Ao (i:=3) DI.nd Z O_9 (AG AQ (pv 3) Ae))) Az))) (Ag (Aw (EU NB (pv 3) (Aj An (pv 0) Ae R_9) Z)))))),?_⟩
 try dsimp only[cxK]
 cases hd with
 |@pl l c h C =>
  obtain⟨w8,hw⟩:=ho;refine xwi Z Z Z (SqT.of h) (Ai (j:=0) Z) ⟨Z,(xq1 Z ?_)⟩;rw[aDi];refine Cr ⟨8,Z,by decide,by decide,Cc (n:=8) (λi σ r=>H=r/\(∃v,σ=[o3 (.ref q),o3 (.ref m),v,o4,o4])/\∀p∈(c.zip b).take i,Dn p.1 p.2=o5) ⟨Z,⟨o4,Z⟩,λp u=>by simp at u⟩ ?_ ?_⟩
  .intro i σ r hi M;obtain⟨rfl,⟨v,rfl⟩,no⟩:=M;have I:i<c.length:=by lia
   have X:i<b.length:=by lia
   have O:atI (c.map λw=>V.int (unO w)) (0+(i:Int))=o3 (V.int (unO c[i])):=by rw[T0];exact Ai (by rw[C1,C5 I];rfl)
   have eA:atI (b.map V.int) (0+(i:Int))=o3 (V.int b[i]):=by rw[T0];exact Ai (by rw[C1,C5 X];rfl)
   have R:(c.zip b)[i]?=o3 (c[i],b[i]):=by rw[W1];exact⟨C5 I,C5 X⟩
   have tk:=Ta (hw c[i] (O3 I)) b[i];refine xwi Z Z Z (SqT.of h) (Ai (j:=1) Z) (xwi Z Z Z (SqL.of C) O ⟨Z,(xq1 Z ?_)⟩);rw[Jn];have nx:Dn c[i] b[i]=o5->(∃v,([o3 (.ref q),o3 (.ref m),o3 (.int (0+(i:Int))),o4,o4]:St)=[o3 (.ref q),o3 (.ref m),v,o4,o4])/\∀p∈(c.zip b).take (i+1),Dn p.1 p.2=o5:=λh=>⟨⟨_,Z⟩,λp u=>by
    rw[F4,R]at u;rcases J7.mp u with z|z
    .exact no p z
    .have:p=(c[i],b[i]):=by simpa using z
     rw[this];exact h⟩
   by_cases S:unO c[i]=8
   .rw[A0d S]at tk⊢;exact Bc (Bc ⟨Z,nx (by rw[tk];rfl)⟩)
   .rw[A0f S]at tk⊢;refine Cr (xwi Z Z Z (SqT.of h) (Ai (j:=1) Z) (xwi Z Z Z (SqL.of C) O (xwj Z Z Z Z (SqL.of G) eA ⟨Z,(xq1 Z ?_)⟩)));rw[Jn];by_cases U:unO c[i]=b[i]
    .rw[A0d U]at tk⊢;exact Bc ⟨Z,nx (by rw[tk];rfl)⟩
    .rw[A0f U]at tk⊢;refine Cr ?_;have e:Br.holds b (.pl c)=o6:=by
      show(c.zip b).all _=o6;rw[List.all_eq_false];exact⟨_,D5 R,by rw[tk];exact D9⟩
     rw[e]at k;exact k
  .intro σ r N;obtain⟨rfl,⟨v,rfl⟩,no⟩:=N;have e:Br.holds b (.pl c)=o5:=by
    show(c.zip b).all _=o5;rw[S9];intro p u;have l8:(c.zip b).length=8:=by rw[Z9];lia
    rw[<-l8,F8]at no;exact no p u
   rw[e]at k;exact k
 |@am l st ns h C =>
  refine xwi Z Z Z (SqT.of h) (Ai (j:=0) Z) ⟨Z,(xq1 Z ?_)⟩;rw[aDh];refine Bc (xq1 Z ⟨m,Z,⟨_,SqL.of G⟩,MQ (xs:=b.map V.int) (λi σ r=>H=r/\∃v,σ=[o3 (.ref q),o3 (.ref m),o4,o3 (.int (((b.take i).countP (· == st):Nat):Int)),v]) ⟨Z,o4,Z⟩ (λi σ r _ z=>z.1▸SqL.of G) ?_ ?_⟩)
  .intro i x σ r W y;refine xa y λt o=>?_;refine xe o λv g=>?_;clear o;clear y;subst t;subst g;rw[C1]at W;refine xea (D7.mp W) λn en g=>?_;subst g;have e:(((b.take (i+1)).countP (· == st):Nat):Int)=(((b.take i).countP (· == st):Nat):Int)+(if n=st then 1 else 0):=by
    rw[F4,en,List.countP_append];by_cases h:n=st<;>simp[h]
   refine xwj Z Z Z Z (SqT.of h) (Ai (j:=1) Z) ⟨Z,(xq1 Z ?_)⟩;refine Jl (λD=>?_) (λD=>?_)
   .have:n=st:=by
     have:=A2b D;injection this
    refine xwb Z Z Z ⟨Z,o3 (.int n),?_⟩;rw[e,A0e this];rfl
   .have:¬n=st:=λz=>D (A0d (by rw[z]));refine⟨Z,o3 (.int n),?_⟩;rw[e,A0c this,T9];rfl
  .intro σ r B;refine xa B λt o=>?_;refine xe o λv g=>?_;clear o;clear B;subst t;subst g;rw[B8,F8];refine xwj Z Z Z Z (SqT.of h) (Ai (j:=2) Z) ⟨l,(xq1 Z ⟨.inl (SqL.of C),Z,Rm _,?_⟩)⟩;show Q (.bl (inV _ _)) H;rw[SB];exact k
inductive aFf(vs:List V)(H:Hp)(Q:VK):Prop
|mk (q m:R_) (r:AB) (cell:Int) (ar:I_) (_:vs=[.ref q,.int cell,.ref m]) (_:LO H q r) (_:Gz r) (_:H m=o3 (.lst (ar.map V.int))) (_:ar.length=8) (_:∀H',Ay H H'->Q (aF3 (JB r cell ar)) H'):aFf vs H Q
def aGw:Sp:=λvs H Q _=>aFf vs H Q
theorem aGU(F:Fun K "_law_decides" "_law_decides" FW f fd)(T:Top K mg a)(cJ:Cal P w K mg n9 CX0 1 "_law_holds" Je aGx):AL P w K mg n9 CX0 2 f fd Gm aGw:=by
 refine F.ok CV D_9 λac A X s H vs Q E hr h=>?_
 obtain⟨q,m,r,cell,l,rfl,hR,ho,hm,a8,k⟩:=h;refine xea hR.ex λcs W D=>?_;have ln:=A1e D;have ad:=ho.few;refine⟨_,(Ac (BN A1c Z (Ca Z T.Y_ (Aa (AH Bh Z T.j_ A2g (Aa (pv 0) Ab)) Ab)) (AU (i:=3) CV.nd Z O_9) (Ac (Ao (i:=4) CV.nd Z O_9 (EU NB (Aj An (Aj Ax (pv 0) (pv 3) R_9) Ae R_9) (Cp (Aa (pv 1) (AI Ab))) Z)) (Ac (BN A1c Z (BY (Aj An (Aj Ax (pv 0) (pv 3) R_9) Ae R_9)) (AU (i:=5) CV.nd Z O_9) (Ag (Ao (i:=4) CV.nd Z O_9 (Md (pv 4) (Nt (Ar cJ (rm hr) Z Am (Aa (pv 5) (Aa (pv 2) Ab)))))))) (Ag (AO (Cf (pv 4)) (Ag (Aw (pv 3))) Az))))) (Ag (Aw DE))),?_⟩
 try dsimp only[cxK]
 refine xq1 Z ⟨q,(xq1 Z ⟨.inl (SqL.of W),(xq1 Z ⟨by rw[B8];lia,by rw[B8];lia,?_⟩)⟩)⟩;rw[show(((cs.map V.ref).length:Nat):Int).toNat=cs.length by rw[B8,L8]];refine Cc (n:=cs.length) (λi σ B=>Ay H B/\(∃Y u4 O:Option V,σ=[o3 (.ref q),o3 (.int cell),o3 (.ref m),Y,u4,O])/\∀c∈r.take i,c.fits cell l=o6) ⟨Ay.refl H,⟨o4,o4,o4,Z⟩,λc U=>by simp at U⟩ ?_ ?_
 .intro i σ B hi aa;obtain⟨u,⟨Y,u4,O,rfl⟩,no⟩:=aa;have C:=C5 hi;refine xea (Paired.get D C) λc M U=>?_;have oc:=ho.ok c (D5 M);refine AN ((U.same u).ex) λcl ds h1 h2 h3=>?_;have eI:atI (cs.map V.ref) (0+(i:Int))=o3 (.ref cs[i]):=by rw[T0];exact Ai (by rw[C1,C];rfl)
  refine xwj Z Z Z Z (SqL.of (u _ _ W)) eI (xq4 Z Z (SqT.of h1) (Ai (j:=0) Z) (xq1 Z ⟨S_2,λt ht=>⟨t,(xq1 Z ⟨.inl (SqL.of Af),Z,Z,?_⟩)⟩⟩));have p:=Aq (o:=.lst [.int cell,.int 8]) ht;have eb:inV (.int (unO c.cell)) [.int cell,.int 8]=Dn c.cell cell:=by
   have:=SB (unO c.cell) [cell,8];rw[show([cell,8]:I_).map V.int=[V.int cell,V.int 8]from rfl]at this;rw[this,Ta oc.cell];simp only[U5,List.any_nil,Bool.or_false];rw[show decide (cell=unO c.cell)=decide (unO c.cell=cell)from decide_eq_decide.mpr eq_comm,show decide (8=unO c.cell)=decide (unO c.cell=8)from decide_eq_decide.mpr eq_comm,Bool.or_comm]
  show(Zo _ _) _ _ _;rw[eb];generalize upd B t (.lst [.int cell,.int 8])=R at p⊢;refine xwj Z Z Z Z (SqL.of (p _ _ (u _ _ W))) eI (xq4 Z Z (SqT.of (p _ _ h1)) (Ai (j:=1) Z) ⟨cl,Z,⟨_,SqL.of (p _ _ h2)⟩,?_⟩);refine MQ (xs:=ds.map V.ref) (λj σ L=>R=L/\∃v,σ=[o3 (.ref q),o3 (.int cell),o3 (.ref m),o3 (.int (0+(i:Int))),o3 (.bl (Dn c.cell cell && (c.conds.take j).all (Br.holds l))),v]) ⟨Z,O,by rw[List.take_zero,List.all_nil,Bool.and_true];rfl⟩ (λj σ L _ z=>z.1▸SqL.of (p _ _ h2)) ?_ ?_
  .intro j x σ L hx G;refine xa G λy g=>?_;refine xe g λv b=>?_;clear g;clear G;subst y;subst b;rw[C1]at hx;refine xea (D7.mp hx) λdq S b=>?_;subst b;refine xea (Paired.get h3 S) λd ed N=>xq1 Z (OT (b2:=Br.holds l d) (λ_ Q' q'=>(xw2 Z Z ⟨dq,m,d,l,Z,N.same p,oc.conds d (D5 ed),p _ _ (u _ _ hm),a8,q'⟩)) ?_);refine⟨Z,o3 (.ref dq),?_⟩;rw[F4,ed,List.all_append,Bool.and_assoc];show _=[_,_,_,_,o3 (V.bl (Dn c.cell cell && ((c.conds.take j).all (Br.holds l) && (Br.holds l d && o5)))),_]
   rw[Bool.and_true];rfl
  .intro σ L I;refine xa I λy g=>?_;refine xe g λv b=>?_;clear g;clear I;subst y;subst b;have ld:=A1e h3;rw[B8,ld,F8];refine xw2 Z Z ?_;show if c.fits cell l=o5 then _ else _;cases ef:c.fits cell l with
   |true =>
    refine Cr (xq1 Z ?_);have e:JB r cell l=o3 i:=by
     unfold JB;rw[T6];have hi:=(B9.mp M).1;refine⟨hi,?_,λj hj=>?_⟩
     .rw[(B9.mp M).2];exact ef
     .have:=no r[j] (List.mem_take_iff_getElem.mpr ⟨j,by lia,Z⟩);rw[this];exact D9
    have:=k R (u.trans p);rw[e]at this;show Q (.int (0+(i:Int))) R;rw[T0];exact this
   |false =>
    refine Bc ⟨u.trans p,⟨_,_,_,Z⟩,λd N=>?_⟩;rw[F4,M]at N;rcases J7.mp N with z|z
    .exact no d z
    .have:d=c:=by simpa using z
     rw[this];exact ef
 .intro σ B ab;obtain⟨u,⟨Y,u4,O,rfl⟩,no⟩:=ab;rw[ln,F8]at no;have e:JB r cell l=o4:=by
   unfold JB;rw[W2];exact no
  have:=k B u;rw[e]at this;exact this
inductive aFZ(vs:List V)(H:Hp)(Q:VK):Prop
|mk (q m:R_) (r:AB) (cell:Int) (ar:I_) (_:vs=[.ref q,.int cell,.ref m]) (_:LO H q r) (_:Gz r) (_:H m=o3 (.lst (ar.map V.int))) (_:ar.length=8) (_:∀H',Ay H H'->Q (.int (CK r cell ar)) H'):aFZ vs H Q
def aE9:Sp:=λvs H Q _=>aFZ vs H Q
theorem aGO(F:Fun K "_law_becomes" "_law_becomes" FY f fd)(T:Top K mg a)(y:Cal P w K mg n9 CX0 2 "_law_decides" Gm aGw):AL P w K mg n9 CX0 3 f fd Gm aE9:=by
 refine F.ok Js D_9 λz A l s H vs Q E M h=>?_
 obtain⟨q,m,r,cell,p,rfl,v,I,G,x,k⟩:=h;refine⟨_,(Ac (Ao (i:=3) Js.nd Z O_9 (Ar y (rm M) Z Am (Aa (pv 0) (Aa (pv 1) (Aa (pv 2) Ab))))) (Ac (AO (AA Ji (pv 3) DE (AF _)) (Ag (Aw (pv 1))) Az) (Ag (Aw (Aj An (Aj Ax (pv 0) (pv 3) R_9) Ae R_9))))),?_⟩
 try dsimp only[cxK]
 refine xw3 Z Z Z ⟨q,m,r,cell,p,Z,v,I,G,x,λo n=>?_⟩;refine xq1 Z ⟨Z,(xq1 Z ?_)⟩;cases e:JB r cell p with
 |none =>
  refine Cr (xq1 Z ?_);have:=k o n;rw[MY e]at this;exact this
 |some i =>
  refine xea (MX e) λc u B=>xea ((v.same n).ex) λcs L g=>?_;obtain⟨t,d⟩:∃t,cs[i]?=o3 t:=by
   have N:=A1e g;have:i<cs.length:=by rw[N];exact(B9.mp u).1
   exact⟨_,C5 this⟩
  refine xea (Paired.get g d) λO b D=>?_;rw[u]at b;cases b;refine BJ D.ex λR ds C _=>Bc (xwj Z Z Z Z (SqL.of L) (Ai (by rw[C1,d];rfl)) (xq4 Z Z (SqT.of C) (Ai (j:=2) Z) ?_));have:=k o n;rw[B]at this;exact this
end
theorem Wr{ds:H_}{vs:I_}(h:vs≠[]):ds.map V.ref≠vs.map V.int:=λz=>by
 cases vs with
 |nil=>exact h Z
 |cons v r =>
  cases ds with
  |nil=>simp at z
  |cons d q=>simp at z
theorem CT.put{H:Hp}{l q:R_}{ds:H_}{o:HO}{d:Br}(i:H l=o3 (.lst (ds.map V.ref)))(h:CT H q d)(ok:d.ok):CT (upd H l o) q d:=by
 have a:∀{b v},H b=o3 v->v≠.lst (ds.map V.ref)->upd H l o b=o3 v:=λ{b v} e n=>by rw[Av (AE e i n)];exact e
 cases h with
 |@am j s ns h c=>exact .am (a h A4) (a c λz=>Wr ok.2.1 (HO.lst.inj z).symm)
 |@pl j f h c =>
  refine .pl (a h A4) (a c λz=>?_);have g:=(HO.lst.inj z).symm;rw[show(f.map λw=>V.int (unO w))=(f.map unO).map V.int by rw[M9];rfl]at g;refine Wr (ds:=ds) (λq=>?_) g;have:=A2f List.length q;rw[B8,ok.1]at this;cases this
theorem Paired.impMem{α β:Type}{F G:α->β->Prop}:∀{l:List α}{m:List β},(∀x y,y∈m->F x y->G x y)->Paired F l m->Paired G l m
|_,_,_,.nil=>.nil
|_,_,h,.cons r t=>.cons (h _ _ C8 r) (Paired.impMem (λx y a=>h x y (C9 _ a)) t)
def QN(l0:R_)(H:Hp)(q:R_)(c:Be):Prop:=∃(l:R_)(ds:H_),l≠l0/\H q=o3 (.tup [.int (unO c.cell),.ref l,.int c.makes])/\H l=o3 (.lst (ds.map V.ref))/\Paired (CT H) ds c.conds
theorem QN.at{q:R_}{c:Be}(h:QN a H q c):RC H q c:=by
 exact BJ h λl ds _ r=>⟨l,ds,r⟩
theorem QN.same{q:R_}{c:Be}(s:Ay H a)(h:QN b H q c):QN b a q c:=by
 exact CC h λl ds n d e f=>⟨l,ds,n,s _ _ d,s _ _ e,Paired.imp (λ_ _ z=>z.same s) f⟩
theorem QN.put{a:R_}{H:Hp}{q:R_}{c:Be}{cs:H_}{o:HO}(d:H a=o3 (.lst (cs.map V.ref)))(h:QN a H q c)(ok:c.ok):QN a (upd H a o) q c:=by
 refine CC h λl ds n b e f=>⟨l,ds,n,?_,?_,Paired.impMem (λx y g z=>z.put d (ok.conds y g)) f⟩
 .rw[Av (AE b d A4)];exact b
 .rw[Av n];exact e
noncomputable def c00:Be:=⟨o3 0,[.am 0 [8]],0⟩
theorem aDz:c00.ok where
 cell:=⟨by decide,by decide⟩
 makes:=⟨by decide,by decide⟩
 few:=by show 1<=50;decide
 conds:=λd a=>by
  rw[D4.mp a];exact⟨⟨by decide,by decide⟩,by simp,λn b=>by rw[D4.mp b];exact⟨by decide,by decide⟩,List.pairwise_singleton _ _⟩
theorem aAx(r:AB):CK (c00::r) 0 BL=0:=by
 unfold CK;rw[R9];have:c00.fits 0 BL=o5:=by decide
 rw[this];rfl
section
variable{P:N_}{w:Q_}{K:O_}{mg:C_}{n9:T_}{a:Ad}
inductive aFc(vs:List V)(H:Hp)(Q:VK):Prop
|mk (m:R_) (sd j:Int) (_:vs=[.ref m,.int sd,.int j]) (_:VS H m) (_:0<=j) (_:j<=800000) (_:∀(q l:R_)(ds:H_)(c:Be)(H':Hp),Ay H H'->H l=o4->H' q=o3 (.tup [.int (unO c.cell),.ref l,.int c.makes])->H' l=o3 (.lst (ds.map V.ref))->Paired (CT H') ds c.conds->c.ok->Q (.ref q) H'):aFc vs H Q
def aGt:Sp:=λvs H Q _=>aFc vs H Q
theorem aGQ(F:Fun K "_law_clause_by" "_law_clause_by" ED f fd)(T:Top K mg a)(R:Cal P w K mg n9 CX0 1 "_law_mix" Gk Tl)(aA:Cal P w K mg n9 CX0 1 "_law_state_by" Ou Zt)(aZ:Cal P w K mg n9 CX0 2 "_law_condition_by" DF aGu) :
 AL P w K mg n9 CX0 3 f fd DF aGt:=by
 refine F.ok Ct D_9 λac A ab s H vs Q E D h=>?_
 obtain⟨m,G,j,rfl,⟨mx,my,X,hx,I⟩,h0,h1,k⟩:=h;let J1:St->Hp->Prop:=fun σ u=>∃x:Option Int,σ=[o3 (.ref m),o3 (.int G),o3 (.int j),o3 (.int (unO x)),o4,o4]/\wOk x/\H=u;refine⟨_,(Ac (Ao (i:=3) Ct.nd Z O_9 Ae) (Ac (aE1 J1 (AA TM (AG Bm (Ar R (rm D) Z Am (Aa (pv 1) (Aa (pv 2) Ab))) Ae) Ae (AF _)) (Ag (Ao (i:=3) Ct.nd Z O_9 (Ar aA (rm D) Z Am (Aa (pv 0) (Aa (Ar R (rm D) Z Am (Aa (pv 1) (AV AQ (pv 2) Ae Ab))) Ab))))) Az) (Ac (Ao (i:=4) Ct.nd Z O_9 (Cp Ab)) (Ac (BN A1c Z (Ca Z T.Y_ (AV Bm (Ar R (rm D) Z Am (Aa (pv 1) (AV AQ (pv 2) Ae Ab))) Ae Ab)) (AU (i:=5) Ct.nd Z O_9) (Ag (Bp (DJ A1g A1h A2a Cb (pv 4) (Aa (Ar aZ (rm D) Z Am (Aa (pv 0) (Aa (pv 1) (AV AQ (pv 2) (AG EK Ae (AG AQ (pv 5) Ae)) Ab)))) Ab))))) (Ag (Aw (Dr (Aa (pv 3) (Aa (pv 4) (Aa (Ar aA (rm D) Z Am (Aa (pv 0) (Aa (Ar R (rm D) Z Am (Aa (pv 1) (AV AQ (pv 2) Ae Ab))) Ab))) Ab)))))))))),?_⟩
 try dsimp only[cxK]
 refine⟨(xw2 Z Z ⟨G,j,Z,h0,by lia,λv hv=>(xq2 Z Z ⟨B6,(xq2 Z Z (xq1 Z ?_))⟩)⟩),?_⟩
 .refine Jl (λ_=>?_) (λ_=>?_)
  .exact xq1 Z (xq1 Z (xq1 Z (xq2 Z Z ⟨G,_,Z,by lia,by lia,λv2 aa=>⟨m,mx,my,v2,Z,X,hx,I,λd C=>⟨o3 d,Z,C,Z⟩⟩⟩)))
  .exact⟨o4,Z,trivial,Z⟩
 .intro σ u M;refine AS M λx U ox g=>?_;clear M;subst U;subst g;refine⟨S_0,λl W=>?_⟩;refine xq1 Z (xq1 Z (xq2 Z Z ⟨G,_,Z,by lia,by lia,λv hv=>?_⟩));obtain⟨n,ad⟩:=J6 (show 0<=v%4 by lia);refine xq2 Z Z ⟨B6,(xq1 Z ⟨by lia,by lia,?_⟩)⟩;rw[show(v%4).toNat=n by lia];refine Cc (n:=n) (λi σ u=>∃(ds:H_)(B:List Br)(u7:Option V),σ=[o3 (.ref m),o3 (.int G),o3 (.int j),o3 (.int (unO x)),o3 (.ref l),u7]/\Ay H u/\u l=o3 (.lst (ds.map V.ref))/\Paired (CT u) ds B/\B.length=i/\∀d∈B,d.ok)
   ⟨[],[],o4,Z,Aq W,Af,.nil,Z,λd C=>by simp at C⟩ ?_ ?_
  .intro i σ u hi N;refine BV N λds B u7 g L c S p=>?_;refine xa p λY r=>?_;clear p;clear N;subst g;have ld:=A1e S;refine xq1 Z ⟨.inl ⟨Z,_,SqL.of c⟩,_,Z,_,Z,_,Z,_,Z,_,_,Z,Z,_,_,Z,Z,.inl ⟨by decide,by decide⟩,_,_,Z,Z,m,G,_,Z,⟨mx,my,L _ _ X,hx,I⟩,by lia,by lia,λq d H3 t C od=>?_⟩;refine⟨l,_,_,Z,Z,t _ _ c,by rw[B8,ld,Y];exact F9 hi (Jk A0),?_⟩;refine⟨ds++[q],B++[d],(xq1 Z ⟨λb o e=>?_,?_,?_,by rw[C6,Y];rfl,λe he=>?_⟩)⟩
   .rw[Av (As e W)];exact t _ _ (L _ _ e)
   .rw[Af,C7];rfl
   .refine A4g (Paired.impMem (λx' y I z=>(z.same t).put (t _ _ c) (r y I)) S) (C.put (t _ _ c) od)
   .rcases J7.mp he with z|z
    .exact r e z
    .rw[D4.mp z];exact od
  .intro σ u O;refine BV O λds B u7 g L c S p=>?_;refine xa p λY r=>?_;clear p;clear O;subst g;refine xq1 Z (xq1 Z (xq1 Z (xq1 Z (xq1 Z (xq2 Z Z ⟨G,_,Z,by lia,by lia,λv2 aa=>⟨m,mx,my,v2,Z,L _ _ X,hx,I,λd C=>⟨S_3,λq hq=>?_⟩⟩⟩)))));have t:=Aq (o:=.tup [.int (unO x),.ref l,.int d]) hq;exact k q l ds ⟨x,B,d⟩ _ (L.trans t) W Af (t _ _ c) (Paired.imp (λ_ _ z=>z.same t) S) ⟨ox,C,(by show B.length<=50;lia),r⟩
inductive aFe(K:O_)(vs:List V)(H:Hp)(Q:VK):Prop
|mk (l:R_) (ns:I_) (ft mn:Int) (_:vs=[.ref l,.int ft,.int mn]) (_:SqL K H l (ns.map V.int)) (_:0<=ft) (_:0<=mn) (_:mn<=40) (_:∀(q:R_)(r:AB)(H':Hp),Ay H H'->LO H' q r->Gz r->CK r 0 BL=0->mn<=r.length->r.length<=mn+1->Q (.ref q) H'):aFe K vs H Q
def aGv(K:O_):Sp:=λvs H Q _=>aFe K vs H Q
theorem aGS(F:Fun K "_law_clauses_by" "_law_clauses_by" En f fd)(T:Top K mg a)(aB:Cal P w K mg n9 CX0 1 "_law_at" YD (ZJ K))(bD:Cal P w K mg n9 CX0 3 "_law_clause_by" DF aGt)(aQ:Cal P w K mg n9 CX0 3 "_law_becomes" Gm aE9) :
 AL P w K mg n9 CX0 4 f fd Et (aGv K):=by
 refine F.ok Ce D_9 λaj A ai s H vs Q E Y h=>?_
 obtain⟨l,ns,v,mn,rfl,hS,h0,m0,al,k⟩:=h;refine⟨_,(Ac (Ao (i:=3) Ce.nd Z O_9 (Dr (AV Bm (Ar aB (rm Y) Z Am (Aa (pv 0) (Aa (pv 1) Ab))) Ae (AV Bm (Ar aB (rm Y) Z Am (Aa (pv 0) (AV AQ (pv 1) Ae Ab))) Ae Ab)))) (Ac (Ao (i:=4) Ce.nd Z O_9 (Cp Ab)) (Ac (BN A1c Z (Ca Z T.Y_ (Aa (pv 2) Ab)) (AU (i:=5) Ce.nd Z O_9) (Ag (Bp (DJ A1g A1h A2a Cb (pv 4) (Aa (Ar bD (rm Y) Z Am (Aa (pv 3) (Aa (Ar aB (rm Y) Z Am (Aa (pv 0) (AV AQ (AG AQ (pv 1) Ae) (pv 5) Ab))) (AV EK Ae (pv 5) Ab)))) Ab))))) (Ac (AO (AA GM (Ar aQ (rm Y) Z Am (Aa (pv 4) (AI (Vc (AI (AI (AI (AI (AI (AI (AI (AI Ab)))))))) Ab)))) Ae (AF _)) (Ag (Ao (i:=4) Ce.nd Z O_9 (AG Vf (Cp (AZ (AI (Vc (AZ (Pt (AI (Vc (AI Ab) Ab))) Ab) (AI Ab))) Ab)) (pv 4)))) Az) (Ag (Aw (pv 4))))))),?_⟩
 try dsimp only[cxK]
 refine xw2 Z Z ⟨l,ns,v,Z,hS,h0,?_⟩;refine xq2 Z Z ⟨B5,(xq1 Z ?_)⟩;refine xq1 Z (xq2 Z Z ⟨l,ns,_,Z,hS,by lia,?_⟩);refine⟨_,_,Z,Z,B5,S_2,λm hm=>?_⟩;have s1:=Aq (o:=.tup [.int (atN ns v%8),.int (atN ns (v+1)%8)]) hm;have hM:VS (upd H m (.tup [.int (atN ns v%8),.int (atN ns (v+1)%8)])) m:=⟨_,_,Af,⟨by lia,by lia⟩,⟨by lia,by lia⟩⟩
 have M:=s1;show(Zo _ _) _ _ (upd H m (.tup [.int (atN ns v%8),.int (atN ns (v+1)%8)]));generalize upd H m (.tup [.int (atN ns v%8),.int (atN ns (v+1)%8)])=H1 at s1 M hM⊢;refine⟨S_0,λx W=>?_⟩;obtain⟨n,rfl⟩:=J6 m0;refine xw2 Z Z ⟨by lia,by lia,?_⟩;rw[L8];refine Cc (n:=n) (λi σ N=>∃(cs:H_)(r:AB)(u5:Option V),σ=[o3 (.ref l),o3 (.int v),o3 (.int n),o3 (.ref m),o3 (.ref x),u5]/\Ay H1 N/\N x=o3 (.lst (cs.map V.ref))/\Paired (QN x N) cs r/\r.length=i/\∀c∈r,c.ok)
  ⟨[],[],o4,Z,Aq W,Af,.nil,Z,λd hd=>by simp at hd⟩ ?_ ?_
 .intro i σ N hi ac;refine BV ac λcs r u5 I sm g pr u=>?_;refine xa u λhn t=>?_;clear u;clear ac;subst I;have ld:=A1e pr;have ae:=(M.trans sm).seq hS;refine xq1 Z ⟨.inl ⟨Z,_,SqL.of g⟩,_,Z,_,Z,_,Z,_,_,Z,Z,_,Z,_,_,Z,Z,l,ns,_,Z,ae,by lia,_,Z,_,_,Z,Z,.inl ⟨by decide,by decide⟩,m,_,_,Z,hM.same sm,by lia,by lia,λq l' ds c H3 C nl e1 e2 e3 oc=>?_⟩;refine⟨x,_,_,Z,Z,C _ _ g,by rw[B8,ld,hn];exact F9 hi (Jk A0),?_⟩;have ah:l'≠x:=λz=>by rw[z,g]at nl;cases nl
  refine⟨cs++[q],r++[c],(xq1 Z ⟨λb o e=>?_,?_,?_,by rw[C6,hn];rfl,λe he=>?_⟩)⟩
  .rw[Av (As e W)];exact C _ _ (sm _ _ e)
  .rw[Af,C7];rfl
  .refine A4g (Paired.impMem (λx' y hy z=>(z.same C).put (C _ _ g) (t y hy)) pr) (QN.put (C _ _ g) ⟨l',ds,ah,e1,e2,e3⟩ oc)
  .rcases J7.mp he with z|z
   .exact t e z
   .rw[D4.mp z];exact oc
 .intro σ N ad;refine BV ad λcs r u5 I sm g pr u=>?_;refine xa u λhn t=>?_;clear u;clear ad;subst I;have hR:LO N x r:=⟨cs,g,Paired.imp (λ_ _ z=>z.at) pr⟩
  have rk:Gz r:=⟨by lia,t⟩
  refine xq1 Z ⟨(by show 8<=sizeLine;decide),λz8 ag=>?_⟩;have C:=Aq (o:=.lst (BL.map V.int)) ag;refine⟨x,z8,r,0,BL,Z,hR.same C,rk,Af,Z,λH4 s4=>?_⟩;have ab:=((M.trans sm).trans C).trans s4;have S:=(hR.same C).same s4;refine⟨Z,(xq1 Z ?_)⟩;rw[Jn];by_cases hz:CK r 0 BL=0
  .rw[A0d hz];exact Bc (xq1 Z (k x r H4 ab S rk hz A0 A0))
  .rw[A0f hz];refine Cr ?_;refine⟨S_1,λb1 af=>⟨S_3,λb2 U=>⟨S_1,λO L=>⟨S_3,λG B=>⟨S_1,λb5 p=>?_⟩⟩⟩⟩⟩;generalize j:upd (upd (upd (upd (upd H4 b1 (.lst [.int 8])) b2 (.tup [.str (Str.ofString "amount"),.int 0,.ref b1])) O (.lst [.ref b2])) G (.tup [.int 0,.ref O,.int 0])) b5 (.lst [.ref G])=D;have s5:Ay H4 D:=by rw[<-j];exact(((Aq af).trans (Aq U)).trans (Aq L)).trans ((Aq B).trans (Aq p))
   have e1:D b1=o3 (.lst [.int 8]):=by rw[<-j];exact Aq p _ _ (Aq B _ _ (Aq L _ _ (Aq U _ _ Af)))
   have e2:D b2=o3 (.tup [.str (Str.ofString "amount"),.int 0,.ref b1]):=by rw[<-j];exact Aq p _ _ (Aq B _ _ (Aq L _ _ Af))
   have e3:D O=o3 (.lst [.ref b2]):=by rw[<-j];exact Aq p _ _ (Aq B _ _ Af)
   have e4:D G=o3 (.tup [.int 0,.ref O,.int 0]):=by rw[<-j];exact Aq p _ _ Af
   have e5:D b5=o3 (.lst [.ref G]):=by rw[<-j];exact Af
   refine xea ((S.same s5).ex) λR X aa=>?_;have ak:=A1e aa;refine xq1 Z ⟨b5,x,(xq2 Z Z ⟨e5,X,Jk (by simp only[D8,R8,B8];lia),λq hq=>?_⟩)⟩;have s6:=Aq (o:=.lst ([V.ref G]++R.map V.ref)) hq;have c0:RC D G c00:=⟨O,[b2],e4,e3,.cons (.am (ns:=[8]) e2 e1) .nil⟩
   refine xq1 Z (k q (c00::r) _ ((ab.trans s5).trans s6) ⟨G::R,Af,.cons (c0.same s6) (Paired.imp (λ_ _ z=>z.same s6) aa)⟩ ⟨by rw[D8];lia,λc hc=>?_⟩ (aAx r) (by rw[D8];lia) (by rw[D8];lia));rcases C4.mp hc with z|z
   .rw[z];exact aDz
   .exact t c z
end
theorem Ay.noneN(s:Ay H a)(n:a x=o4):H x=o4:=by
 cases e:H x with
 |none=>rfl
 |some o=>rw[s _ _ e]at n;cases n
theorem Rb{T:St->Hp->Prop}{C:Prop}(P:St->Hp->Prop)(h:(∀σ H,P σ H->T σ H)->C)(k:∀σ H,P σ H->T σ H):C:=h k
structure MA where
tp:Addr
l:Addr
kc:Addr
ds:List Addr
noncomputable def jf2(gp mem:R_):List (Str×V):=AW "memories" (.ref mem) (AW "grove" (.ref gp) [])
noncomputable def jf5(gp mem pr l kc:R_):List (Str×V):=AW "known_cells" (.ref kc) (AW "known_squares" (.ref l) (AW "rule" (.ref pr) (jf2 gp mem)))
theorem aCF(a mem:R_):(jf2 a mem).lookup ("memories" : Str)=o3 (V.ref mem):=by
 unfold jf2;rw[Ak,A0e rfl]
theorem aBJ(a mem:R_)(b:¬m=("memories" : Str))(c:¬m=("grove" : Str)):(jf2 a mem).lookup m=o4:=by
 unfold jf2;rw[Ak,A0c b,Ak,A0c c];rfl
section
variable(gp mem pr l kc:R_)
theorem aBK:(jf5 gp mem pr l kc).lookup ("known_cells" : Str)=o3 (V.ref kc):=by
 unfold jf5;rw[Ak,A0e rfl]
theorem aBL:(jf5 gp mem pr l kc).lookup ("known_squares" : Str)=o3 (V.ref l):=by
 unfold jf5;rw[Ak,A0c A3,Ak,A0e rfl]
theorem aED:(jf5 gp mem pr l kc).lookup ("rule" : Str)=o3 (V.ref pr):=by
 unfold jf5;rw[Ak,A0c A3,Ak,A0c A3,Ak,A0e rfl]
theorem Ew:(jf5 gp mem pr l kc).lookup ("grove" : Str)=o3 (V.ref gp):=by
 unfold jf5 jf2;rw[Ak,A0c A3,Ak,A0c A3,Ak,A0c A3,Ak,A0c A3,Ak,A0e rfl]
theorem Mj(a:¬m=("known_cells" : Str))(b:¬m=("known_squares" : Str))(c:¬m=("rule" : Str))(d:¬m=("memories" : Str))(e:¬m=("grove" : Str)):(jf5 gp mem pr l kc).lookup m=o4:=by
 unfold jf5;rw[Ak,A0c a,Ak,A0c b,Ak,A0c c,aBJ _ _ d e]
theorem Yx:(jf5 gp mem pr l kc).lookup ("after" : Str)=o4:=Mj _ _ _ _ _ A3 A3 A3 A3 A3
theorem Yw:(jf5 gp mem pr l kc).lookup ("check_jump" : Str)=o4:=Mj _ _ _ _ _ A3 A3 A3 A3 A3
theorem MD:(jf5 gp mem pr l kc).lookup ("reckoned" : Str)=o4:=Mj _ _ _ _ _ A3 A3 A3 A3 A3
theorem Yv:(jf5 gp mem pr l kc).lookup ("fresh" : Str)=o4:=Mj _ _ _ _ _ A3 A3 A3 A3 A3
theorem aBi:(jf5 gp mem pr l kc).lookup ("four_halfway" : Str)=o4:=Mj _ _ _ _ _ A3 A3 A3 A3 A3
theorem aCS:(jf5 gp mem pr l kc).lookup ("middle_after" : Str)=o4:=Mj _ _ _ _ _ A3 A3 A3 A3 A3
theorem aBh:(jf5 gp mem pr l kc).lookup ("cell_after" : Str)=o4:=Mj _ _ _ _ _ A3 A3 A3 A3 A3
end
inductive Nv:HO->Prop
|tup {xs:List V}:Nv (.tup xs)
|ins {C dx:R_} {fs:List (Str×V)} (h1:1<=fs.length) (h2:fs.length<=3):Nv (.ins C dx fs)
theorem OF(f:Str)(v:V):∀fs:List (Str×V),1<=(AW f v fs).length
|[]=>C0 1
| (g,x)::r=>by
 unfold AW;split
 .rw[D8];lia
 .rw[D8];lia
theorem DH.kp{c:Br}(k:∀b o,H b=o3 o->Nv o->e b=o3 o)(h:DH a H p c):DH a e p c:=by
 cases h with
 |am h d=>exact .am (k _ _ h (.ins (OF _ _ _) (D0 (BG _ _ _) (P5 (D0 (BG _ _ _) (by show 0+1<=2;decide)))))) (k _ _ d .tup)
 |pl h d=>exact .pl (k _ _ h (.ins (OF _ _ _) (D0 (BG _ _ _) (by show 0+1<=3;decide)))) (k _ _ d .tup)
theorem Ci.kp{c:Be}(k:∀b o,H b=o3 o->Nv o->d b=o3 o)(h:Ci a H p c):Ci a d p c:=by
 exact CL h.ex λe t cs f g i=>⟨e,t,cs,k _ _ f (.ins (OF _ _ _) (D0 (BG _ _ _) (P5 (D0 (BG _ _ _) (P5 (D0 (BG _ _ _) (by show 0+1<=1;decide))))))),k _ _ g .tup,Paired.imp (λ_ _ z=>z.kp k) i⟩
theorem CS.kp{H c:Hp}(k:∀b o,H b=o3 o->Nv o->c b=o3 o)(h:CS a H p x r):CS a c p x r:=by
 exact CL h.ex λd t cs e f g=>⟨d,t,cs,k _ _ e (.ins (OF _ _ _) (D0 (BG _ _ _) (P5 (D0 (BG _ _ _) (by show 0+1<=2;decide))))),k _ _ f .tup,Paired.imp (λ_ _ z=>z.kp k) g⟩
noncomputable def mK(ms:List (Str×MA)):List (Key×V):=ms.map λe=>(Sum.inr e.1,V.ref e.2.tp)
theorem WA(t:Str):∀a:List (Str×MA),(∃m,(t,m)∈a/\BK (mK a) (Sum.inr t)=o3 (.ref m.tp))\/(BK (mK a) (Sum.inr t)=o4/\∀e∈a,e.1≠t)
|[]=>.inr ⟨Z,λe d=>nomatch d⟩
|e::r=>by
 by_cases h:e.1=t
 .refine .inl ⟨e.2,?_,?_⟩
  .rw[<-h];exact C8
  .exact BW (p:=(Sum.inr e.1,V.ref e.2.tp)) (r:=mK r) (by rw[h])
 .have n:=BD (p:=(Sum.inr e.1,V.ref e.2.tp)) (r:=mK r) λz=>h (Sum.inr.inj z);rcases WA t r with ⟨m,b,c⟩|⟨b,c⟩
  .exact .inl ⟨m,C9 _ b,n.trans c⟩
  .refine .inr ⟨n.trans b,λx f=>?_⟩;rcases C4.mp f with z|z
   .rw[z];exact h
   .exact c x z
inductive aBz(H H':Hp)(t:Str)(ms ms':List (Str×MA))(m:MA):Prop
|old (_:(t,m)∈ms) (_:ms'=ms):aBz H H' t ms ms' m
|new (_:ms'=ms++[(t,m)]) (_:∀e∈ms,e.1≠t) (_:H m.tp=o4/\H m.l=o4/\H m.kc=o4/\∀d∈m.ds,H d=o4) (_:H' m.tp=o3 (.tup [.ref m.l,.ref m.kc])) (_:H' m.l=o3 (.lst (m.ds.map V.ref))) (_:H' m.kc=o3 (.dT [])) (_:∀d∈m.ds,H' d=o3 (.dK [])) (_:m.ds.length=47) (_:m.ds.Nodup):aBz H H' t ms ms' m
section
variable{P:N_}{w:Q_}{K:O_}{mg:C_}{n9:T_}{a:Ad}
inductive aAm(a:Ad)(vs:List V)(H:Hp)(Q:VK):Prop
|mk (p:R_) (t:Str) (r:AB) (_:vs=[.ref p]) (_:CS a H p t r) (_:Q (.str t) H):aAm a vs H Q
def US(a:Ad):Sp:=λvs H Q _=>aAm a vs H Q
theorem aCj(F:Fun K "shown_rule" "shown_rule" IK f fd)(T:Top K mg a):AL P w K mg n9 CX0 1 f fd Se (US a):=by
 refine F.ok Qu D_9 λc A b s H vs Q E l h=>?_
 obtain⟨p,t,r,rfl,e,k⟩:=h;refine CL e.ex λg m cs d i j=>⟨_,(Ag (Aw (AC (pv 0) Z))),?_⟩
 exact xwf Z Z d T.aAF T.aAH (aA6 A3) k
inductive aC8(a:Ad)(vs:List V)(H:Hp)(Q:VK):Prop
|mk (p dx mem pr:R_) (fs:List (Str×V)) (t:Str) (r:AB) (ms:List (Str×MA)) (_:vs=[.ref p,.ref pr]) (_:H p=o3 (.ins a.M3 dx fs)) (_:fs.lookup ("memories" : Str)=o3 (.ref mem)) (_:fs.length<=10) (_:H mem=o3 (.dK (mK ms))) (_:ms.length<=1000) (_:∀e∈ms,H e.2.tp=o3 (.tup [.ref e.2.l,.ref e.2.kc])) (_:CS a H pr t r) (_:∀(H':Hp)(m:MA)(ms':List (Str×MA)),(∀b o,H b=o3 o->b≠p->b≠mem->H' b=o3 o)->H' p=o3 (.ins a.M3 dx (AW "known_cells" (.ref m.kc) (AW "known_squares" (.ref m.l) (AW "rule" (.ref pr) fs))))->H' mem=o3 (.dK (mK ms'))->aBz H H' t ms ms' m->Q .non H'):aC8 a vs H Q
def ZG(a:Ad):Sp:=λvs H Q _=>aC8 a vs H Q
theorem aET(F:Fun K "change" "Jumps.change" Ep f fd)(T:Top K mg a)(cG:Cal P w K mg n9 CX0 1 "shown_rule" Se (US a)):AL P w K mg n9 CX0 2 f fd Gp (ZG a):=by
 refine F.ok Jt D_9 λa4 A a2 s H vs Q E hr h=>?_
 obtain⟨p,L,mem,B,fs,t,r,M,rfl,hp,C,a5,hm,few,ae,hR,k⟩:=h;refine⟨_,(Ac (Ao (i:=2) Jt.nd Z O_9 (Ar cG (rm hr) Z Am (Aa (pv 1) Ab))) (Ac (AO (aE2 (Yn (Ed hr) (pv 2) (AC (pv 0) Z))) (Ag (FH (Ed hr) (AC (pv 0) Z) (pv 2) (Dr (Aa (Cj Z (Bn.of (So:=Ah Ep) (No:=Lf) (N:=["e"]) (k:=1) (cs:=[]) Z Z A3) (Ca Z T.Y_ (AV Cg (BZ Z T.m_) Ae Ab)) (λ_ _ _=>(AY (i:=0) A3 Z Z)) (λ_ _ _=>BB) (λ_ _ _=>MB)) (Aa Mz Ab))) Z)) Az) (Ac (CO (pv 0) (pv 1) Z) (Ac (CO (pv 0) (Aj An (RY (Ed hr) (AC (pv 0) Z) (pv 2) R_9) Ae R_9) Z) (Ag (CO (pv 0) (Aj An (RY (Ed hr) (AC (pv 0) Z) (pv 2) R_9) Ae R_9) Z)))))),?_⟩
 try dsimp only[cxK]
 have S:=AE hp hm A4;refine xq1 Z ⟨B,t,r,Z,hR,?_⟩;apply Rb (fun σ W=>σ=[o3 (.ref p),o3 (.ref B),o3 (.str t)]/\∃(m:MA)(G:List (Str×MA)),(∀b o,H b=o3 o->b≠mem->W b=o3 o)/\W mem=o3 (.dK (mK G))/\BK (mK G) (Sum.inr t)=o3 (.ref m.tp)/\W m.tp=o3 (.tup [.ref m.l,.ref m.kc])/\aBz H W t M G m/\m.tp≠p/\(H m.tp=o4->m.l≠p/\m.kc≠p/\∀d∈m.ds,d≠p))
 .intro U;refine xw2 Z Z (xq5 hp T.Q1 T.X_ C ⟨mem,(xq1 Z ⟨GC.k (k:=Sum.inr t) hm,(xq1 Z ?_)⟩)⟩);rcases WA t M with ⟨m,m1,m2⟩|⟨no,nk⟩
  .rw[m2];refine Bc (U _ _ ⟨Z,m,M,λb o e _=>e,hm,m2,ae _ m1,.old m1 Z,AE (ae _ m1) hp A4,λz=>?_⟩);rw[ae _ m1]at z;cases z
  .rw[no];refine Cr (xq2 Z Z (xq1 Z ⟨by decide,by decide,?_⟩));refine Ru (n:=47) (λi Y X=>Ay H X/\∃ds:List Addr,Y=ds.map V.ref/\ds.length=i/\(∀d∈ds,X d=o3 (.dK []))/\(∀d∈ds,H d=o4)/\ds.Nodup) ⟨Ay.refl H,[],Z,Z,λd c=>(nomatch c),λd c=>(nomatch c),.nil⟩ ?_ ?_
   .intro i Y X hi ar;refine Jy ar λsm ds aa I=>?_;refine xa3 I λln c1 c2 nd=>?_;clear I;clear ar;subst aa;refine⟨⟨[o3 (.int (0+(i:Int)))],Z,Z⟩,?_,FP λd c=>⟨sm.trans (Aq c),ds++[d],by rw[C7];rfl,by rw[C6,ln];rfl,λx hx=>?_,λx hx=>?_,?_⟩⟩
    .rw[B8,ln];exact F9 hi A6
    .rcases J7.mp hx with z|z
     .exact Aq c _ _ (c1 x z)
     .rw[D4.mp z];exact Af
    .rcases J7.mp hx with z|z
     .exact c2 x z
     .rw[D4.mp z];exact Ay.noneN sm c
    .rw[S5];refine⟨nd,by simp,λx hx y hy z=>?_⟩;rw[D4.mp hy]at z;rw[<-z,c1 x hx]at c;cases c
   .intro Y X as l hl;refine Jy as λsm ds aa I=>?_;refine xa3 I λln c1 c2 nd=>?_;clear I;clear as;subst aa;generalize af:upd X l _=H3;obtain⟨s3,aw⟩:=alc hl af;intro v ah;generalize ag:upd H3 v _=H4;obtain⟨s4,av⟩:=alc ah ag;refine⟨S_2,λg ao=>?_⟩;show ∃_,_;generalize dR:upd H4 g _=H5;obtain⟨s5,an⟩:=alc ao dR;have n1:=Ay.noneN sm hl;have n2:=Ay.noneN (sm.trans s3) ah;have n3:=Ay.noneN ((sm.trans s3).trans s4) ao;have ad:=((sm.trans s3).trans s4).trans s5;have ay:=ad _ _ hm;refine xwf Z Z (ad _ _ hp) T.Q1 T.X_ C (xq1 Z ⟨mem,(xq1 Z ⟨Mm.k (k:=Sum.inr t) ay ?_,?_⟩)⟩)
    .unfold mK;rw[B8];exact F7 few A6
    .rw[Mw _ no];have e6:mK M++[(Sum.inr t,V.ref g)]=mK (M++[(t,⟨g,l,v,ds⟩)]):=by unfold mK;rw[C7];rfl
     rw[e6];have k6:∀b o,H5 b=o3 o->b≠mem->upd H5 mem (.dK (mK (M++[(t,⟨g,l,v,ds⟩)]))) b=o3 o:=λb o e n=>by rw[Av n];exact e
     have ak:upd H5 mem (.dK (mK (M++[(t,⟨g,l,v,ds⟩)]))) mem=o3 (.dK (mK (M++[(t,⟨g,l,v,ds⟩)]))):=Af;generalize upd H5 mem (.dK (mK (M++[(t,⟨g,l,v,ds⟩)])))=H6 at k6 ak⊢;have nm:∀{x:R_},H x=o4->x≠mem:=λz y=>by rw[y,hm]at z;cases z
     have np:∀{x:R_},H x=o4->x≠p:=λz y=>by rw[y,hp]at z;cases z
     refine U _ _ ⟨Z,⟨g,l,v,ds⟩,M++[(t,⟨g,l,v,ds⟩)],λb o e n=>k6 _ _ (ad _ _ e) n,ak,?_,k6 _ _ an (nm n3),.new Z nk ⟨n3,n1,n2,c2⟩ (k6 _ _ an (nm n3)) (k6 _ _ (s5 _ _ (s4 _ _ aw)) (nm n1)) (k6 _ _ (s5 _ _ av) (nm n2)) (λd c=>k6 _ _ (s5 _ _ (s4 _ _ (s3 _ _ (c1 d c)))) (nm (c2 d c))) ln nd,np n3,λ_=>⟨np n1,np n2,λd c=>np (c2 d c)⟩⟩;rw[<-e6];rw[RD no];exact BW Z
 intro σ W a3;obtain⟨rfl,m,G,k1,ai,vv,a0,au,ac,aq⟩:=a3;have al:=k1 _ _ hp S;have lf:fs.length<1000:=by lia
 have put:∀{Hk:Hp}{fs':List (Str×V)}(q:List (Str×V)),Hk p=o3 (.ins a.M3 L fs')->(∀b o,Hk b=o3 o->b≠p->upd Hk p (.ins a.M3 L q) b=o3 o)/\upd Hk p (.ins a.M3 L q) p=o3 (.ins a.M3 L q):=λ{Hk fs'} q e=>⟨λb o e n=>by rw[Av n];exact e,Af⟩
 refine xw2 Z Z ⟨p,_,L,fs,Z,al,T.Q1,T.aAE,lf,?_⟩;obtain⟨k2,O⟩:=put (AW "rule" (.ref B) fs) al;generalize upd W p (.ins a.M3 L (AW "rule" (.ref B) fs))=X at k2 O⊢;have l2:=BG ("rule" : Str) (.ref B) fs;have D:(AW "rule" (.ref B) fs).lookup ("memories" : Str)=o3 (.ref mem):=by rw[Ak,A0c A3];exact C
 have aj:=k2 _ _ ai (A1b S);have am:=k2 _ _ a0 ac;refine xwf Z Z O T.Q1 T.X_ D (xq1 Z ⟨mem,.ref m.tp,Z,vv▸GC.k (k:=Sum.inr t) aj,(xq4 Z Z (SqT.of am) (Ai (j:=0) Z) (xq1 Z ⟨p,_,L,(xq1 Z ⟨O,T.Q1,T.Z_,by lia,?_⟩)⟩))⟩);obtain⟨k3,R⟩:=put (AW "known_squares" (.ref m.l) (AW "rule" (.ref B) fs)) O;generalize upd X p (.ins a.M3 L (AW "known_squares" (.ref m.l) (AW "rule" (.ref B) fs)))=H3 at k3 R⊢;have l3:=BG ("known_squares" : Str) (.ref m.l) (AW "rule" (.ref B) fs);have ab:(AW "known_squares" (.ref m.l) (AW "rule" (.ref B) fs)).lookup ("memories" : Str)=o3 (.ref mem):=by rw[Ak,A0c A3];exact D
 have ax:=k3 _ _ aj (A1b S);have a1:=k3 _ _ am ac;refine xwf Z Z R T.Q1 T.X_ ab (xq1 Z ⟨mem,.ref m.tp,Z,vv▸GC.k (k:=Sum.inr t) ax,(xq4 Z Z (SqT.of a1) (Ai (j:=1) Z) (xq1 Z ⟨p,_,L,(xq1 Z ⟨R,T.Q1,T.b_,by lia,?_⟩)⟩))⟩);obtain⟨k4,az⟩:=put (AW "known_cells" (.ref m.kc) (AW "known_squares" (.ref m.l) (AW "rule" (.ref B) fs))) R;have u:∀b o,W b=o3 o->b≠p->upd H3 p (.ins a.M3 L (AW "known_cells" (.ref m.kc) (AW "known_squares" (.ref m.l) (AW "rule" (.ref B) fs)))) b=o3 o:=λb o e n=>k4 _ _ (k3 _ _ (k2 _ _ e n) n) n;refine k _ m G (λb o e n1 n2=>u _ _ (k1 _ _ e n2) n1) az (u _ _ ai (A1b S)) ?_;cases au with
 |old h1 h2=>exact .old h1 h2
 |new h1 h2 h3 h4 h5 h6 h7 h8 h9 =>
  exact xa2 (aq h3.1) λy1 y2 y3=>.new h1 h2 h3 (u _ _ h4 ac) (u _ _ h5 y1) (u _ _ h6 y2) (λd c=>u _ _ (h7 d c) (y3 d c)) h8 h9
inductive SR(a:Ad)(vs:List V)(H:Hp)(Q:VK):Prop
|mk (p dx gp pr:R_) (t:Str) (r:AB) (_:vs=[.ref p,.ref gp,.ref pr]) (_:H p=o3 (.ins a.M3 dx [])) (_:CS a H pr t r) (_:∀(H':Hp)(mem:R_)(m:MA),(∀b o,H b=o3 o->b≠p->H' b=o3 o)->H mem=o4->H' p=o3 (.ins a.M3 dx (jf5 gp mem pr m.l m.kc))->H' mem=o3 (.dK (mK [(t,m)]))->(H m.tp=o4/\H m.l=o4/\H m.kc=o4/\∀d∈m.ds,H d=o4)->H' m.tp=o3 (.tup [.ref m.l,.ref m.kc])->H' m.l=o3 (.lst (m.ds.map V.ref))->H' m.kc=o3 (.dT [])->(∀d∈m.ds,H' d=o3 (.dK []))->m.ds.length=47->m.ds.Nodup->(∀d∈m.ds,d≠mem)->Q .non H'):SR a vs H Q
def RK(a:Ad):Sp:=λvs H Q _=>SR a vs H Q
theorem aBt(F:Fun K "__init__" "Jumps.__init__" IR f fd)(T:Top K mg a)(bK:BR P w K mg n9 CX0 2 a.M3 "change" Gp (ZG a)):AL P w K mg n9 CX0 3 f fd Sm (RK a):=by
 refine F.ok Qx D_9 λaa A S s H vs Q E hr h=>?_
 obtain⟨p,i,g,pr,t,r,rfl,X,hR,k⟩:=h;refine⟨_,(Ac (CO (pv 0) (pv 1) Z) (Ac (CO (pv 0) MB Z) (Ag (Bp (AD (pv 0) bK (rm hr) Am (Aa (pv 2) Ab)))))),?_⟩
 try dsimp only[cxK]
 refine xw2 Z Z ⟨p,_,i,[],Z,X,T.Q1,T.Q2,B4,?_⟩;have Y:∀b o,H b=o3 o->b≠p->upd H p (.ins a.M3 i (AW "grove" (.ref g) [])) b=o3 o:=λb o e n=>by rw[Av n];exact e
 have l:upd H p (.ins a.M3 i (AW "grove" (.ref g) [])) p=o3 (.ins a.M3 i (AW "grove" (.ref g) [])):=Af;have D:∀b,upd H p (.ins a.M3 i (AW "grove" (.ref g) [])) b=o4->H b=o4:=λb e=>by
  by_cases z:b=p
  .rw[z,l]at e;cases e
  .rw[Av z]at e;exact e
 generalize upd H p (.ins a.M3 i (AW "grove" (.ref g) []))=H1 at Y l D⊢;intro mem c;generalize dY:upd H1 mem _=u;obtain⟨U,M⟩:=alc c dY;have R:mem≠p:=λz=>by rw[z,l]at c;cases c
 refine xq1 Z ⟨p,_,i,(xq1 Z ⟨U _ _ l,T.Q1,T.X_,B7,?_⟩)⟩;have O:∀b o,u b=o3 o->b≠p->upd u p (.ins a.M3 i (jf2 g mem)) b=o3 o:=λb o e n=>by rw[Av n];exact e
 have q:upd u p (.ins a.M3 i (jf2 g mem)) p=o3 (.ins a.M3 i (jf2 g mem)):=Af;have j:∀b,upd u p (.ins a.M3 i (jf2 g mem)) b=o4->H b=o4:=λb e=>by
  by_cases z:b=p
  .rw[z,q]at e;cases e
  .rw[Av z]at e;exact D _ (Ay.noneN U e)
 rw[show AW ("memories" : Str) (V.ref mem) (AW ("grove" : Str) (V.ref g) [])=jf2 g mem from rfl];generalize upd u p (.ins a.M3 i (jf2 g mem))=W at O q j⊢;have C:∀b o,H b=o3 o->b≠p->W b=o3 o:=λb o e n=>O _ _ (U _ _ (Y _ _ e n)) n;have B:=O _ _ M R;have I:CS a W pr t r:=by
  refine hR.kp λb o e n=>C _ _ e λz=>?_;rw[z,X]at e;cases e;cases n with
  |ins v _=>cases v
 refine xwn Z Z q (aBJ _ _ A3 A3) Z ⟨p,i,mem,pr,jf2 g mem,t,r,[],Z,q,aCF _ _,by rw[show(jf2 g mem).length=2 from rfl];decide,B,J9 _,λe he=>(nomatch he),I,λH' m ab fr N y G=>?_⟩;cases G with
 |old v _=>cases v
 |new v h2 x h4 h5 h6 h7 h8 h9 =>
  rw[v]at y;refine k H' mem m (λb o e n=>fr _ _ (C _ _ e n) n ?_) (D _ c) N y ⟨j _ x.1,j _ x.2.1,j _ x.2.2.1,λd L=>j _ (x.2.2.2 d L)⟩ h4 h5 h6 h7 h8 h9 λd L z=>?_
  .intro z;rw[z]at e;rw[D _ c]at e;cases e
  .have:=x.2.2.2 d L;rw[z,B]at this;cases this
end
noncomputable def qO(G:Gv)(n k:Nat):Nat:=match G[n]? with
|some q=>(q.parts.getD k 0).toNat
|none=>0
noncomputable def cel(G:Gv):Nat->Nat->Nat->Nat->Nat
|0,n,_,_=>n
|l+1,n,x,y=>cel G l (qO G n ((x/2^l)%2+2*((y/2^l)%2))) x y
noncomputable def stp(r:AB)(c:Nat->Nat->Int):Nat->Nat->Int:=λx y=>CK r (c x y) [c (x-1) (y-1),c x (y-1),c (x+1) (y-1),c (x-1) y,c (x+1) y,c (x-1) (y+1),c x (y+1),c (x+1) (y+1)]
noncomputable def Bu(r:AB):Nat->(Nat->Nat->Int)->Nat->Nat->Int
|0,c=>c
|n+1,c=>stp r (Bu r n c)
noncomputable def CJ(G:Gv)(l n:Nat):Nat->Nat->Int:=λx y=>(cel G l n x y:Int)
def JR(r:AB)(G:Gv)(e n m:Nat):Prop:=∃l:Nat,Al G n ((l+2:Nat):Int)/\e<=l/\Al G m ((l+1:Nat):Int)/\∀x y,x<2^(l+1)->y<2^(l+1)->CJ G (l+1) m x y=Bu r (2^e) (CJ G (l+2) n) (x+2^l) (y+2^l)
theorem GOk.four(ok:GOk G)(h:Al G n ((l+1:Nat):Int)):∃x y z w:Nat,G[n]?=o3 ⟨[(x:Int),(y:Int),(z:Int),(w:Int)],((l+1:Nat):Int)⟩/\Al G x (l:Int)/\Al G y (l:Int)/\Al G z (l:Int)/\Al G w (l:Int):=by
 refine xea h λq e a=>?_;have i:8<=n:=by
  refine P8 λz=>?_;rw[ok.leaf n z]at e;cases e;have:(0:Int)=((l+1:Nat):Int):=a;lia
 obtain⟨x,y,z,w,p,⟨b,c,d,f⟩,_⟩:=ok.node n q e i;have g:q.lev-1=(l:Int):=by lia
 rw[g]at b c d f;refine⟨x,y,z,w,?_,b,c,d,f⟩;rw[e];cases q with
 |mk k j=>cases p;cases a;rfl
theorem GOk.cell(ok:GOk G)(h:Al G n 0):n<8:=by
 refine xea h λq e b=>W8 λz=>?_;refine xe4 (ok.node n q e z) λ_ _ _ _ a=>?_;refine xa3 a λ_ _ c _=>?_;lia
theorem Ez{n x y z w:Nat}(e:G[n]?=o3 ⟨[(x:Int),(y:Int),(z:Int),(w:Int)],l⟩):qO G n 0=x/\qO G n 1=y/\qO G n 2=z/\qO G n 3=w:=by
 unfold qO;rw[e];exact⟨Z,Z,Z,Z⟩
theorem Ma(ok:GOk G)(h:Al G n ((l+1:Nat):Int)){k:Nat}(f:k<4):Al G (qO G n k) (l:Int):=by
 refine Cm (ok.four h) λx y z w e a b c d=>xa3 (Ez e) λg i j m=>?_
 match k,f with
 |0,_=>rw[g];exact a
 |1,_=>rw[i];exact b
 |2,_=>rw[j];exact c
 |3,_=>rw[m];exact d
theorem UB(ok:GOk G)(b:AK G a i):∀(l n:Nat),Al G n (l:Int)->∀x y,cel a l n x y=cel G l n x y
|0,n,_,x,y=>rfl
|l+1,n,h,x,y=>by
 have e:∀k,qO a n k=qO G n k:=λk=>by
  refine xea h λq e _=>?_;unfold qO;rw[b.get e,e]
 show cel a l (qO a n _) x y=cel G l (qO G n _) x y;rw[e];exact UB ok b l _ (Ma ok h A0) x y
theorem Dg{G a:Gv}{i:Nat}(ok:GOk G)(b:AK G a i){l n:Nat}(h:Al G n (l:Int)):CJ a l n=CJ G l n:=by
 funext x y
 unfold CJ;rw[UB ok b l n h]
theorem JR.goes(ok:GOk G)(a:AK G b i)(h:JR r G e n m):JR r b e n m:=by
 refine Dh h λl c f d g=>⟨l,a.lev c,f,a.lev d,λx y j k=>?_⟩
 rw[Dg ok a c,Dg ok a d];exact g x y j k
def Bs(G:Gv):Prop:=∀j:Nat,j<48->G[8+j]?=o3 ⟨[(bareN j:Int),(bareN j:Int),(bareN j:Int),(bareN j:Int)],(j:Int)+1⟩
theorem Bs.goes(h:Bs G)(b:AK G a i):Bs a:=λj c=>b.get (h j c)
theorem Bs.zero(h:Bs G):∀(l:Nat),l<=48->∀x y,cel G l (bareN l) x y=0
|0,_,x,y=>rfl
|l+1,hl,x,y=>by
 refine xa3 (Ez (h l A0)) λb c d f=>?_;have e:∀k,k<4->qO G (8+l) k=bareN l:=λk a=>by
  match k,a with
  |0,_=>exact b
  |1,_=>exact c
  |2,_=>exact d
  |3,_=>exact f
 show cel G l (qO G (8+l) _) x y=0;rw[e _ A0];exact h.zero l A0 x y
theorem Tc(h:CK r 0 BL=0):∀k,Bu r k (λ_ _=>0)=λ_ _=>0
|0=>rfl
|k+1=>by
 show stp r (Bu r k _)=_;rw[Tc h k]
 funext x y
 exact h
theorem Bs.lev(ok:GOk G)(h:Bs G):∀l:Nat,l<=48->Al G (bareN l) (l:Int)
|0,_=>⟨_,ok.leaf 0 A6,Z⟩
|l+1,hl=>⟨_,h l A0,by show(l:Int)+1=((l+1:Nat):Int);lia⟩
theorem JR.bare(ok:GOk G)(h:Bs G)(d:CK r 0 BL=0)(a:l+2<=48)(b:e<=l):JR r G e (bareN (l+2)) (bareN (l+1)):=by
 refine⟨l,h.lev ok _ a,b,h.lev ok _ A0,λx y _ _=>?_⟩;have z:∀k,k<=48->CJ G k (bareN k)=λ_ _=>0:=λk c=>by
  funext x y
  unfold CJ;rw[h.zero k c x y];rfl
 rw[z _ a,z _ A0,Tc d]
theorem VO(h:Gz r){cell:Int}(f:Jz cell)(a:I_):Jz (CK r cell a):=by
 cases e:JB r cell a with
 |none=>rw[MY e];exact f
 |some i =>
  refine xea (MX e) λc b d=>?_;rw[d];exact(h.ok c (D5 b)).makes
theorem aA3:∀xs:List Int,xs.length=8->∃a b c d e f g h,xs=[a,b,c,d,e,f,g,h]
|[a,b,c,d,e,f,g,h],_=>⟨a,b,c,d,e,f,g,h,Z⟩
structure LE(H:Hp)(g:GA)(G:Gv)(N M:Nat)(r:AB)(m:MA):Prop where
tp:H m.tp=o3 (.tup [.ref m.l,.ref m.kc])
l:H m.l=o3 (.lst (m.ds.map V.ref))
ap:m.l≠g.lv/\m.l≠g.pt/\m.kc≠g.nm
len:m.ds.length=47
nd:m.ds.Nodup
sq:∀(e:Nat) d,m.ds[e]?=o3 d->∃kv,H d=o3 (.dK kv)/\kv.length<=N/\(∀p∈kv,∃i,p.1=Sum.inl i)/\∀(n:Nat) v,BK kv (Sum.inl (n:Int))=o3 v->∃k:Nat,v=.int (k:Int)/\JR r G e n k
ce:∃kc,H m.kc=o3 (.dT kc)/\kc.length<=M/\∀(ks:I_) v,BK kc (kOf ks)=o3 v->∃c ar,ks=c::ar/\v=.int (CK r c ar)
theorem LE.mono(h:LE H g G N M r m)(j:N<=i)(k:M<=f):LE H g G i f r m:=by
 refine⟨h.tp,h.l,h.ap,h.len,h.nd,λe d n=>?_,?_⟩
 .exact Dh (h.sq e d n) λq a b c o=>⟨q,a,D0 b j,c,o⟩
 .exact AS h.ce λp a b c=>⟨p,a,D0 b k,c⟩
theorem LE.kp{G j:Gv}(h:LE H g G N M r m)(ok:GOk G)(w:AK G j i)(k:∀b o,H b=o3 o->b=m.tp\/b=m.l\/b∈m.ds\/b=m.kc->p b=o3 o):LE p g j N M r m:=by
 refine⟨k _ _ h.tp (.inl Z),k _ _ h.l (.inr (.inl Z)),h.ap,h.len,h.nd,λe d q=>?_,?_⟩
 .refine Dh (h.sq e d q) λA a c f y=>⟨A,k _ _ a (.inr (.inr (.inl (D5 q)))),c,f,λn v z=>?_⟩
  exact xea (y n v z) λx t u=>⟨x,t,u.goes ok w⟩
 .exact AS h.ce λs a c f=>⟨s,k _ _ a (.inr (.inr (.inr Z))),c,f⟩
structure JW(a:Ad)(H:Hp)(g:GA)(G:Gv)(N M:Nat)(p dx mem pr:R_)(r:AB)(m:MA):Prop where
gr:AJ a H g G
ok:GOk G
bs:Bs G
br:H g.br=o3 (.lst ((Du 48).map V.int))
nbr:g.br≠g.lv/\g.br≠g.pt
hp:H p=o3 (.ins a.M3 dx (jf5 g.p mem pr m.l m.kc))
ru:CS a H pr (Ea r) r
rok:Gz r
rest:CK r 0 BL=0
me:LE H g G N M r m
theorem JW.same{H c:Hp}{p d mem f:R_}(s:Ay H c)(h:JW a H g G N M p d mem f r m):JW a c g G N M p d mem f r m :=
 ⟨h.gr.same s,h.ok,h.bs,s _ _ h.br,h.nbr,s _ _ h.hp,h.ru.same s,h.rok,h.rest,h.me.kp h.ok (AK.refl h.ok) λb o e _=>s _ _ e⟩
theorem JW.mono{N M c b:Nat}{p d mem e:R_}(h:JW a H g G N M p d mem e r m)(f:N<=c)(i:M<=b):JW a H g G c b p d mem e r m :=
 ⟨h.gr,h.ok,h.bs,h.br,h.nbr,h.hp,h.ru,h.rok,h.rest,h.me.mono f i⟩
theorem LE.fr(h:LE H g G N M r m)(d:AJ a H g G)(ok:GOk G)(f:Fr g H p)(q:AK G n i):LE p g n N M r m:=by
 refine xea d.pt λv k _=>h.kp ok q λb o e w=>?_;rcases w with z|z|z|z
 .have c:=h.tp;rw[<-z,e]at c;cases c;exact f _ _ e (AE e d.lv A4) (AE e k A4) (AE e d.nm A4)
 .have c:=h.l;rw[z]at e⊢;rw[e]at c;cases c;exact f _ _ e h.ap.1 h.ap.2.1 (AE e d.nm A4)
 .obtain⟨j,s⟩:=L7 z;refine xea (h.sq j b s) λu c _=>?_;rw[e]at c;cases c;exact f _ _ e (AE e d.lv A4) (AE e k A4) (AE e d.nm A4)
 .refine xea h.ce λt c _=>?_;rw[z]at e⊢;rw[e]at c;cases c;exact f _ _ e (AE e d.lv A4) (AE e k A4) h.ap.2.2
theorem CS.fr(h:CS a H p x r)(c:AJ a H g G)(f:Fr g H d):CS a d p x r:=by
 exact xea c.pt λj i _=>h.kp λb o e n=>f _ _ e (AE e c.lv (by intro z;rw[z]at n;cases n)) (AE e i (by intro z;rw[z]at n;cases n)) (AE e c.nm (by intro z;rw[z]at n;cases n))
theorem JW.fr{H c:Hp}{p j mem k:R_}(h:JW a H g G N M p j mem k r m)(f:Fr g H c)(e:AJ a c g b)(d:AK G b i):JW a c g b N M p j mem k r m:=by
 refine xea h.gr.pt λn l _=>⟨e,d.ok,h.bs.goes d,f _ _ h.br h.nbr.1 h.nbr.2 (AE h.br h.gr.nm A4),h.nbr,f _ _ h.hp (AE h.hp h.gr.lv A4) (AE h.hp l A4) (AE h.hp h.gr.nm A4),h.ru.fr h.gr f,h.rok,h.rest,h.me.fr h.gr h.ok f d⟩
def FrJ(g:GA)(m:MA)(H H':Hp):Prop:=∀b o,H b=o3 o->b≠g.lv->b≠g.pt->b≠g.nm->b≠m.kc->b∉m.ds->H' b=o3 o
theorem FrJ.trans{a c d:Hp}(h:FrJ g m a c)(k:FrJ g m c d):FrJ g m a d:=λb o e f i j l n=>k _ _ (h _ _ e f i j l n) f i j l n
theorem Fr.j{a c:Hp}(h:Fr g a c):FrJ g m a c:=λb o e d f i _ _=>h _ _ e d f i
theorem Ay.j{a c:Hp}(h:Ay a c):FrJ g m a c:=λb o e _ _ _ _ _=>h _ _ e
theorem JW.putC{a:Ad}{H:Hp}{g:GA}{G:Gv}{N M:Nat}{p s mem u:R_}{r:AB}{m:MA}{i:List (List Key×V)}(h:JW a H g G N M p s mem u r m)(len:i.length<=M+1)(j:∀(ks:I_) v,BK i (kOf ks)=o3 v->∃c k,ks=c::k/\v=.int (CK r c k)):JW a (upd H m.kc (.dT i)) g G N (M+1) p s mem u r m:=by
 refine xea h.me.ce λB A _=>?_;have f:∀{b v},H b=o3 v->(∀kk,v≠.dT kk)->upd H m.kc (.dT i) b=o3 v:=λ{b v} e n=>by rw[Av (AE e A (n _))];exact e
 refine xea h.gr.pt λK x y=>⟨⟨f h.gr.hp B2,f h.gr.lv B2,⟨K,f x B2,PairedM.imp (λt q z=>f z B2) y⟩,by rw[Av (A1b h.me.ap.2.2)];exact h.gr.nm,h.gr.ne⟩,h.ok,h.bs,f h.br B2,h.nbr,f h.hp B2,h.ru.kp λb o e n=>f e λkk z=>(by rw[z]at n;cases n),h.rok,h.rest,⟨f h.me.tp B2,f h.me.l B2,h.me.ap,h.me.len,h.me.nd,λe d w=>?_,⟨i,Af,len,j⟩⟩⟩
 exact Dh (h.me.sq e d w) λC D E F I=>⟨C,f D B2,E,F,I⟩
theorem JW.putS{p C mem L:R_}{n k:Nat}(h:JW a H g G N M p C mem L r m)(E:m.ds[e]?=o3 d)(I:H d=o3 (.dK w))(jr:JR r G e n k):JW a (upd H d (.dK (EG w (Sum.inl (n:Int)) (.int (k:Int))))) g G (N+1) M p C mem L r m:=by
 have c:∀{b v},H b=o3 v->(∀kk,v≠.dK kk)->upd H d (.dK (EG w (Sum.inl (n:Int)) (.int (k:Int)))) b=o3 v:=λ{b v} e n=>by rw[Av (AE e I (n _))];exact e
 refine xea h.gr.pt λY T U=>AS h.me.ce λW Q R S=>⟨⟨c h.gr.hp B2,c h.gr.lv B2,⟨Y,c T B2,PairedM.imp (λt q z=>c z B2) U⟩,c h.gr.nm B2,h.gr.ne⟩,h.ok,h.bs,c h.br B2,h.nbr,c h.hp B2,h.ru.kp λb o e n=>c e λkk z=>(by rw[z]at n;cases n),h.rok,h.rest,⟨c h.me.tp B2,c h.me.l B2,h.me.ap,h.me.len,h.me.nd,λD d' f=>?_,⟨W,c Q B2,R,S⟩⟩⟩
 refine Dh (h.me.sq D d' f) λx B X s P=>?_;by_cases z:D=e
 .rw[z,E]at f;cases f;rw[I]at B;cases B;subst z;refine⟨_,Af,D0 (GP _ _ _) A0,λq i=>?_,λK v j=>?_⟩
  .unfold EG at i;split at i
   .refine xea (F1.mp i) λO F u=>?_;subst u;split
    .exact s O F
    .exact s O F
   .rcases J7.mp i with y|y
    .exact s q y
    .rw[D4.mp y];exact⟨_,Z⟩
  .rw[Iv]at j;split at j
   .rename_i y;have:K=n:=by have:=Sum.inl.inj y;lia
    rw[this];cases j;exact⟨k,Z,jr⟩
   .exact P K v j
 .have A:d'≠d:=λy=>z (by
   rw[y]at f;exact(List.getElem?_inj (B9.mp f).1 h.me.nd).mp (f.trans E.symm))
  exact⟨x,by rw[Av A];exact B,D0 X A0,s,P⟩
section
variable{P:N_}{w:Q_}{K:O_}{mg:C_}{n9:T_}{a:Ad}
inductive aAc(a:Ad)(vs:List V)(H:Hp)(Q:VK):Prop
|mk (p dx mem pr t:R_) (g:GA) (G:Gv) (N M:Nat) (r:AB) (m:MA) (c:Int) (ar:I_) (_:vs=[.ref p,.ref t]) (_:JW a H g G N M p dx mem pr r m) (_:H t=o3 (.tup ((c::ar).map V.int))) (_:ar.length=8) (_:∀x∈c::ar,Jz x) (_:M<9000000) (_:∀H',(∀b o,H b=o3 o->b≠m.kc->H' b=o3 o)->JW a H' g G N (M+1) p dx mem pr r m->Q (.int (CK r c ar)) H'):aAc a vs H Q
def Wk(a:Ad):Sp:=λvs H Q _=>aAc a vs H Q
theorem aES(F:Fun K "cell_after" "Jumps.cell_after" CN f fd)(T:Top K mg a)(aJ:BR P w K mg n9 CX0 4 a.J5 "state_of" Lg (Wf a))(aK:BR P w K mg n9 CX0 3 a.J5 "leaf" Sr (OZ a))(bJ:Cal P w K mg n9 CX0 5 "becomes" Mg (Wl a)):AL P w K mg n9 CX0 6 f fd DW (Wk a):=by
 refine F.ok CF D_9 λai A ae s H vs Q E X h=>?_
 obtain⟨p,dx,mem,pr,t,g,G,N,M,r,m,c,d,rfl,q,ht,h8,aa,few,k⟩:=h;refine AS q.me.ce λkc c1 c2 c3=>?_;have Y:H t=o3 (.tup ((kOf (c::d)).map kV)):=by rw[aBN];exact ht
 refine⟨_,(Ac (Ao (i:=2) CF.nd Z O_9 (JN (Ed X) (AC (pv 0) Z) (pv 1) ⟨Z,Z,Z,Z⟩)) (Ac (AO (AA Ji (pv 2) DE (AF _)) (Ac (DS (i:=3) Z CF.nd Z Z (Bn.of (So:=Ah CN) (No:=Gu) (N:=["one","self"]) (k:=1) (cs:=[0]) Z Z A3) (Po (pv 1)) (λ_ _ _=>(AY (i:=0) A3 Z Z)) (λ_ _ _=>BB) (λ_ _ _=>(AD (RX (K:=K) Z (pv 1) Z) aJ (rm X) Am (Aa (pv 0) Ab)))) (Ac (Ao (i:=2) CF.nd Z O_9 (AD (AC (pv 0) Z) aK (rm X) Am (Aa (Ar bJ (rm X) Z Am (Aa (AC (pv 0) Z) (Aa (Aj Ax (pv 3) Ae R_9) (Aa (TJ Wm (pv 3) (RV Ae) aCr) Ab)))) Ab))) (Ag (FH (Ed X) (AC (pv 0) Z) (pv 1) (pv 2) Z)))) Az) (Ag (Aw (pv 2))))),?_⟩
 try dsimp only[cxK]
 refine xwf Z Z q.hp T.Q1 T.b_ (aBK _ _ _ _ _) ⟨m.kc,Z,.inr ⟨_,.inl c1⟩,(xq1 Z ⟨_,GC.t (k:=kOf (c::d)) c1 Y,?_⟩)⟩;cases ev:BK kc (kOf (c::d))with
 |some v =>
  refine BJ (c3 _ v ev) λc' ah e1 e2=>?_;cases e1;rw[e2];exact xq1 Z ⟨Z,(xq1 Z (Bc (xq1 Z (k H (λb o e _=>e) (q.mono (C0 _) (S7 _))))))⟩
 |none =>
  refine xq1 Z ⟨Z,(xq1 Z (Cr ?_))⟩;refine xq1 Z ⟨t,Z,⟨_,SqT.of ht⟩,?_⟩;refine OQ (xs:=(c::d).map V.int) (λi l D=>H=D/\l=((c::d).take i).map V.int) ⟨Z,Z⟩ (λi l D _ z=>z.1▸SqT.of ht) ?_ ?_
  .intro i v l D S af;obtain⟨rfl,rfl⟩:=af;rw[C1]at S;refine xea (D7.mp S) λx ex ab=>?_;subst ab;obtain⟨x0,x8⟩:=aa x (D5 ex);obtain⟨n,rfl⟩:=J6 x0;refine⟨⟨[o3 (.int (n:Int))],Z,Z⟩,?_,FP (xq1 Z (xq5 q.hp T.Q1 T.Q2 (Ew _ _ _ _ _) (xq3 Z q.gr.hp (Px g) (xq1 Z ⟨g,G,n,_,Z,q.gr,q.ok.leaf n A0,Z,Z,?_⟩))))⟩
   .rw[B8,J3];exact F7 (P7 _ _) (by rw[D8,h8];decide)
   .rw[F4,ex,Q4,C7];rfl
  .intro l D ag L hL;obtain⟨rfl,rfl⟩:=ag;rw[B8,F8];generalize O:upd H L _=H1;obtain⟨s1,U⟩:=alc hL O;have u:=q.same s1;refine xwf Z Z u.hp T.Q1 T.Q2 (Ew _ _ _ _ _) (xq3 Z u.gr.hp (RZ g) (xwf Z Z u.hp T.Q1 T.aAE (aED _ _ _ _ _) (xwi Z Z Z (SqL.of U) (Ai (j:=0) Z) ?_)));refine xq1 Z ⟨1,Z,L,(xq1 Z ⟨SqL.of U,λSL ad=>?_⟩)⟩;have R:VL ((c::d).map V.int) (o3 1) o4=d.map V.int:=by
    obtain⟨x1,x2,x3,x4,x5,x6,x7,x8,rfl⟩:=aA3 d h8;rfl
   rw[R];generalize dY:upd H1 SL _=D;obtain⟨s2,ac⟩:=alc ad dY;have B:=u.same s2;refine⟨pr,SL,_,r,c,d,Z,B.ru,B.rok.rok,ac,λH3 s3=>?_⟩;have W:=B.same s3;have C:=(s1.trans s2).trans s3;have I:=VO q.rok (aa c C8) d;refine⟨g.p,_,Z,I.1,I.2,?_⟩;refine xq1 Z (xq1 Z (xq5 W.hp T.Q1 T.b_ (aBK _ _ _ _ _) (xq1 Z ⟨m.kc,(xq1 Z ⟨Mm.t (k:=kOf (c::d)) (C _ _ c1) (C _ _ Y) (F7 (show kc.length<=9000000 by lia) A6),?_⟩)⟩)));refine xq1 Z (k _ (λb o e n=>by rw[Av n];exact C _ _ e) (W.putC (D0 (GP _ _ _) A0) λks v hv=>?_));rw[Iv]at hv;split at hv
   .rename_i y;rw[Lx y];cases hv;exact⟨c,d,Z,Z⟩
   .exact c3 ks v hv
end
def FrC(g:GA)(m:MA)(H H':Hp):Prop:=∀b o,H b=o3 o->b≠g.lv->b≠g.pt->b≠g.nm->b≠m.kc->H' b=o3 o
theorem FrC.trans{a c d:Hp}(h:FrC g m a c)(k:FrC g m c d):FrC g m a d:=λb o e f i j l=>k _ _ (h _ _ e f i j l) f i j l
theorem FrC.j{a c:Hp}(h:FrC g m a c):FrJ g m a c:=λb o e d f i k _=>h _ _ e d f i k
theorem Fr.c(h:Fr g a d):FrC g m a d:=λb o e f i j _=>h _ _ e f i j
def spNo:Sp:=λ_ _ _ _=>False
theorem AL.no{K:O_}{mg:C_}{k:Nat}{c:K_}:AL P w K mg a CX k f b c spNo :=
 ⟨λ_ _ _ _ h=>h.elim,λ_ _ _ _ _ _ _ _ _ _ _ _ _ h=>h.elim⟩
theorem aDV(h:l<=48):((Du 48).map V.int)[l]?=o3 (.int (bareN l:Int)):=by
 unfold Du;rw[C1,C1,R4 A0];rfl
section
variable{P:N_}{w:Q_}{K:O_}{mg:C_}{n9:T_}{a:Ad}
theorem aHH {c:TA}    (h:c σ H λxs b=>xs.length<=sizeLine/\∀p,b p=o4->D.rt (.ref p) (upd b p (.lst xs))):aHF (aC0 c) D σ H:=h
theorem GF  {c:TA}    (h:b σ H λx d=>c σ d λxs e=>Q (x::xs) e):CD b c σ H Q:=h
theorem ixt{K:O_}{t:R_}{j:Int}(r:σ[i]?=o3 (o3 (.ref t)))(h:H t=o3 (.tup xs))(e:atI xs j=o3 v)(k:Q v H):tOp (JL K) (GS i) (tC (V.int j)) σ H Q:=⟨_,r,t,xs,j,v,Z,Z,SqT.of h,e,k⟩
theorem ixp{K:O_}{H:Hp}{p t:R_}{b:H_}{n:Nat}{Q:VK}(h:H p=o3 (.lst (b.map V.ref)))(e:b[n]?=o3 t)(k:Q (.ref t) H):aE4 K (.ref p) (.int n) H Q:=⟨p,_,n,_,Z,Z,SqL.of h,Ai (by rw[C1,e];rfl),k⟩
structure Ln(a:Ad)(g:GA)(H0:Hp)(G0:Gv)(j:Nat)(H:Hp)(G:Gv):Prop where
fr:Fr g H0 H
kt:∀{b:R_}{xs:List V},H0 b=o3 (.tup xs)->H b=o3 (.tup xs)
gr:AJ a H g G
go:AK G0 G j
theorem lnk{a:Ad}{t H:Hp}{g:GA}{G0 G:Gv}{j:Nat}{u:R_}{x y z w:Nat}{l:Int}{Q:VK}(s:Ln a g t G0 j H G)(B:H u=o4)(f:Al G0 x l/\Al G0 y l/\Al G0 z l/\Al G0 w l)(q:l<=47)(few:G0.length+j<9000000)
  (k:∀(n:Nat)(d:Gv)(h:Hp),Ln a g t G0 (j+1) h d->AK G d 1->d[n]?=o3 ⟨[(x:Int),(y:Int),(z:Int),(w:Int)],l+1⟩->Q (.int n) h):VQ a [.ref g.p,.ref u] (upd H u (.tup [.int x,.int y,.int z,.int w])) Q:=by
 generalize o:upd H u _=D;obtain⟨r,v⟩:=alc B o;have m:=s.gr.same r;have E:=s.go.few;refine⟨g,G,u,x,y,z,w,l,Z,m,s.go.ok,v,⟨s.go.lev f.1,s.go.lev f.2.1,s.go.lev f.2.2.1,s.go.lev f.2.2.2⟩,q,by lia,λn d h fr A c e=>k n d h ⟨s.fr.trans ((Ay.fr r).trans fr),λ{b xs} e=>?_,A,s.go.trans c⟩ c e⟩;refine xea m.pt λus C _=>?_;have i:=r _ _ (s.kt e);exact fr _ _ i (AE i m.lv A4) (AE i C A4) (AE i m.nm A4)
theorem ttup {c:TA}    (h:c σ H λxs b=>xs.length<=sizeLine/\∀p,b p=o4->Q (.ref p) (upd b p (.tup xs))):Yj c σ H Q:=h
theorem al9{P:Int->Prop}{a b c d e f g h i:Int}(k:P a)(l:P b)(m:P c)(n:P d)(o:P e)(p:P f)(q:P g)(r:P h)(hi:P i):∀x∈[a,b,c,d,e,f,g,h,i],P x:=by
 intro x j;simp only[C4,F6,A2h]at j;rcases j with rfl|rfl|rfl|rfl|rfl|rfl|rfl|rfl|rfl<;>assumption
structure Lc(g:GA)(m:MA)(H0 H:Hp):Prop where
fr:FrC g m H0 H
kt:∀{b:R_}{xs:List V},H0 b=o3 (.tup xs)->H b=o3 (.tup xs)
theorem celT{a:Ad}{t H:Hp}{p j mem q u:R_}{c:Int}(v:JW a H g G N M p j mem q r m)(y:Lc g m t H)(C:H u=o4)(f:∀x∈c::d,Jz x)(B:d.length=8)(A:M<9000000)
  (h:∀(k:Nat)(Y:Hp),CK r c d=k->k<8->Lc g m t Y->JW a Y g G N (M+1) p j mem q r m->Q (.int k) Y):aAc a [.ref p,.ref u] (upd H u (.tup ((c::d).map V.int))) Q:=by
 generalize l:upd H u _=X;obtain⟨s,D⟩:=alc C l;have i:=v.same s;refine⟨p,j,mem,q,u,g,G,N,M,r,m,c,d,Z,i,D,B,f,A,λY fr n=>?_⟩;obtain⟨F,L⟩:=VO v.rok (f c (.head ..)) d;obtain⟨k,e⟩:=J6 F;rw[e];refine h k Y e A0 ⟨y.fr.trans λb o e _ _ _ E=>fr _ _ (s _ _ e) E,λ{b xs} e=>?_⟩ n;refine xea i.me.ce λI z _=>?_;have e:=s _ _ (y.kt e);exact fr _ _ e (AE e z A4)
theorem aB7{K:O_}{a:Ad}{p F mem pr:R_}{f h i j l n o q s:List V}{j1 j2 j3 j4 j5 j6 j7 j8 j9 t u v y z A B C D:Int}(I:JW a H g G N M p F mem pr r m)(c:Lc g m b H)(h1:b t1=o3 (.tup f))(h2:b t2=o3 (.tup h))(h3:b t3=o3 (.tup i))(h4:b t4=o3 (.tup j))(h5:b t5=o3 (.tup l))(h6:b t6=o3 (.tup n))(h7:b t7=o3 (.tup o))(h8:b t8=o3 (.tup q))(h9:b t9=o3 (.tup s))(E:∀x∈[t,u,v,y,z,A,B,C,D],Jz x)(hM:M<9000000)
  (k:∀(k:Nat)(Y:Hp),CK r t [u,v,y,z,A,B,C,D]=k->k<8->Lc g m b Y->JW a Y g G N (M+1) p F mem pr r m->Q (.int k) Y) (e:σ[0]?=o3 (o3 (.ref p))/\(σ[L]?=o3 (o3 (.ref t1))/\atI f j1=o3 (.int t))/\(σ[O]?=o3 (o3 (.ref t2))/\atI h j2=o3 (.int u))/\(σ[R]?=o3 (o3 (.ref t3))/\atI i j3=o3 (.int v))/\(σ[S]?=o3 (o3 (.ref t4))/\atI j j4=o3 (.int y))/\(σ[T]?=o3 (o3 (.ref t5))/\atI l j5=o3 (.int z))/\(σ[U]?=o3 (o3 (.ref t6))/\atI n j6=o3 (.int A))/\(σ[X]?=o3 (o3 (.ref t7))/\atI o j7=o3 (.int B))/\(σ[i8]?=o3 (o3 (.ref t8))/\atI q j8=o3 (.int C))/\(σ[i9]?=o3 (o3 (.ref t9))/\atI s j9=o3 (.int D)):=by exact⟨Z,⟨Z,Z⟩,⟨Z,Z⟩,⟨Z,Z⟩,⟨Z,Z⟩,⟨Z,Z⟩,⟨Z,Z⟩,⟨Z,Z⟩,⟨Z,Z⟩,⟨Z,Z⟩⟩) :
  VY a.M3 "cell_after" (Wk a) [] E0 (GS 0) (CD (Yj (CD (tOp (JL K) (GS L) (tC (V.int j1))) (CD (tOp (JL K) (GS O) (tC (V.int j2))) (CD (tOp (JL K) (GS R) (tC (V.int j3))) (CD (tOp (JL K) (GS S) (tC (V.int j4))) (CD (tOp (JL K) (GS T) (tC (V.int j5))) (CD (tOp (JL K) (GS U) (tC (V.int j6))) (CD (tOp (JL K) (GS X) (tC (V.int j7))) (CD (tOp (JL K) (GS i8) (tC (V.int j8))) (CD (tOp (JL K) (GS i9) (tC (V.int j9))) OV)))))))))) OV) σ H Q:=by
 apply AT;intro G_ d;obtain⟨r0,⟨r1,e1⟩,⟨r2,e2⟩,⟨r3,e3⟩,⟨r4,e4⟩,⟨r5,e5⟩,⟨r6,e6⟩,⟨r7,e7⟩,⟨r8,e8⟩,⟨r9,e9⟩⟩:=e;apply d;clear d G_;exact⟨_,r0,(xq3 Z I.hp (aBh _ _ _ _ _) (ixt r1 (c.kt h1) e1 (ixt r2 (c.kt h2) e2 (ixt r3 (c.kt h3) e3 (ixt r4 (c.kt h4) e4 (ixt r5 (c.kt h5) e5 (ixt r6 (c.kt h6) e6 (ixt r7 (c.kt h7) e7 (ixt r8 (c.kt h8) e8 (ixt r9 (c.kt h9) e9 ⟨(by show 9<=sizeLine;decide),λ_ hu=>celT I c hu E Z hM k⟩))))))))))⟩
inductive aAj(a:Ad)(vs:List V)(H:Hp)(Q:VK):Prop
|mk (p dx mem pr:R_) (g:GA) (G:Gv) (N M:Nat) (r:AB) (m:MA) (n:Nat) (_:vs=[.ref p,.int n]) (_:JW a H g G N M p dx mem pr r m) (_:Al G n ((1+1:Nat):Int)) (_:M<8500000) (_:G.length<8000000) (_:∀(k:Nat)(G':Gv)(H':Hp),FrC g m H H'->JW a H' g G' N (M+4) p dx mem pr r m->AK G G' 1->JR r G' 0 n k->Q (.int k) H'):aAj a vs H Q
def RI(a:Ad):Sp:=λvs H Q _=>aAj a vs H Q
theorem aCf(F:Fun K "middle_after" "Jumps.middle_after" Dp f fd)(T:Top K mg a)(a6:BR P w K mg n9 CX0 2 a.J5 "linked" Ba (EA a))(aI:BR P w K mg n9 CX0 6 a.M3 "cell_after" DW (Wk a)):AL P w K mg n9 CX0 7 f fd Lg (RI a):=by
 refine F.ok Bl (λvs H Q E h=>?_) (λbm A az s H vs Q E X h=>?_)
 .apply AT;intro U C;obtain⟨p,dx,mem,pr,g,G,N,M,r,m,n,rfl,_⟩:=h;apply C;clear C U;rfl
 .apply AT;intro U C;obtain⟨p,dx,mem,pr,g,G,N,M,r,m,n,rfl,q,hl,ba,few,k⟩:=h;refine Cm (q.ok.four hl) λqa qb qc qd en la lb lc ld=>Cm (q.ok.four (l:=0) la) λa0 a1 a2 a3 ea av Y aa I=>Cm (q.ok.four (l:=0) lb) λb0 b1 b2 b3 eb ab aw L ac=>Cm (q.ok.four (l:=0) lc) λc0 c1 c2 c3 ec ad O ax ae=>Cm (q.ok.four (l:=0) ld) λd0 d1 d2 d3 ed R af ag ay=>xea q.gr.pt λts V W=>xea (PairedM.get W en) λt et ht=>xea (PairedM.get W ea) λta al v=>xea (PairedM.get W eb) λtb am y=>xea (PairedM.get W ec) λtc an z=>xea (PairedM.get W ed) λtd ao B=>?_;apply C;clear C U;refine⟨_,(Ac (Ao (i:=2) Bl.nd Z O_9 (Aj Ax (AC (AC (pv 0) Z) Z) (pv 1) R_9)) (Ac (Ao (i:=3) Bl.nd Z O_9 (Aj Ax (AC (AC (pv 0) Z) Z) (Aj An (pv 2) Ae R_9) R_9)) (Ac (Ao (i:=4) Bl.nd Z O_9 (Aj Ax (AC (AC (pv 0) Z) Z) (Aj An (pv 2) Ae R_9) R_9)) (Ac (Ao (i:=5) Bl.nd Z O_9 (Aj Ax (AC (AC (pv 0) Z) Z) (Aj An (pv 2) Ae R_9) R_9)) (Ac (Ao (i:=6) Bl.nd Z O_9 (Aj Ax (AC (AC (pv 0) Z) Z) (Aj An (pv 2) Ae R_9) R_9)) (Ag (Aw (AD (AC (pv 0) Z) a6 (rm X) Am (AZ (Aa (AD (pv 0) aI (rm X) Am (AZ (Aa (Aj An (pv 3) Ae R_9) (Aa (Aj An (pv 3) Ae R_9) (Aa (Aj An (pv 3) Ae R_9) (Aa (Aj An (pv 4) Ae R_9) (Aa (Aj An (pv 3) Ae R_9) (Aa (Aj An (pv 4) Ae R_9) (Aa (Aj An (pv 5) Ae R_9) (Aa (Aj An (pv 5) Ae R_9) (Aa (Aj An (pv 6) Ae R_9) Ab))))))))) Ab)) (Aa (AD (pv 0) aI (rm X) Am (AZ (Aa (Aj An (pv 4) Ae R_9) (Aa (Aj An (pv 3) Ae R_9) (Aa (Aj An (pv 4) Ae R_9) (Aa (Aj An (pv 4) Ae R_9) (Aa (Aj An (pv 3) Ae R_9) (Aa (Aj An (pv 4) Ae R_9) (Aa (Aj An (pv 5) Ae R_9) (Aa (Aj An (pv 6) Ae R_9) (Aa (Aj An (pv 6) Ae R_9) Ab))))))))) Ab)) (Aa (AD (pv 0) aI (rm X) Am (AZ (Aa (Aj An (pv 5) Ae R_9) (Aa (Aj An (pv 3) Ae R_9) (Aa (Aj An (pv 3) Ae R_9) (Aa (Aj An (pv 4) Ae R_9) (Aa (Aj An (pv 5) Ae R_9) (Aa (Aj An (pv 6) Ae R_9) (Aa (Aj An (pv 5) Ae R_9) (Aa (Aj An (pv 5) Ae R_9) (Aa (Aj An (pv 6) Ae R_9) Ab))))))))) Ab)) (Aa (AD (pv 0) aI (rm X) Am (AZ (Aa (Aj An (pv 6) Ae R_9) (Aa (Aj An (pv 3) Ae R_9) (Aa (Aj An (pv 4) Ae R_9) (Aa (Aj An (pv 4) Ae R_9) (Aa (Aj An (pv 5) Ae R_9) (Aa (Aj An (pv 6) Ae R_9) (Aa (Aj An (pv 5) Ae R_9) (Aa (Aj An (pv 6) Ae R_9) (Aa (Aj An (pv 6) Ae R_9) Ab))))))))) Ab)) Ab)))) Ab))))))))),?_⟩
  try dsimp only[cxK]
  refine Bj ?_;intro bb bg k0 D a4;refine xwf Z Z q.hp T.Q1 T.Q2 (Ew _ _ _ _ _) (xq5 q.gr.hp T.J4 T.L0 (Cz g) (xq1 Z (ixp V et ?_)));refine D (Bj ?_);intro bc bh k1 D a5;refine xwf Z Z q.hp T.Q1 T.Q2 (Ew _ _ _ _ _) (xq5 q.gr.hp T.J4 T.L0 (Cz g) (ixt Z ht Z (ixp V al ?_)));refine D (Bj ?_);intro bd bi k2 D a7;refine xwf Z Z q.hp T.Q1 T.Q2 (Ew _ _ _ _ _) (xq5 q.gr.hp T.J4 T.L0 (Cz g) (ixt Z ht Z (ixp V am ?_)));refine D (Bj ?_);intro be bj k3 D a8;refine xwf Z Z q.hp T.Q1 T.Q2 (Ew _ _ _ _ _) (xq5 q.gr.hp T.J4 T.L0 (Cz g) (ixt Z ht Z (ixp V an ?_)));refine D (Bj ?_);intro bf bl k4 D a9;refine xwf Z Z q.hp T.Q1 T.Q2 (Ew _ _ _ _ _) (xq5 q.gr.hp T.J4 T.L0 (Cz g) (ixt Z ht Z (ixp V ao ?_)));refine D ?_;have st:∀{x:Nat},Al G x ((0:Nat):Int)->Jz (x:Int):=λ{x} h=>by
   have:=q.ok.cell h;exact⟨by lia,by lia⟩
  have c_:Lc g m H H:=⟨λ_ _ e _ _ _ _=>e,λe=>e⟩
  refine xwf Z Z q.hp T.Q1 T.Q2 (Ew _ _ _ _ _) (xq3 Z q.gr.hp (BT g) ?_);refine GF (ttup (GF (aB7 q c_ v v v y v y z z B (al9 (st I) (st av) (st Y) (st ab) (st aa) (st L) (st ad) (st O) (st R)) A0 λk0 Y0 ah aq x0 j0=>?_)));refine GF (aB7 j0 x0 y v y y v y z B B (al9 (st L) (st Y) (st ab) (st aw) (st I) (st ac) (st O) (st R) (st af)) A0 λk1 Y1 ai ar x1 j1=>?_);refine GF (aB7 j1 x1 z v v y z B z z B (al9 (st O) (st aa) (st I) (st L) (st ad) (st R) (st ax) (st ae) (st ag)) A0 λk2 Y2 aj as x2 j2=>?_);refine GF (aB7 j2 x2 B v y y z B z B B (al9 (st R) (st I) (st L) (st ac) (st O) (st af) (st ae) (st ag) (st ay)) A0 λk3 Y3 ak au x3 j3=>?_);have lf:∀{k:Nat},k<8->Al G k ((0:Nat):Int):=λ{k} h=>⟨_,q.ok.leaf k h,Z⟩
  refine⟨S_4,λu hu=>lnk (⟨.refl _ _,λe=>e,j3.gr,.refl q.ok⟩:Ln a g Y3 G 0 Y3 G) hu ⟨lf aq,lf ar,lf as,lf au⟩ A6 A0 λx G' H' s S e=>?_⟩;refine k x G' H' (x3.fr.trans (Fr.c s.fr)) (j3.fr s.fr s.gr S) S ⟨0,S.lev hl,C0 0,⟨_,e,Z⟩,?_⟩;apply AT;intro U C;refine xa3 (Ez (S.get ea)) λb d j o=>?_;subst b;subst d;subst j;subst o;refine xa3 (Ez (S.get eb)) λb d j o=>?_;subst b;subst d;subst j;subst o;refine xa3 (Ez (S.get ec)) λb d j o=>?_;subst b;subst d;subst j;subst o;refine xa3 (Ez (S.get ed)) λb d j o=>?_;subst b;subst d;subst j;subst o;refine xa3 (Ez (S.get en)) λb d j o=>?_;subst b;subst d;subst j;subst o;refine xa3 (Ez e) λb d j o=>?_;subst b;subst d;subst j;subst o;apply C;clear C U;intro x' y' hx hy
  match x',hx,y',hy with
  |0,_,0,_=>exact ah.symm
  |1,_,0,_=>exact ai.symm
  |0,_,1,_=>exact aj.symm
  |1,_,1,_=>exact ak.symm
inductive aFb(a:Ad)(vs:List V)(H:Hp)(Q:VK):Prop
|mk (p dx gp mem pr l kc:R_) (g:GA) (G:Gv) (n e:Nat) (q:Sq) (_:vs=[.ref p,.int n,.int e]) (_:H p=o3 (.ins a.M3 dx (jf5 g.p mem pr l kc))) (_:AJ a H g G) (_:G[n]?=o3 q) (_:2+(e:Int)<=q.lev) (_:Q .non H):aFb a vs H Q
def aGs(a:Ad):Sp:=λvs H Q _=>aFb a vs H Q
theorem aGP(F:Fun K "check_jump" "Jumps.check_jump" DR f fd)(T:Top K mg a)(r:BR P w K mg n9 CX0 3 a.J5 "level_of" Lg (Ob a))(t:Cal P w K mg n9 CX0 1 "is_whole" Vk UT):AL P w K mg n9 CX0 4 f fd QG (aGs a):=by
 refine F.ok FA (λvs H Q E h=>?_) (λu A d s H vs Q E o h=>?_)
 .apply AT;intro c b;obtain⟨p,v,x,mem,z,l,y,g,G,n,e,q,rfl,_⟩:=h;apply b;clear b c;rfl
 .apply AT;intro c b;obtain⟨p,v,x,mem,z,l,y,g,G,n,e,q,rfl,m,j,eq,B,k⟩:=h;apply b;clear b c;refine⟨_,(Ac (Ao (i:=3) FA.nd Z O_9 (AD (AC (pv 0) Z) r (rm o) Am (Aa (pv 1) Ab))) (Ac (AO (AA GN (pv 3) (BZ Z T.f_) (AF _)) (Ag Bk) Az) (Ag (AO (PW.pt (Jv (Cy (Cf (Ar t (rm o) Z Am (Aa (pv 2) Ab)))) (Gd (Cy (Pn JY JY Ae (pv 2) (AG Cg (pv 3) (BZ Z T.f_))))))) (Ag Bk) Az)))),?_⟩
  try dsimp only[cxK]
  refine xwf Z Z m T.Q1 T.Q2 (Ew _ _ _ _ _) (xq3 Z j.hp (EL g) (xq1 Z ⟨g,G,n,q,Z,j,eq,?_⟩));refine xwb Z Z Z (xq1 Z ?_);rw[A0f (by lia:¬q.lev<2)];refine Bc ⟨_,Z,_,Z,o5,Z,Bc ⟨_,Z,_,_,Z,Z,_,Z,?_⟩⟩;rw[A0d (by lia:(0:Int)<=(e:Int))];refine Cr (xwb Z Z Z (xq2 Z Z (xq1 Z ?_)));rw[A0d (by lia:(e:Int)<=q.lev-2)];exact Bc k
end
end J
namespace J
open PySem L2
theorem SK(G:Gv):∀(l n x y i j:Nat),cel G l n (x+2^l*i) (y+2^l*j)=cel G l n x y
|0,n,x,y,i,j=>rfl
|l+1,n,x,y,i,j=>by
 show cel G l (qO G n (((x+2^(l+1)*i)/2^l)%2+2*(((y+2^(l+1)*j)/2^l)%2))) (x+2^(l+1)*i) (y+2^(l+1)*j)=cel G l (qO G n ((x/2^l)%2+2*((y/2^l)%2))) x y;have p:0<2^l:=W3 A6;have e:∀i:Nat,2^(l+1)*i=2^l*(2*i):=λi=>by rw[L9,Nat.mul_assoc]
 rw[e i,e j,O8 _ _ p,O8 _ _ p,Q7,Q7];exact SK G l _ x y (2*i) (2*j)
theorem Qm(G:Gv)(l n:Nat){x y i j:Nat}(b:x<2^l)(c:y<2^l)(hi:i<2)(a:j<2):CJ G (l+1) n (x+2^l*i) (y+2^l*j)=CJ G l (qO G n (i+2*j)) x y:=by
 unfold CJ;show((cel G l (qO G n (((x+2^l*i)/2^l)%2+2*(((y+2^l*j)/2^l)%2))) (x+2^l*i) (y+2^l*j):Nat):Int)=_;have p:0<2^l:=W3 A6;rw[O8 _ _ p,O8 _ _ p,O6 b,O6 c,O2,O2,P6 hi,P6 a,SK]
theorem Te(r:AB)(c:Nat->Nat->Int)(n:Nat):∀m,Bu r (m+n) c=Bu r m (Bu r n c)
|0=>by rw[O2];rfl
|m+1=>by
 rw[show m+1+n=(m+n)+1 by lia];show stp r (Bu r (m+n) c)=stp r (Bu r m (Bu r n c));rw[Te r c n m]
theorem Td(r:AB){c d:Nat->Nat->Int}{X Y:Nat}:∀(k x y:Nat),k<=x->k<=y->(∀u v,x-k<=u->u<=x+k->y-k<=v->v<=y+k->c u v=d (u+X) (v+Y))->Bu r k c x y=Bu r k d (x+X) (y+Y)
|0,x,y,_,_,h=>h x y A0 A0 A0 A0
|k+1,x,y,hx,hy,h=>by
 have e:∀u v,x-1<=u->u<=x+1->y-1<=v->v<=y+1->Bu r k c u v=Bu r k d (u+X) (v+Y):=λu v f g i j=>Td r k u v A0 A0 λa b l m n o=>h a b A0 A0 A0 A0;show CK r (Bu r k c x y) [Bu r k c (x-1) (y-1),Bu r k c x (y-1),Bu r k c (x+1) (y-1),Bu r k c (x-1) y,Bu r k c (x+1) y,Bu r k c (x-1) (y+1),Bu r k c x (y+1),Bu r k c (x+1) (y+1)]=CK r (Bu r k d (x+X) (y+Y)) [Bu r k d (x+X-1) (y+Y-1),Bu r k d (x+X) (y+Y-1),Bu r k d (x+X+1) (y+Y-1),Bu r k d (x+X-1) (y+Y),Bu r k d (x+X+1) (y+Y),Bu r k d (x+X-1) (y+Y+1),Bu r k d (x+X) (y+Y+1),Bu r k d (x+X+1) (y+Y+1)];rw[e x y A0 A0 A0 A0,e (x-1) (y-1) A0 A0 A0 A0,e x (y-1) A0 A0 A0 A0,e (x+1) (y-1) A0 A0 A0 A0,e (x-1) y A0 A0 A0 A0,e (x+1) y A0 A0 A0 A0,e (x-1) (y+1) A0 A0 A0 A0,e x (y+1) A0 A0 A0 A0,e (x+1) (y+1) A0 A0 A0 A0];rw[show x-1+X=x+X-1 by lia,show y-1+Y=y+Y-1 by lia,show x+1+X=x+X+1 by lia,show y+1+Y=y+Y+1 by lia]
def Vw(G:Gv)(c:Nat->Nat->Int)(l m X Y:Nat):Prop:=∀x y,x<2^l->y<2^l->CJ G l m x y=c (x+X) (y+Y)
theorem Vw.q{G:Gv}{c:Nat->Nat->Int}{l m X Y i j:Nat}(h:Vw G c (l+1) m X Y)(hi:i<2)(a:j<2):Vw G c l (qO G m (i+2*j)) (X+2^l*i) (Y+2^l*j):=λx y b d=>by
 rw[<-Qm G l m b d hi a,h _ _ ?_ ?_]
 .rw[show x+2^l*i+X=x+(X+2^l*i) by lia,show y+2^l*j+Y=y+(Y+2^l*j) by lia]
 .rw[L9];have:2^l*i<=2^l*1:=N4 _ A0;lia
 .rw[L9];have:2^l*j<=2^l*1:=N4 _ A0;lia
theorem Vw.of{G:Gv}{c:Nat->Nat->Int}{l m X Y:Nat}(d:Vw G c l (qO G m 0) X Y)(e:Vw G c l (qO G m 1) (X+2^l) Y)(f:Vw G c l (qO G m 2) X (Y+2^l))(g:Vw G c l (qO G m 3) (X+2^l) (Y+2^l)):Vw G c (l+1) m X Y:=λx y h k=>by
 rw[L9]at h k;by_cases b:x<2^l
 .by_cases a:y<2^l
  .have:=Qm G l m b a (i:=0) (j:=0) A6 A6;rw[show x+2^l*0=x by lia,show y+2^l*0=y by lia]at this;rw[this];exact d x y b a
  .have:=Qm G l m b (y:=y-2^l) A0 (i:=0) (j:=1) A6 A6;rw[show x+2^l*0=x by lia,show y-2^l+2^l*1=y by lia]at this;rw[this,f x (y-2^l) b A0,show y-2^l+(Y+2^l)=y+Y by lia]
 .by_cases a:y<2^l
  .have:=Qm G l m (x:=x-2^l) A0 a (i:=1) (j:=0) A6 A6;rw[show y+2^l*0=y by lia,show x-2^l+2^l*1=x by lia]at this;rw[this,e (x-2^l) y A0 a,show x-2^l+(X+2^l)=x+X by lia]
  .have:=Qm G l m (x:=x-2^l) (y:=y-2^l) A0 A0 (i:=1) (j:=1) A6 A6;rw[show x-2^l+2^l*1=x by lia,show y-2^l+2^l*1=y by lia]at this;rw[this,g (x-2^l) (y-2^l) A0 A0,show x-2^l+(X+2^l)=x+X by lia,show y-2^l+(Y+2^l)=y+Y by lia]
theorem Vw.jump{c:Nat->Nat->Int}{l e m k X Y:Nat}(h:Vw G c (l+2) m X Y)(a:e<=l)(j:∀x y,x<2^(l+1)->y<2^(l+1)->CJ G (l+1) k x y=Bu r (2^e) (CJ G (l+2) m) (x+2^l) (y+2^l)):Vw G (Bu r (2^e) c) (l+1) k (X+2^l) (Y+2^l):=λx y b d=>by
 have p:2^e<=2^l:=O7 A6 a;have o:2^(l+1)=2^l*2:=L9 ..;have q:2^(l+2)=2^l*2*2:=by rw[L9,L9]
 rw[j x y b d,Td r (X:=X) (Y:=Y) (2^e) (x+2^l) (y+2^l) A0 A0 λu v f g i n=>h u v A0 A0];rw[show x+2^l+X=x+(X+2^l) by lia,show y+2^l+Y=y+(Y+2^l) by lia]
seal L2.PA L2.PE L2.PS L2.PSs L2.PT L2.PW
theorem Vw.at'{c:Nat->Nat->Int}(h:Vw G c l m X Y)(a:X=X')(b:Y=Y'):Vw G c l m X' Y':=by
 subst a;subst b;exact h
theorem Vw.goes{c:Nat->Nat->Int}(h:Vw G c l m X Y)(ok:GOk G)(b:AK G a i)(f:Al G m (l:Int)):Vw a c l m X Y:=λx y d e=>by
 rw[Dg ok b f];exact h x y d e
section
variable{P:N_}{w:Q_}{K:O_}{mg:C_}{n9:T_}{a:Ad}
inductive aAk(a:Ad)(vs:List V)(H:Hp)(Q:VK):Prop
|mk (g:GA) (G:Gv) (n l:Nat) (_:vs=[.ref g.p,.int n]) (_:AJ a H g G) (_:GOk G) (_:Al G n ((l+1+1:Nat):Int)) (_:l<=46) (_:G.length<8000000) (_:∀(L:R_)(ks:J_)(G':Gv)(H':Hp),Fr g H H'->AJ a H' g G'->AK G G' 5->H' L=o3 (.lst (ks.map λ(k:Nat)=>V.int (k:Int)))->ks.length=9->(∀i j,i<3->j<3->∃k,ks[i+3*j]?=o3 k/\Al G' k ((l+1:Nat):Int)/\Vw G' (CJ G (l+2) n) (l+1) k (2^l*i) (2^l*j))->Q (.ref L) H'):aAk a vs H Q
def OY(a:Ad):Sp:=λvs H Q _=>aAk a vs H Q
theorem aBU{K:O_}{a:Ad}{b H:Hp}{g:GA}{G0 G:Gv}{j:Nat}{σ:St}{q t u v:Nat}{E F I L:R_}{d f h i:List V}{A B C D:Int}{x y z w:Nat}{l:Int}{Q:VK}(s:Ln a g b G0 j H G)(T:b E=o3 (.tup d))(U:b F=o3 (.tup f))(X:b I=o3 (.tup h))(Y:b L=o3 (.tup i))(lv:Al G0 x l/\Al G0 y l/\Al G0 z l/\Al G0 w l)(few:l<=47/\G0.length+j<9000000)
  (k:∀(n:Nat)(m:Gv)(o:Hp),Ln a g b G0 (j+1) o m->AK G m 1->m[n]?=o3 ⟨[(x:Int),(y:Int),(z:Int),(w:Int)],l+1⟩->Q (.int n) o) (e:(σ[0]?=o3 (o3 (.ref g.p))/\σ[q]?=o3 (o3 (.ref E))/\σ[t]?=o3 (o3 (.ref F))/\σ[u]?=o3 (o3 (.ref I))/\σ[v]?=o3 (o3 (.ref L)))/\atI d A=o3 (.int x)/\atI f B=o3 (.int y)/\atI h C=o3 (.int z)/\atI i D=o3 (.int w):=by exact⟨⟨Z,Z,Z,Z,Z⟩,Z,Z,Z,Z⟩):VY a.J5 "linked" (EA a) [] E0 (GS 0) (CD (Yj (CD (tOp (JL K) (GS q) (tC (V.int A))) (CD (tOp (JL K) (GS t) (tC (V.int B))) (CD (tOp (JL K) (GS u) (tC (V.int C))) (CD (tOp (JL K) (GS v) (tC (V.int D))) OV))))) OV) σ H Q:=by
 apply AT;intro M c;obtain⟨⟨r,r1,r2,r3,r4⟩,N,O,R,S⟩:=e;apply c;clear c M;exact⟨_,r,(xq3 Z s.gr.hp (BT g) (ixt r1 (s.kt T) N (ixt r2 (s.kt U) O (ixt r3 (s.kt X) R (ixt r4 (s.kt Y) S ⟨S_4,λ_ hu=>lnk s hu lv few.1 few.2 k⟩)))))⟩
theorem vw4{G:Gv}{c:Nat->Nat->Int}{l m x y z w X Y:Nat}{p:Int}(e:G[m]?=o3 ⟨[(x:Int),(y:Int),(z:Int),(w:Int)],p⟩)(j:Vw G c l x (2^l*X) (2^l*Y))(k:Vw G c l y (2^l*(X+1)) (2^l*Y))(n:Vw G c l z (2^l*X) (2^l*(Y+1)))(o:Vw G c l w (2^l*(X+1)) (2^l*(Y+1))):Vw G c (l+1) m (2^l*X) (2^l*Y):=by
 apply AT;intro i b;refine xa3 (Ez e) λd f g h=>?_;subst d;subst f;subst g;subst h;apply b;clear b i;exact .of j k n o
theorem vwQ{G:Gv}{c:Nat->Nat->Int}{l m x y z w X Y:Nat}{n:Int}(e:G[m]?=o3 ⟨[(x:Int),(y:Int),(z:Int),(w:Int)],n⟩)(v:Vw G c (l+1) m (2^l*X) (2^l*Y)):Vw G c l x (2^l*X) (2^l*Y)/\Vw G c l y (2^l*(X+1)) (2^l*Y)/\Vw G c l z (2^l*X) (2^l*(Y+1))/\Vw G c l w (2^l*(X+1)) (2^l*(Y+1)):=by
 apply AT;intro k b;refine xa3 (Ez e) λd f g h=>?_;subst d;subst f;subst g;subst h;apply b;clear b k;exact⟨v.q (i:=0) (j:=0) A6 A6,(v.q (i:=1) (j:=0) A6 A6).at' A0 Z,(v.q (i:=0) (j:=1) A6 A6).at' Z A0,(v.q (i:=1) (j:=1) A6 A6).at' A0 A0⟩
theorem aCg(F:Fun K "nine_parts" "nine_parts" IM f fd)(T:Top K mg a)(W:BR P w K mg n9 CX0 2 a.J5 "linked" Ba (EA a)):AL P w K mg n9 CX0 3 f fd Lr (OY a):=by
 refine F.ok Dc (λvs H Q E h=>?_) (λbi A an s H vs Q E hr h=>?_)
 .apply AT;intro z b;obtain⟨g,G,n,l,rfl,_⟩:=h;apply b;clear b z;rfl
 .apply AT;intro z b;obtain⟨g,G,n,l,rfl,C,ok,hl,bl,few,k⟩:=h;refine Cm (ok.four hl) λqa qb qc qd en la lb lc ld=>Cm (ok.four la) λa0 a1 a2 a3 ea bm af ag D=>Cm (ok.four lb) λb0 b1 b2 b3 eb ah bn I ai=>Cm (ok.four lc) λc0 c1 c2 c3 ec aj M bo ak=>Cm (ok.four ld) λd0 d1 d2 d3 ed N al am bp=>xea C.pt λts Y h4=>xea (PairedM.get h4 en) λt et v=>xea (PairedM.get h4 ea) λta aa d=>xea (PairedM.get h4 eb) λtb ab m=>xea (PairedM.get h4 ec) λtc ac p=>xea (PairedM.get h4 ed) λtd ad q=>?_;apply b;clear b z;have s0:Ln a g H G 0 H G:=⟨.refl _ _,λe=>e,C,.refl ok⟩
  refine⟨_,(Ac (Ao (i:=2) Dc.nd Z O_9 (Aj Ax (AC (pv 0) Z) (pv 1) R_9)) (Ac (Ao (i:=3) Dc.nd Z O_9 (Aj Ax (AC (pv 0) Z) (Aj An (pv 2) Ae R_9) R_9)) (Ac (Ao (i:=4) Dc.nd Z O_9 (Aj Ax (AC (pv 0) Z) (Aj An (pv 2) Ae R_9) R_9)) (Ac (Ao (i:=5) Dc.nd Z O_9 (Aj Ax (AC (pv 0) Z) (Aj An (pv 2) Ae R_9) R_9)) (Ac (Ao (i:=6) Dc.nd Z O_9 (Aj Ax (AC (pv 0) Z) (Aj An (pv 2) Ae R_9) R_9)) (Ag (Aw (Cp (Aa (Aj An (pv 2) Ae R_9) (Aa (AD (pv 0) W (rm hr) Am (AZ (Aa (Aj An (pv 3) Ae R_9) (Aa (Aj An (pv 4) Ae R_9) (Aa (Aj An (pv 3) Ae R_9) (Aa (Aj An (pv 4) Ae R_9) Ab)))) Ab)) (Aa (Aj An (pv 2) Ae R_9) (Aa (AD (pv 0) W (rm hr) Am (AZ (Aa (Aj An (pv 3) Ae R_9) (Aa (Aj An (pv 3) Ae R_9) (Aa (Aj An (pv 5) Ae R_9) (Aa (Aj An (pv 5) Ae R_9) Ab)))) Ab)) (Aa (AD (pv 0) W (rm hr) Am (AZ (Aa (Aj An (pv 3) Ae R_9) (Aa (Aj An (pv 4) Ae R_9) (Aa (Aj An (pv 5) Ae R_9) (Aa (Aj An (pv 6) Ae R_9) Ab)))) Ab)) (Aa (AD (pv 0) W (rm hr) Am (AZ (Aa (Aj An (pv 4) Ae R_9) (Aa (Aj An (pv 4) Ae R_9) (Aa (Aj An (pv 6) Ae R_9) (Aa (Aj An (pv 6) Ae R_9) Ab)))) Ab)) (Aa (Aj An (pv 2) Ae R_9) (Aa (AD (pv 0) W (rm hr) Am (AZ (Aa (Aj An (pv 5) Ae R_9) (Aa (Aj An (pv 6) Ae R_9) (Aa (Aj An (pv 5) Ae R_9) (Aa (Aj An (pv 6) Ae R_9) Ab)))) Ab)) (Aa (Aj An (pv 2) Ae R_9) Ab))))))))))))))))),?_⟩
  try dsimp only[cxK]
  refine Bj ?_;intro a8 bd k0 u ay;refine xwf Z Z C.hp T.J4 T.L0 (Cz g) (xq1 Z (ixp Y et ?_));refine u (Bj ?_);intro a9 be k1 u az;refine xwf Z Z C.hp T.J4 T.L0 (Cz g) (ixt Z v Z (ixp Y aa ?_));refine u (Bj ?_);intro ba bf k2 u a4;refine xwf Z Z C.hp T.J4 T.L0 (Cz g) (ixt Z v Z (ixp Y ab ?_));refine u (Bj ?_);intro bb bg k3 u a5;refine xwf Z Z C.hp T.J4 T.L0 (Cz g) (ixt Z v Z (ixp Y ac ?_));refine u (Bj ?_);intro bc bh k4 u a7;refine xwf Z Z C.hp T.J4 T.L0 (Cz g) (ixt Z v Z (ixp Y ad ?_));refine u (aHH (GF (ixt Z (s0.kt v) Z (GF (aBU s0 d m d m ⟨af,ah,D,I⟩ ⟨by lia,by lia⟩ λm1 G1 H1 s1 bj e1=>?_)))));refine GF (ixt Z (s1.kt v) Z (GF (aBU s1 d d p p ⟨ag,D,aj,M⟩ ⟨by lia,by lia⟩ λm3 G3 H3 s3 ae e3=>?_)));refine GF (aBU s3 d m p q ⟨D,I,M,N⟩ ⟨by lia,by lia⟩ λm4 G4 H4 s4 X e4=>?_);refine GF (aBU s4 m m q q ⟨I,ai,N,al⟩ ⟨by lia,by lia⟩ λm5 G5 H5 s5 B e5=>?_);refine GF (ixt Z (s5.kt v) Z (GF (aBU s5 p q p q ⟨M,N,ak,am⟩ ⟨by lia,by lia⟩ λm7 G7 H7 s7 r e7=>?_)));refine GF (ixt Z (s7.kt v) Z ⟨(by show 9<=sizeLine;decide),λL hL=>?_⟩);have c:=s7.go;have sL:=Aq (o:=.lst (([qa,m1,qb,m3,m4,m5,qc,m7,qd]:J_).map λ(k:Nat)=>V.int (k:Int))) hL;refine k L [qa,m1,qb,m3,m4,m5,qc,m7,qd] G7 _ (s7.fr.trans (Ay.fr sL)) (s7.gr.same sL) c Af Z ?_;have v0:Vw G (CJ G (l+2) n) (l+1+1) n (2^(l+1)*0) (2^(l+1)*0):=λx y _ _=>Z;have p1:2^(l+1)=2^l*2:=L9 ..;apply AT;intro z b;refine xa3 (vwQ (c.get en) (v0.goes ok c hl)) λva vb vc vd=>?_;apply b;clear b z;have va:=va.at' (X':=2^l*0) (Y':=2^l*0) A0 A0;have vb:=vb.at' (X':=2^l*2) (Y':=2^l*0) A0 A0;have vc:=vc.at' (X':=2^l*0) (Y':=2^l*2) A0 A0;have vd:=vd.at' (X':=2^l*2) (Y':=2^l*2) A0 A0;apply AT;intro z b;refine xa3 (vwQ (c.get ea) va) λbq ao aq O=>xa3 (vwQ (c.get eb) vb) λar br R as=>xa3 (vwQ (c.get ec) vc) λau S bt av=>xa3 (vwQ (c.get ed) vd) λU aw ax bu=>?_;apply b;clear b z;have g5:=r.get e5;have g4:=r.get (B.get e4);have g3:=r.get (B.get (X.get e3));have g1:=r.get (B.get (X.get (ae.get e1)));intro i j hi hj
  match i,hi,j,hj with
  |0,_,0,_=>exact⟨qa,Z,c.lev la,va⟩
  |1,_,0,_=>exact⟨m1,Z,⟨_,g1,Z⟩,vw4 g1 ao ar O R⟩
  |2,_,0,_=>exact⟨qb,Z,c.lev lb,vb⟩
  |0,_,1,_=>exact⟨m3,Z,⟨_,g3,Z⟩,vw4 g3 aq O au S⟩
  |1,_,1,_=>exact⟨m4,Z,⟨_,g4,Z⟩,vw4 g4 O R S U⟩
  |2,_,1,_=>exact⟨m5,Z,⟨_,g5,Z⟩,vw4 g5 R as U aw⟩
  |0,_,2,_=>exact⟨qc,Z,c.lev lc,vc⟩
  |1,_,2,_=>exact⟨m7,Z,⟨_,e7,Z⟩,vw4 e7 S U av ax⟩
  |2,_,2,_=>exact⟨qd,Z,c.lev ld,vd⟩
inductive WX(vs:List V)(H:Hp)(Q:VK):Prop
|mk (L:R_) (k0 k1 k2 k3 k4 k5 k6 k7 k8:Nat) (_:vs=[.ref L]) (_:H L=o3 (.lst [.int k0,.int k1,.int k2,.int k3,.int k4,.int k5,.int k6,.int k7,.int k8])) (_:∀(M t0 t1 t2 t3:R_)(H':Hp),Ay H H'->H' M=o3 (.lst [.ref t0,.ref t1,.ref t2,.ref t3])->H' t0=o3 (.tup [.int k0,.int k1,.int k3,.int k4])->H' t1=o3 (.tup [.int k1,.int k2,.int k4,.int k5])->H' t2=o3 (.tup [.int k3,.int k4,.int k6,.int k7])->H' t3=o3 (.tup [.int k4,.int k5,.int k7,.int k8])->Q (.ref M) H'):WX vs H Q
def Mp:Sp:=λvs H Q _=>WX vs H Q
theorem aBq(F:Fun K "fours_of" "fours_of" LV f fd)(T:Top K mg a):AL P w K mg n9 CX0 1 f fd Vm Mp:=by
 refine F.ok Tt (λvs H Q E h=>?_) (λaa A Y s H vs Q E hr h=>?_)
 .apply AT;intro S c;obtain⟨L,x,i,y,l,b,m,z,n,B,rfl,_⟩:=h;apply c;clear c S;rfl
 .apply AT;intro S c;obtain⟨L,x,i,y,l,b,m,z,n,B,rfl,q,k⟩:=h;apply c;clear c S;refine⟨_,(Ag (Aw (Cp (AZ (Aa (Aj Ax (pv 0) Ae R_9) (Aa (Aj Ax (pv 0) Ae R_9) (Aa (Aj Ax (pv 0) Ae R_9) (Aa (Aj Ax (pv 0) Ae R_9) Ab)))) (AZ (Aa (Aj Ax (pv 0) Ae R_9) (Aa (Aj Ax (pv 0) Ae R_9) (Aa (Aj Ax (pv 0) Ae R_9) (Aa (Aj Ax (pv 0) Ae R_9) Ab)))) (AZ (Aa (Aj Ax (pv 0) Ae R_9) (Aa (Aj Ax (pv 0) Ae R_9) (Aa (Aj Ax (pv 0) Ae R_9) (Aa (Aj Ax (pv 0) Ae R_9) Ab)))) (AZ (Aa (Aj Ax (pv 0) Ae R_9) (Aa (Aj Ax (pv 0) Ae R_9) (Aa (Aj Ax (pv 0) Ae R_9) (Aa (Aj Ax (pv 0) Ae R_9) Ab)))) Ab))))))),?_⟩
  try dsimp only[cxK]
  refine xwi Z Z Z (SqL.of q) (Ai (j:=0) Z) (xwi Z Z Z (SqL.of q) (Ai (j:=1) Z) (xwi Z Z Z (SqL.of q) (Ai (j:=3) Z) (xwi Z Z Z (SqL.of q) (Ai (j:=4) Z) ⟨S_4,λG U=>?_⟩)));have s0:=Aq (o:=.tup [.int (x:Int),.int (i:Int),.int (l:Int),.int (b:Int)]) U;have h0:upd H G (.tup [.int (x:Int),.int (i:Int),.int (l:Int),.int (b:Int)]) G=o3 (.tup [.int (x:Int),.int (i:Int),.int (l:Int),.int (b:Int)]):=Af;generalize r:upd H G (.tup [.int (x:Int),.int (i:Int),.int (l:Int),.int (b:Int)])=X0 at s0 h0;have d:=s0 _ _ q
  first|rw[r]|(show ∃_,_;rw[r])|skip
  refine xwi Z Z Z (SqL.of d) (Ai (j:=1) Z) (xwi Z Z Z (SqL.of d) (Ai (j:=2) Z) (xwi Z Z Z (SqL.of d) (Ai (j:=4) Z) (xwi Z Z Z (SqL.of d) (Ai (j:=5) Z) ⟨S_4,λI V=>?_⟩)));have R:=Aq (o:=.tup [.int (i:Int),.int (y:Int),.int (b:Int),.int (m:Int)]) V;have h1:upd X0 I (.tup [.int (i:Int),.int (y:Int),.int (b:Int),.int (m:Int)]) I=o3 (.tup [.int (i:Int),.int (y:Int),.int (b:Int),.int (m:Int)]):=Af;generalize t:upd X0 I (.tup [.int (i:Int),.int (y:Int),.int (b:Int),.int (m:Int)])=X1 at R h1;have e:=R _ _ d
  first|rw[t]|(show ∃_,_;rw[t])|skip
  refine xwi Z Z Z (SqL.of e) (Ai (j:=3) Z) (xwi Z Z Z (SqL.of e) (Ai (j:=4) Z) (xwi Z Z Z (SqL.of e) (Ai (j:=6) Z) (xwi Z Z Z (SqL.of e) (Ai (j:=7) Z) ⟨S_4,λN W=>?_⟩)));have C:=Aq (o:=.tup [.int (l:Int),.int (b:Int),.int (z:Int),.int (n:Int)]) W;have h2:upd X1 N (.tup [.int (l:Int),.int (b:Int),.int (z:Int),.int (n:Int)]) N=o3 (.tup [.int (l:Int),.int (b:Int),.int (z:Int),.int (n:Int)]):=Af;generalize u:upd X1 N (.tup [.int (l:Int),.int (b:Int),.int (z:Int),.int (n:Int)])=X2 at C h2;have g:=C _ _ e
  first|rw[u]|(show ∃_,_;rw[u])|skip
  refine xwi Z Z Z (SqL.of g) (Ai (j:=4) Z) (xwi Z Z Z (SqL.of g) (Ai (j:=5) Z) (xwi Z Z Z (SqL.of g) (Ai (j:=7) Z) (xwi Z Z Z (SqL.of g) (Ai (j:=8) Z) ⟨S_4,λO X=>?_⟩)));have p:=Aq (o:=.tup [.int (b:Int),.int (m:Int),.int (n:Int),.int (B:Int)]) X;have h3:upd X2 O (.tup [.int (b:Int),.int (m:Int),.int (n:Int),.int (B:Int)]) O=o3 (.tup [.int (b:Int),.int (m:Int),.int (n:Int),.int (B:Int)]):=Af;generalize v:upd X2 O (.tup [.int (b:Int),.int (m:Int),.int (n:Int),.int (B:Int)])=X3 at p h3;have ab:=p _ _ g
  first|rw[v]|(show ∃_,_;rw[v])|skip
  refine⟨S_4,λM hM=>?_⟩;have D:=Aq (o:=.lst [.ref G,.ref I,.ref N,.ref O]) hM;exact k M G I N O _ ((((s0.trans R).trans C).trans p).trans D) Af (D _ _ (p _ _ (C _ _ (R _ _ h0)))) (D _ _ (p _ _ (C _ _ h1))) (D _ _ (p _ _ h2)) (D _ _ h3)
inductive aDJ(a:Ad)(vs:List V)(H:Hp)(Q:VK):Prop
|mk (g:GA) (G:Gv) (t:R_) (f0 f1 f2 f3 l:Nat) (_:vs=[.ref g.p,.ref t]) (_:AJ a H g G) (_:GOk G) (_:H t=o3 (.tup [.int f0,.int f1,.int f2,.int f3])) (_:Al G f0 ((l+1:Nat):Int)/\Al G f1 ((l+1:Nat):Int)/\Al G f2 ((l+1:Nat):Int)/\Al G f3 ((l+1:Nat):Int)) (_:l<=47) (_:G.length<9000000) (_:∀(k:Nat)(G':Gv)(H':Hp),Fr g H H'->AJ a H' g G'->AK G G' 1->G'[k]?=o3 ⟨[((qO G f0 3:Nat):Int),((qO G f1 2:Nat):Int),((qO G f2 1:Nat):Int),((qO G f3 0:Nat):Int)],(l:Int)+1⟩->Q (.int k) H'):aDJ a vs H Q
def Wh(a:Ad):Sp:=λvs H Q _=>aDJ a vs H Q
theorem aEg(F:Fun K "met_in_the_middle" "met_in_the_middle" DD f fd)(T:Top K mg a)(a6:BR P w K mg n9 CX0 2 a.J5 "linked" Ba (EA a)):AL P w K mg n9 CX0 3 f fd CH (Wh a):=by
 refine F.ok Fa (λvs H Q E h=>?_) (λac A W s H vs Q E hr h=>?_)
 .apply AT;intro y b;obtain⟨g,G,t,f0,f1,f2,f3,l,rfl,_⟩:=h;apply b;clear b y;rfl
 .apply AT;intro y b;obtain⟨g,G,t,f0,f1,f2,f3,l,rfl,v,ok,x,⟨l0,l1,l2,l3⟩,ad,few,k⟩:=h;refine xea v.pt λts q r=>Cm (ok.four l0) λar as au c e0 ae af ag R=>xea (PairedM.get r e0) λu0 z L=>xa3 (Ez e0) λa4 a5 a7 X=>Cm (ok.four l1) λav aw d ax e1 ah ai S aj=>xea (PairedM.get r e1) λu1 B M=>xa3 (Ez e1) λa8 a9 Y ba=>Cm (ok.four l2) λay m az a0 e2 ak U al am=>xea (PairedM.get r e2) λu2 C N=>xa3 (Ez e2) λbb aa bc bd=>Cm (ok.four l3) λp a1 a2 a3 e3 V an ao aq=>xea (PairedM.get r e3) λu3 D O=>xa3 (Ez e3) λab be bf bg=>?_;apply b;clear b y;rw[X,Y,aa,ab]at k;refine⟨_,(Ac (Ao (i:=2) Fa.nd Z O_9 (AC (pv 0) Z)) (Ag (Aw (AD (pv 0) a6 (rm hr) Am (AZ (Aa (Aj An (Aj Ax (pv 2) (Aj An (pv 1) Ae R_9) R_9) Ae R_9) (Aa (Aj An (Aj Ax (pv 2) (Aj An (pv 1) Ae R_9) R_9) Ae R_9) (Aa (Aj An (Aj Ax (pv 2) (Aj An (pv 1) Ae R_9) R_9) Ae R_9) (Aa (Aj An (Aj Ax (pv 2) (Aj An (pv 1) Ae R_9) R_9) Ae R_9) Ab)))) Ab))))),?_⟩
  try dsimp only[cxK]
  refine xwf Z Z v.hp T.J4 T.L0 (Cz g) (xwn Z Z v.hp (BT g) Z (xwi Z Z Z (SqT.of x) (Ai (j:=0) Z) (xq4 Z Z (SqL.of q) (Ai (by rw[C1,z];rfl)) (xq4 Z Z (SqT.of L) (Ai (j:=3) Z) (xwj Z Z Z Z (SqT.of x) (Ai (j:=1) Z) (xq4 Z Z (SqL.of q) (Ai (by rw[C1,B];rfl)) (xq4 Z Z (SqT.of M) (Ai (j:=2) Z) (xwj Z Z Z Z (SqT.of x) (Ai (j:=2) Z) (xq4 Z Z (SqL.of q) (Ai (by rw[C1,C];rfl)) (xq4 Z Z (SqT.of N) (Ai (j:=1) Z) (xwj Z Z Z Z (SqT.of x) (Ai (j:=3) Z) (xq4 Z Z (SqL.of q) (Ai (by rw[C1,D];rfl)) (xq4 Z Z (SqT.of O) (Ai (j:=0) Z) ⟨S_4,λu hu=>?_⟩)))))))))))));have s1:=Aq (o:=.tup [.int (c:Int),.int (d:Int),.int (m:Int),.int (p:Int)]) hu;exact⟨g,G,u,c,d,m,p,(l:Int),Z,v.same s1,ok,Af,⟨R,S,U,V⟩,by lia,few,λn G' H' fr I go e=>k n G' H' ((Ay.fr s1).trans fr) I go e⟩
end
end J
namespace J
open PySem L2
def Sv(o:HO):Prop:=Nv o\/∃xs:List V,o=.lst xs/\xs.length<=50
def KpS(H H':Hp):Prop:=∀b o,H b=o3 o->Sv o->H' b=o3 o
theorem Sv.lst{xs:List V}(h:xs.length<=50):Sv (.lst xs):=.inr ⟨xs,Z,h⟩
theorem Bs.long(h:Bs G):56<=G.length:=(B9.mp (h 47 A6)).1
theorem Sv.nl{b x:R_}{H:Hp}{o:HO}{xs:List V}(s:Sv o)(e:H b=o3 o)(a:H x=o3 (.lst xs))(d:50<xs.length):b≠x:=λz=>by
 rw[z,a]at e;cases e;rcases s with s|⟨ys,c,f⟩
 .cases s
 .cases c;lia
theorem Sv.nt{b x:R_}{H:Hp}{o:HO}{k:List (List Key×V)}(s:Sv o)(e:H b=o3 o)(a:H x=o3 (.dT k)):b≠x:=λz=>by
 rw[z,a]at e;cases e;rcases s with s|⟨ys,c,d⟩
 .cases s
 .cases c
theorem Sv.nk{b x:R_}{H:Hp}{o:HO}{k:List (Key×V)}(s:Sv o)(e:H b=o3 o)(a:H x=o3 (.dK k)):b≠x:=λz=>by
 rw[z,a]at e;cases e;rcases s with s|⟨ys,c,d⟩
 .cases s
 .cases c
theorem Fr.kps{a:Ad}{H d:Hp}{g:GA}{G:Gv}(f:Fr g H d)(c:AJ a H g G)(j:56<=G.length):KpS H d:=by
 intro b o e s;refine xea c.pt λk h i=>?_;have lt:=A1e i;exact f _ _ e (s.nl e c.lv (by rw[B8];lia)) (s.nl e h (by rw[B8];lia)) (s.nt e c.nm)
theorem FrJ.kps{a:Ad}{H d:Hp}{g:GA}{G:Gv}{N M:Nat}{r:AB}{m:MA}(f:FrJ g m H d)(c:AJ a H g G)(q:56<=G.length)(h:LE H g G N M r m):KpS H d:=by
 intro b o e s;refine xea c.pt λv l n=>xea h.ce λt i _=>?_;have lt:=A1e n;refine f _ _ e (s.nl e c.lv (by rw[B8];lia)) (s.nl e l (by rw[B8];lia)) (s.nt e c.nm) (s.nt e i) λz=>?_;obtain⟨j,p⟩:=L7 z;exact xea (h.sq j b p) λu k _=>s.nk e k Z
theorem WN(ok:GOk G):∀(l:Nat){n m:Nat},Al G n (l:Int)->Al G m (l:Int)->(∀x y,x<2^l->y<2^l->CJ G l n x y=CJ G l m x y)->n=m
|0,n,m,_,_,h=>A1f (h 0 0 A6 A6)
|l+1,n,m,hn,hm,h=>by
 have a:∀i j,i<2->j<2->qO G n (i+2*j)=qO G m (i+2*j):=λi j hi o=>by
  refine WN ok l (Ma ok hn A0) (Ma ok hm A0) λx y p q=>?_;rw[<-Qm G l n p q hi o,<-Qm G l m p q hi o];have C:2^l*i<=2^l*1:=N4 _ A0;have D:2^l*j<=2^l*1:=N4 _ A0;exact h _ _ (by rw[L9];lia) (by rw[L9];lia)
 refine xe4 (ok.four hn) λx y z w b=>?_;refine xa b λe _=>?_;refine xe4 (ok.four hm) λF H I E b=>?_;refine xa b λk _=>?_;refine xa3 (Ez e) λr s t u=>xa3 (Ez k) λv A b2 B=>?_;have c:=a 0 0 A6 A6;have d:=a 1 0 A6 A6;have f:=a 0 1 A6 A6;have g:=a 1 1 A6 A6;have c:=r.symm.trans (c.trans v);have d:=s.symm.trans (d.trans A);have f:=t.symm.trans (f.trans b2);have g:=u.symm.trans (g.trans B);refine ok.one e k ?_;rw[c,d,f,g]
abbrev Sht:=Nat->Nat->Int
abbrev KTy:=Nat->Nat->Sht->Prop
def Zb(l:Nat)(φ ψ:Sht):Prop:=∀x y,x<2^(l+2)->y<2^(l+2)->φ x y=ψ x y
noncomputable def s47(f:L_):Nat:=((List.range 47).map f).sum
theorem Wa(f:L_)(e:Nat):∀l:List Nat,l.Nodup->(l.map λi=>if i=e then f i+1 else f i).sum=(l.map f).sum+if e∈l then 1 else 0
|[],_=>by simp
|a::l,h=>by
 rw[O0]at h;rw[F5,F5,P4,P4,Wa f e l h.2];by_cases z:a=e
 .subst z;rw[A0e rfl,A0c h.1,A0e C8];lia
 .rw[A0c z];by_cases y:e∈l
  .rw[A0e y,A0e (C9 _ y)];lia
  .rw[A0c y,A0c (λq=>by rcases C4.mp q with rfl|q;exact z rfl;exact y q)];lia
theorem Wp(f:L_)(h:e<47):s47 (λi=>if i=e then f i+1 else f i)=s47 f+1:=by
 unfold s47;rw[Wa f e _ List.nodup_range,A0e (N2.mpr h)]
theorem WI{α β:Type}(R:α->β->Prop)(inj:∀x f y,R x y->R f y->x=f):∀(l:List β)(ks:List α),ks.Nodup->(∀k∈ks,∃y∈l,R k y)->ks.length<=l.length
|[],ks,_,h=>by
 cases ks with
 |nil=>exact C0 _
 |cons k ks=>refine xea (h k C8) λy i _=>?_;cases i
|y::l,ks,nd,h=>by
 classical
 have j:=WI R inj l (ks.filter λk=>decide (¬R k y)) (nd.sublist List.filter_sublist) λk b=>by
  rw[Z8,decide_eq_true_iff]at b;refine xea (h k b.1) λz c e=>?_;rcases C4.mp c with rfl|c
  .exact absurd e b.2
  .exact⟨z,c,e⟩
 have few:∀ks:List α,ks.Nodup->ks.length<=(ks.filter λk=>decide (¬R k y)).length+1:=by
  intro ks;induction ks with
  |nil=>intro _;exact J9 _
  |cons k ks d =>
   intro a;rw[O0]at a;by_cases z:R k y
   .have:ks.filter (λk=>decide (¬R k y))=ks:=List.filter_eq_self.mpr λx g=>A0d λq=>a.1 (by rw[inj k x y z q];exact g);rw[List.filter_cons_of_neg (by simp[z]),this,D8];exact C0 _
   .rw[List.filter_cons_of_pos (by simp[z]),D8,D8];have:=d a.2;lia
 have:=few ks nd;rw[D8];lia
structure Na(Κ:KTy)(N:Nat):Prop where
ls:∃M:Nat->Nat,s47 M<=N/\∀e,∃Ls:List (Nat×Sht),Ls.length<=M e/\∀l φ,Κ l e φ->∃ψ,(l,ψ)∈Ls/\Zb l φ ψ
ext:∀{l e φ ψ},Κ l e φ->Zb l φ ψ->Κ l e ψ
theorem Wb(f:L_):∀(l:J_){e:Nat},e∈l->f e<=(l.map f).sum
|a::l,e,h=>by
 rw[F5,P4];rcases C4.mp h with rfl|h
 .exact W9 _ _
 .exact D0 (Wb f l h) (Nat.le_add_left _ _)
theorem Tb{f g:L_}:∀{l:J_},(∀e∈l,f e<=g e)->(l.map f).sum<=(l.map g).sum
|[],_=>C0 _
|a::l,h=>by
 have:=Tb (l:=l) λe b=>h e (C9 _ b);have:=h a C8;rw[F5,P4,F5,P4];lia
structure Cn(H:Hp)(G:Gv)(m:MA)(Κ:KTy)(b:Nat)(f:L_):Prop where
sq:∀(e:Nat) d,m.ds[e]?=o3 d->∃kv,H d=o3 (.dK kv)/\kv.length=f e/\(kv.map (·.1)).Nodup/\∀k∈kv.map (·.1),∃n l:Nat,k=Sum.inl (n:Int)/\Al G n ((l+2:Nat):Int)/\Κ l e (CJ G (l+2) n)
gl:G.length<=b+10*s47 f
ce:∃kc,H m.kc=o3 (.dT kc)/\kc.length<=b+10*s47 f
theorem Cn.few'{H:Hp}{G:Gv}{m:MA}{Κ:KTy}{b:Nat}{f M:L_}(h:Cn H G m Κ b f)(ok:GOk G)(fin:∀e,∃a:List (Nat×Sht),a.length<=M e/\∀l φ,Κ l e φ->∃ψ,(l,ψ)∈a/\Zb l φ ψ)(len:m.ds.length=47){e:Nat}(z:e<47):f e<=M e:=by
 have i:e<m.ds.length:=by rw[len];exact z
 refine Dh (h.sq e (m.ds[e]'i) (C5 _)) λB _ u v w=>?_;refine xea (fin e) λa C D=>D0 ?_ C;rw[<-u,<-B8 (f:=(·.1)) (as:=B)];refine WI (λ(k:Key)(q:Nat×Sht)=>∃n:Nat,k=Sum.inl (n:Int)/\Al G n ((q.1+2:Nat):Int)/\Zb q.1 (CJ G (q.1+2) n) q.2) ?_ a _ v λk A=>?_
 .intro x K j o p;obtain⟨l,ψ⟩:=j;obtain⟨n,rfl,c,d⟩:=o;obtain⟨I,rfl,t,b2⟩:=p;rw[WN ok _ c t λx y r s=>(d x y r s).trans (b2 x y r s).symm]
 .refine AN (w k A) λn l g c d=>?_;subst g;exact xea (D l _ d) fun ψ E F=>⟨_,E,n,Z,c,F⟩
theorem Cn.sum{H:Hp}{G:Gv}{m:MA}{Κ:KTy}{b N:Nat}{f:L_}(h:Cn H G m Κ b f)(ok:GOk G)(fin:Na Κ N)(len:m.ds.length=47):s47 f<=N:=by
 exact xea fin.ls λM a c=>D0 (Tb λe d=>h.few' ok c len (N2.mp d)) a
theorem Cn.few(h:Cn H G m Κ b f)(ok:GOk G)(fin:Na Κ N)(len:m.ds.length=47)(a:e<47):f e<=N:=D0 (Wb f _ (N2.mpr a)) (h.sum ok fin len)
theorem Cn.mono(h:Cn H G m Κ b f)(e:b<=b'):Cn H G m Κ b' f:=by
 refine xea h.ce λc a d=>?_;have:=h.gl;exact⟨h.sq,by lia,c,a,by lia⟩
theorem Cn.kp(h:Cn H G m Κ b f)(ok:GOk G)(j:AK G r i)(z:∀d∈m.ds,∀o,H d=o3 o->g d=o3 o)(A:∀c,H m.kc=o3 (.dT c)->∃a,g m.kc=o3 (.dT a)/\a.length<=c.length+i):Cn g r m Κ (b+i) f:=by
 refine⟨λe d t=>?_,?_,?_⟩
 .refine Dh (h.sq e d t) λB p u q v=>⟨B,z d (D5 t) _ p,u,q,λk y=>?_⟩
  exact AN (v k y) λn l w s x=>⟨n,l,w,j.lev s,by rw[Dg ok j s];exact x⟩
 .have:=h.gl;have:=j.few;lia
 .exact xea h.ce λc p u=>xea (A c p) λa q v=>⟨a,q,by lia⟩
structure JZ(a:Ad)(H:Hp)(g:GA)(G:Gv)(Κ:KTy)(N b:Nat)(p dx mem pr:R_)(r:AB)(m:MA):Prop where
jw:JW a H g G N (b+10*N) p dx mem pr r m
cn:∃f,Cn H G m Κ b f
section
variable{a:Ad}{H H':Hp}{g:GA}{G G':Gv}{Κ:KTy}{N b i:Nat}{p dx mem pr:R_}{r:AB}{m:MA}
theorem JZ.sz(h:JZ a H g G Κ N b p dx mem pr r m)(fin:Na Κ N):G.length<=b+10*N:=by
 obtain⟨f,c⟩:=h.cn;have:=c.gl;have:=c.sum h.jw.ok fin h.jw.me.len;lia
theorem JZ.mono(h:JZ a H g G Κ N b p dx mem pr r m)(e:b<=b'):JZ a H g G Κ N b' p dx mem pr r m:=by
 obtain⟨f,c⟩:=h.cn;exact⟨h.jw.mono (C0 _) A0,f,c.mono e⟩
theorem JZ.same(h:JZ a H g G Κ N b p dx mem pr r m)(s:Ay H H'):JZ a H' g G Κ N b p dx mem pr r m:=by
 obtain⟨f,c⟩:=h.cn;exact⟨JW.same s h.jw,f,c.kp (i:=0) h.jw.ok (AK.refl h.jw.ok) (λd _ o e=>s _ _ e) λj e=>⟨j,s _ _ e,C0 _⟩⟩
theorem JZ.fr(h:JZ a H g G Κ N b p dx mem pr r m)(f:Fr g H H')(k:AJ a H' g G')(n:AK G G' i):JZ a H' g G' Κ N (b+i) p dx mem pr r m:=by
 obtain⟨s,c⟩:=h.cn;refine xea h.jw.gr.pt λx q _=>⟨(h.jw.fr f k n).mono (C0 _) A0,s,c.kp h.jw.ok n (λd t o e=>?_) λv e=>⟨v,?_,by lia⟩⟩
 .obtain⟨j,u⟩:=L7 t;refine xea (c.sq j d u) λw l _=>?_;rw[e]at l;cases l;exact f _ _ e (AE e h.jw.gr.lv A4) (AE e q A4) (AE e h.jw.gr.nm A4)
 .exact f _ _ e (AE e h.jw.gr.lv A4) (AE e q A4) h.jw.me.ap.2.2
def No(H:Hp)(m:MA)(e n:Nat):Prop:=∀d kv,m.ds[e]?=o3 d->H d=o3 (.dK kv)->BK kv (Sum.inl (n:Int))=o4
def Up(l:Nat)(G:Gv)(H H':Hp)(m:MA):Prop:=∀e n l':Nat,Al G n ((l'+2:Nat):Int)->l<=l'->No H m e n->No H' m e n
theorem Up.refl(l:Nat)(G:Gv)(H:Hp)(m:MA):Up l G H H m:=λ_ _ _ _ _ h=>h
theorem Up.trans{c d f:Hp}(h:Up l G c d m)(k:Up l G' d f m)(t:AK G G' i):Up l G c f m:=λe n q j o s=>k e n q (t.lev j) o (h e n q j o s)
theorem Up.mono{l c:Nat}(h:Up l G H H' m)(e:l<=c):Up c G H H' m:=λk n o d f j=>h k n o d (D0 e f) j
theorem Up.of(l:Nat){N M:Nat}(q:LE H g G N M r m)(k:∀d∈m.ds,∀o,H d=o3 o->H' d=o3 o):Up l G H H' m:=λe n u _ _ h d t c j=>by
 refine xea (q.sq e d c) λs f _=>?_;have:=k d (D5 c) _ f;rw[j]at this;cases this;exact h d _ c f
theorem JZ.upS(l:Nat)(h:JZ a H g G Κ N b p dx mem pr r m)(s:Ay H H'):Up l G H H' m:=Up.of l h.jw.me λd _ o e=>s _ _ e
theorem JZ.upF(l:Nat)(h:JZ a H g G Κ N b p dx mem pr r m)(f:Fr g H H'):Up l G H H' m:=Up.of l h.jw.me λd n o e=>by
 refine xea h.jw.gr.pt λt k _=>?_;obtain⟨j,q⟩:=L7 n;refine xea (h.jw.me.sq j d q) λs c _=>?_;rw[e]at c;cases c;exact f _ _ e (AE e h.jw.gr.lv A4) (AE e k A4) (AE e h.jw.gr.nm A4)
theorem JW.tc{c:List (List Key×V)}(h:JW a H g G N M p dx mem pr r m)(e:H m.kc=o3 (.dT c)):JW a H g G N c.length p dx mem pr r m:=by
 refine AS h.me.ce λj d _ f=>?_;rw[e]at d;cases d;exact⟨h.gr,h.ok,h.bs,h.br,h.nbr,h.hp,h.ru,h.rok,h.rest,⟨h.me.tp,h.me.l,h.me.ap,h.me.len,h.me.nd,h.me.sq,_,e,C0 _,f⟩⟩
theorem JZ.mid{t:List (List Key×V)}(h:JZ a H g G Κ N b p dx mem pr r m)(c:Cn H G m Κ b f)(s:H m.kc=o3 (.dT t))(fr:FrC g m H H')(k:JW a H' g G' N (t.length+4) p dx mem pr r m)(B:AK G G' 1):JZ a H' g G' Κ N (b+4) p dx mem pr r m/\∀l,Up l G H H' m:=by
 refine xea h.jw.gr.pt λI C _=>?_;have y:∀d∈m.ds,∀o,H d=o3 o->H' d=o3 o:=λd D o e=>by
  obtain⟨j,k⟩:=L7 D;refine xea (h.jw.me.sq j d k) λF x _=>?_;rw[e]at x;cases x;exact fr _ _ e (AE e h.jw.gr.lv A4) (AE e C A4) (AE e h.jw.gr.nm A4) (AE e s A4)
 refine AS k.me.ce λq v z A=>AS h.jw.me.ce λu w E _=>?_;rw[s]at w;cases w;have n:=k.me;refine⟨⟨⟨k.gr,k.ok,k.bs,k.br,k.nbr,k.hp,k.ru,k.rok,k.rest,⟨n.tp,n.l,n.ap,n.len,n.nd,n.sq,q,v,by lia,A⟩⟩,f,c.kp (i:=4) h.jw.ok (B.mono A6) y λu e=>⟨q,v,by rw[s]at e;cases e;exact z⟩⟩,λl=>Up.of l h.jw.me y⟩
theorem JZ.put{e n k l:Nat}{d:R_}{t:List (Key×V)}(h:JZ a H g G Κ N (b+10) p dx mem pr r m)(fin:Na Κ N)(B:m.ds[e]?=o3 d)(I:H d=o3 (.dK t))(no:BK t (Sum.inl (n:Int))=o4)(T:Al G n ((l+2:Nat):Int))(hk:Κ l e (CJ G (l+2) n))(jr:JR r G e n k):JZ a (upd H d (.dK (EG t (Sum.inl (n:Int)) (.int (k:Int))))) g G Κ N b p dx mem pr r m/\Up (l+1) G H (upd H d (.dK (EG t (Sum.inl (n:Int)) (.int (k:Int))))) m:=by
 obtain⟨f,c⟩:=h.cn;have D:e<47:=by rw[<-h.jw.me.len];exact(B9.mp B).1
 have o:=h.jw.putS B I jr;refine Dh (c.sq e d B) λab W q2 q3 q4=>?_;rw[I]at W;cases W;have U:=Mw (.int (k:Int)) no;rw[U]at o⊢;have nn:(Sum.inl (n:Int):Key)∉t.map (·.1):=λz=>by
  refine xea (F1.mp z) λq hq eq=>?_;have:(t.find? λt=>decide (t.1=(Sum.inl (n:Int):Key)))=o4:=by
   unfold BK at no;cases y:t.find? λt=>decide (t.1=(Sum.inl (n:Int):Key))with
   |none=>rfl
   |some w=>rw[y]at no;cases no
  have:=List.find?_eq_none.mp this q hq;exact this (A0d eq)
 refine xea c.ce λkc R c2=>?_;have gl:=c.gl;have F:∀{d':R_}{s:Nat},m.ds[s]?=o3 d'->s≠e->d'≠d:=λ{d' s} j z y=>z (by
  rw[y]at j;exact(List.getElem?_inj (B9.mp j).1 h.jw.me.nd).mp (j.trans B.symm))
 have v:Cn (upd H d (.dK (t++[(Sum.inl (n:Int),.int (k:Int))]))) G m Κ b (λi=>if i=e then f i+1 else f i):=by
  refine⟨λs d' j=>?_,by rw[Wp f D];lia,kc,?_,by rw[Wp f D];lia⟩
  .by_cases z:s=e
   .subst z;rw[B]at j;cases j;refine⟨_,Af,by rw[A0e rfl,C6,q2];rfl,?_,λk' E=>?_⟩
    .rw[C7,S5];refine⟨q3,by simp,λx hx y hy=>?_⟩;rw[D4.mp hy];exact λz=>nn ((show x=Sum.inl (n:Int)from z)▸hx)
    .rw[C7]at E;rcases J7.mp E with y|y
     .exact q4 k' y
     .rw[D4.mp y];exact⟨n,l,Z,T,hk⟩
   .exact Dh (c.sq s d' j) λC M O K P=>⟨C,by rw[Av (F j z)];exact M,by rw[A0c z];exact O,K,P⟩
  .rw[Av (AE R I A4)];exact R
 refine⟨⟨?_,_,v⟩,λs n' l' a1 a2 Q d' C j A=>?_⟩
 .have fw:∀{s:Nat},s<47->(if s=e then f s+1 else f s)<=N:=λ{s} he=>v.few h.jw.ok fin h.jw.me.len he;have sm:=v.sum h.jw.ok fin h.jw.me.len;refine xea v.ce λL S d2=>?_;have u:=o.me;refine AS u.ce λaa X r2 r3=>?_;rw[S]at X;cases X;refine⟨o.gr,o.ok,o.bs,o.br,o.nbr,o.hp,o.ru,o.rok,o.rest,⟨u.tp,u.l,u.ap,u.len,u.nd,λs d' j=>?_,L,S,by lia,r3⟩⟩;refine Dh (u.sq s d' j) λkw Y u2 u3 u4=>AS (v.sq s d' j) λac v1 v2 _=>?_;rw[Y]at v1;cases v1;exact⟨kw,Y,by rw[v2];exact fw (by rw[<-h.jw.me.len];exact(B9.mp j).1),u3,u4⟩
 .by_cases z:s=e
  .subst z;rw[B]at j;cases j;rw[Af]at A;cases A;rw[<-U,Iv];have ne:n'≠n:=λy=>by
    subst y;have:((l'+2:Nat):Int)=((l+2:Nat):Int):=by
     refine xea a1 λq M O=>xea T λq' K P=>?_;rw[M]at K;cases K;exact O.symm.trans P
    lia
   rw[A0c (λy=>ne (by have:=Sum.inl.inj y;lia))];exact Q d t B I
  .rw[Av (F j z)]at A;exact Q d' C j A
end
seal L2.PA L2.PE L2.PS L2.PSs L2.PT L2.PW
structure ClK(r:AB)(Κ:KTy):Prop where
nine1:∀{l e φ},Κ (l+1) e φ->e<=l->∀i j,i<3->j<3->Κ l e λx y=>φ (x+2^(l+1)*i) (y+2^(l+1)*j)
nine2:∀{l φ},Κ (l+1) (l+1) φ->∀i j,i<3->j<3->Κ l l λx y=>φ (x+2^(l+1)*i) (y+2^(l+1)*j)
four:∀{l φ},Κ (l+1) (l+1) φ->∀i j,i<2->j<2->Κ l l λx y=>Bu r (2^l) φ (x+(2^(l+1)*i+2^l)) (y+(2^(l+1)*j+2^l))
theorem Al.one{i j:Int}(h:Al G n i)(k:Al G n j):i=j:=by
 refine xea h λq b c=>xea k λp a d=>?_;rw[b]at a;cases a;exact c.symm.trans d
theorem JR.view{c:Nat->Nat->Int}(h:JR r G e n m)(o:Al G n ((l+2:Nat):Int))(v:Vw G c (l+2) n X Y):Al G m ((l+1:Nat):Int)/\e<=l/\Vw G (Bu r (2^e) c) (l+1) m (X+2^l) (Y+2^l):=by
 apply AT;intro d a;refine Dh h λk g b i j=>?_;apply a;clear a d;have f:k=l:=by
  have:=g.one o;lia
 subst f;exact⟨i,b,v.jump b j⟩
theorem Vw.jr(c:Al G n ((l+1+2:Nat):Int))(a:e<=l+1)(b:Al G m ((l+1+1:Nat):Int))(v:Vw G (Bu r (2^e) (CJ G (l+1+2) n)) (l+1+1) m (2^(l+1)) (2^(l+1))):JR r G e n m:=⟨l+1,c,a,b,v⟩
theorem aBa{c:Nat->Nat->Int}{l f g h k z X Y i:Nat}(ok:GOk G)(b:AK G d i)(n:Al G f ((l+1:Nat):Int))(o:Al G g ((l+1:Nat):Int))(p:Al G h ((l+1:Nat):Int))(r:Al G k ((l+1:Nat):Int))(w:Vw G c (l+1) f X Y)(x:Vw G c (l+1) g (X+2^(l+1)) Y)(y:Vw G c (l+1) h X (Y+2^(l+1)))(A:Vw G c (l+1) k (X+2^(l+1)) (Y+2^(l+1)))(e:d[z]?=o3 ⟨[((qO G f 3:Nat):Int),((qO G g 2:Nat):Int),((qO G h 1:Nat):Int),((qO G k 0:Nat):Int)],(l:Int)+1⟩):Vw d c (l+1) z (X+2^l) (Y+2^l):=by
 have F:2^(l+1)=2^l*2:=L9 ..;apply AT;intro m a;refine xa3 (Ez e) λB C D E=>?_;apply a;clear a m;have s:=(w.q (i:=1) (j:=1) A6 A6).goes ok b (Ma ok n A6);have t:=(x.q (i:=0) (j:=1) A6 A6).goes ok b (Ma ok o A6);have u:=(y.q (i:=1) (j:=0) A6 A6).goes ok b (Ma ok p A6);have v:=(A.q (i:=0) (j:=0) A6 A6).goes ok b (Ma ok r A6);refine Vw.of ?_ ?_ ?_ ?_
 .rw[B];exact s.at' A0 A0
 .rw[C];exact t.at' A0 A0
 .rw[D];exact u.at' A0 A0
 .rw[E];exact v.at' A0 A0
theorem NP{G d:Gv}{c:Nat->Nat->Int}{l f g h j z X Y i:Nat}{L:Int}(ok:GOk G)(b:AK G d i)(m:Al G f (l:Int))(n:Al G g (l:Int))(o:Al G h (l:Int))(p:Al G j (l:Int))(q:Vw G c l f X Y)(r:Vw G c l g (X+2^l) Y)(s:Vw G c l h X (Y+2^l))(t:Vw G c l j (X+2^l) (Y+2^l))(e:d[z]?=o3 ⟨[(f:Int),(g:Int),(h:Int),(j:Int)],L⟩):Vw d c (l+1) z X Y:=by
 apply AT;intro k a;refine xa3 (Ez e) λu v w x=>?_;apply a;clear a k;refine Vw.of ?_ ?_ ?_ ?_
 .rw[u];exact q.goes ok b m
 .rw[v];exact r.goes ok b n
 .rw[w];exact s.goes ok b o
 .rw[x];exact t.goes ok b p
theorem Wx:∀xs:List Nat,xs.length=9->∃a b c d e f g h i,xs=[a,b,c,d,e,f,g,h,i]
|[a,b,c,d,e,f,g,h,i],_=>⟨a,b,c,d,e,f,g,h,i,Z⟩
theorem Qe:∀xs:List Nat,xs.length=4->∃a b c d,xs=[a,b,c,d]
|[a,b,c,d],_=>⟨a,b,c,d,Z⟩
noncomputable def toV(k:Nat):V:=.int (k:Int)
def aFU(G:Gv)(c:Nat->Nat->Int)(l X:Nat)(ys:J_):Prop:=∀i j,i<3->j<3->∃y,ys[i+3*j]?=o3 y/\Al G y (l:Int)/\Vw G c l y (2^l*i+X) (2^l*j+X)
theorem QZ   {c:Nat->Nat->Int}   (ok:GOk b) (f:AK b d x) (h:∀i j,i<3->j<3->∃k,ks[i+3*j]?=o3 k/\Al b k ((l+1+1:Nat):Int)/\Vw b c (l+1+1) k (2^(l+1)*i) (2^(l+1)*j)) (t:Paired (λk y=>JR r d e k y) ks ys):aFU d (Bu r (2^e) c) (l+1) (2^l) ys:=λi j hi s=>by
 apply AT;intro m a;refine AS (h i j hi s) λk n g o=>xea (Paired.get t n) λy p q=>xa2 (q.view (f.lev g) (o.goes ok f g)) λu _ v=>?_;apply a;clear a m;exact⟨y,p,u,v⟩
theorem PB{G:Gv}{c:Nat->Nat->Int}{l X:Nat}{H:Hp}{x n y o g p z q A:Nat}{r s u v:R_}(m:aFU G c l X [x,n,y,o,g,p,z,q,A])(B:H r=o3 (.tup [.int x,.int n,.int o,.int g]))(C:H s=o3 (.tup [.int n,.int y,.int g,.int p]))(D:H u=o3 (.tup [.int o,.int g,.int z,.int q]))(E:H v=o3 (.tup [.int g,.int p,.int q,.int A]))(t:Nat)(w:R_)(a:[r,s,u,v][t]?=o3 w) :
  ∃b d e f:Nat,H w=o3 (.tup [.int b,.int d,.int e,.int f])/\(Al G b (l:Int)/\Al G d (l:Int)/\Al G e (l:Int)/\Al G f (l:Int))/\Vw G c l b (2^l*(t%2)+X) (2^l*(t/2)+X)/\Vw G c l d (2^l*(t%2)+X+2^l) (2^l*(t/2)+X)/\Vw G c l e (2^l*(t%2)+X) (2^l*(t/2)+X+2^l)/\Vw G c l f (2^l*(t%2)+X+2^l) (2^l*(t/2)+X+2^l):=by
 have M:t<4:=(B9.mp a).1;have R:=Nat.mul_succ (2^l) (t%2);have S:=Nat.mul_succ (2^l) (t/2);refine AS (m (t%2) (t/2) A0 A0) λb h F N=>AS (m (t%2+1) (t/2) A0 A0) λd i I O=>AS (m (t%2) (t/2+1) A0 A0) λe j K P=>AS (m (t%2+1) (t/2+1) A0 A0) λf k L Q=>⟨b,d,e,f,?_,⟨F,I,K,L⟩,N,O.at' A0 Z,P.at' Z A0,Q.at' A0 A0⟩
 match t,M,a with
 |0,_,a=>cases h;cases i;cases j;cases k;cases a;exact B
 |1,_,a=>cases h;cases i;cases j;cases k;cases a;exact C
 |2,_,a=>cases h;cases i;cases j;cases k;cases a;exact D
 |3,_,a=>cases h;cases i;cases j;cases k;cases a;exact E
theorem SO{α:Type}{P:Nat->α->Prop}{b:List α}{z:α}{i:Nat}(c:b.length=i)(h:∀t a,b[t]?=o3 a->P t a)(d:P i z):∀t a,(b++[z])[t]?=o3 a->P t a:=λt a e=>by
 by_cases f:t<i
 .rw[M5 A0]at e;exact h t a e
 .have:t=i:=by
   have:=(B9.mp e).1;rw[C6,c]at this;have:t<i+1:=this;lia
  subst this;rw[J0 A0,c,V3]at e;cases e;exact d
section
variable{P:N_}{w:Q_}{K:O_}{mg:C_}{n9:T_}{a:Ad}
inductive aAl(a:Ad)(L:Nat)(vs:List V)(H:Hp)(Q:VK):Prop
|mk (p dx mem pr:R_) (g:GA) (G:Gv) (Κ:KTy) (N b:Nat) (r:AB) (m:MA) (n l e:Nat) (_:vs=[.ref p,.int n,.int e]) (_:JZ a H g G Κ N b p dx mem pr r m) (_:Na Κ N) (_:ClK r Κ) (_:Al G n ((l+2:Nat):Int)) (_:l<L) (_:e<=l) (_:Κ l e (CJ G (l+2) n)) (_:b+10*N+10*(l+1)<8000000) (_:∀(k:Nat)(G':Gv)(H':Hp)(i:Nat),FrJ g m H H'->JZ a H' g G' Κ N b p dx mem pr r m->AK G G' i->JR r G' e n k->Up (l+1) G H H' m->Q (.int k) H'):aAl a L vs H Q
def GT(a:Ad)(L:Nat):Sp:=λvs H Q _=>aAl a L vs H Q
inductive aAf(a:Ad)(L:Nat)(vs:List V)(H:Hp)(Q:VK):Prop
|mk (p dx mem pr:R_) (g:GA) (G:Gv) (Κ:KTy) (N b:Nat) (r:AB) (m:MA) (n l e:Nat) (_:vs=[.ref p,.int n,.int e]) (_:JZ a H g G Κ N b p dx mem pr r m) (_:Na Κ N) (_:ClK r Κ) (_:Al G n ((l+2:Nat):Int)) (_:l<L) (_:e<=l) (_:Κ l e (CJ G (l+2) n)) (_:b+10*N+10*(l+1)<8000000) (_:∀(k:Nat)(G':Gv)(H':Hp)(i:Nat),FrJ g m H H'->JZ a H' g G' Κ N (b+10) p dx mem pr r m->AK G G' i->JR r G' e n k->Up l G H H' m->Q (.int k) H'):aAf a L vs H Q
def UU(a:Ad)(L:Nat):Sp:=λvs H Q _=>aAf a L vs H Q
inductive WV(a:Ad)(L:Nat)(vs:List V)(H:Hp)(Q:VK):Prop
|mk (p dx mem pr:R_) (g:GA) (G:Gv) (Κ:KTy) (N b:Nat) (r:AB) (m:MA) (n l:Nat) (_:vs=[.ref p,.int n,.int ((l+1:Nat):Int)]) (_:JZ a H g G Κ N b p dx mem pr r m) (_:Na Κ N) (_:ClK r Κ) (_:Al G n ((l+1+2:Nat):Int)) (_:l<L) (_:Κ (l+1) (l+1) (CJ G (l+1+2) n)) (_:b+10*N+10*(l+2)<8000000) (_:∀(A:R_)(f0 f1 f2 f3:Nat)(G':Gv)(H':Hp)(i:Nat),FrJ g m H H'->JZ a H' g G' Κ N (b+9) p dx mem pr r m->AK G G' i->Up (l+1) G H H' m->H' A=o3 (.lst [toV f0,toV f1,toV f2,toV f3])->(Al G' f0 ((l+2:Nat):Int)/\Al G' f1 ((l+2:Nat):Int)/\Al G' f2 ((l+2:Nat):Int)/\Al G' f3 ((l+2:Nat):Int))->(Vw G' (Bu r (2^l) (CJ G (l+1+2) n)) (l+2) f0 (2^l) (2^l)/\Vw G' (Bu r (2^l) (CJ G (l+1+2) n)) (l+2) f1 (2^l+2^(l+1)) (2^l)/\Vw G' (Bu r (2^l) (CJ G (l+1+2) n)) (l+2) f2 (2^l) (2^l+2^(l+1))/\Vw G' (Bu r (2^l) (CJ G (l+1+2) n)) (l+2) f3 (2^l+2^(l+1)) (2^l+2^(l+1)))->Q (.ref A) H'):WV a L vs H Q
def RL(a:Ad)(L:Nat):Sp:=λvs H Q _=>WV a L vs H Q
theorem aBs{L d:Nat}(F:Fun K "four_halfway" "Jumps.four_halfway" Bv f fd)(T:Top K mg a)(d3:3<=d)(aP:Cal P w K mg n9 CX0 3 "nine_parts" Lr (OY a))(aS:Cal P w K mg n9 CX0 1 "fours_of" Vm Mp)(a6:BR P w K mg n9 CX0 2 a.J5 "linked" Ba (EA a))(aF:BR P w K mg n9 CX0 d a.M3 "reckoned" QG (GT a L)):AL P w K mg n9 CX0 (d+1) f fd QG (RL a L):=by
 refine F.ok Ey (λvs H Q E h=>?_) (λbf A bc s H vs Q E hr h=>?_)
 .apply AT;intro D c;obtain⟨p,dx,mem,pr,g,G,Κ,N,b,r,m,n,l,rfl,_⟩:=h;apply c;clear c D;rfl
 .apply AT;intro D c;obtain⟨p,dx,mem,pr,g,G,Κ,N,b,r,m,n,l,rfl,hz,fin,cl,hl,hL,a9,few,k⟩:=h;have hj:=hz.jw;have sz:=hz.sz fin;apply c;clear c D;refine⟨_,(Ac (DS (i:=3) Z Ey.nd Z Z (Bn.of (So:=Ah Bv) (No:=Dt) (N:=["part","self","e"]) (k:=1) (cs:=[0,2]) Z Z A3) (BY (Ar aP (rm hr) Z Am (Aa (AC (pv 0) Z) (Aa (pv 1) Ab)))) (λ_ _ _=>(AY (i:=0) A3 Z Z)) (λ_ _ _=>BB) (λ_ _ _=>(AD (pv 1) aF (rm hr) Am (Aa (pv 0) (AV Cg (pv 2) Ae Ab))))) (Ag (Aw (Cj Z (Bn.of (So:=Ah Bv) (No:=Dt) (N:=["four","self"]) (k:=1) (cs:=[0]) Z Z A3) (BY (Ar aS (rm hr) Z Am (Aa (pv 3) Ab))) (λ_ _ _=>(AY (i:=0) A3 Z Z)) (λ_ _ _=>BB) (λ_ _ _=>(AD (RX (K:=K) Z (pv 1) Z) a6 (rm hr) Am (Aa (pv 0) Ab))))))),?_⟩
  try dsimp only[cxK]
  refine xea (id hl) λq9 av bg=>?_;have bi:l<=45:=by have:=(hj.ok.lev av).2;lia
  refine xwf Z Z hj.hp T.Q1 T.Q2 (Ew _ _ _ _ _) (xq1 Z ⟨g,G,n,l+1,Z,hj.gr,hj.ok,hl,by lia,by lia,λA9 ks G3 H3 ag a1 O aq l9 nine=>?_⟩);have aj:=hz.fr ag a1 O;have R:=aj.jw;have bj:=aj.sz fin
  skip
  have as:∀(t k:Nat),ks[t]?=o3 k->Al G3 k ((l+2:Nat):Int):=λt k e=>by
   have ht:=(B9.mp e).1;refine AS (nine (t%3) (t/3) A0 A0) λk' e1 e2 _=>?_;rw[show t%3+3*(t/3)=t by lia,e]at e1;cases e1;exact e2
  have bb:∀(t k:Nat),ks[t]?=o3 k->Κ l l (CJ G3 (l+2) k):=λt k e=>by
   have ht:=(B9.mp e).1;refine AS (nine (t%3) (t/3) A0 A0) λk' e1 _ v=>?_;rw[show t%3+3*(t/3)=t by lia,e]at e1;cases e1;exact fin.ext (cl.nine2 a9 (t%3) (t/3) A0 A0) λx y hx hy=>(v x y hx hy).symm
  refine⟨A9,Z,⟨_,SqL.of aq⟩,?_⟩;refine Db (xs:=ks.map λ(k:Nat)=>V.int (k:Int)) (λi B H5=>∃(G5:Gv)(ys:J_)(c5:Nat),B=ys.map toV/\ys.length=i/\FrJ g m H3 H5/\JZ a H5 g G5 Κ N (b+5) p dx mem pr r m/\AK G3 G5 c5/\Up (l+1) G3 H3 H5 m/\Paired (λk y=>JR r G5 l k y) (ks.take i) ys) ⟨G3,[],0,Z,Z,λb o e _ _ _ _ _=>e,aj,AK.refl R.ok,Up.refl _ _ _ _,.nil⟩ (λi B H5 _ z=>by refine Fz z λ_ _ _ _ _ fr _=>?_;exact SqL.of ((fr.kps R.gr R.bs.long R.me) _ _ aq (.lst (by rw[B8];lia)))) ?_ ?_
  .rintro i v B H5 ev ac;apply AT;intro D c;refine BV ac λG5 ys c5 af ly ah U q=>?_;refine xa2 q λu al ad=>?_;clear q;clear ac;subst af;apply c;clear c D;rw[C1]at ev;refine xea (D7.mp ev) λk5 ek M=>?_;subst M;have i9:i<9:=by have:=(B9.mp ek).1;lia
   have ai:=U.jw
   skip
   refine⟨⟨[o3 (.int (k5:Int))],Z,Z⟩,by rw[B8,ly];exact V5 i9 A6,FP (xwn Z Z ai.hp (MD _ _ _ _ _) Z (xwb Z Z Z ⟨p,dx,mem,pr,g,G5,Κ,N,b+5,r,m,k5,l,l,(show [V.ref p,V.int (k5:Int),V.int (((l+1:Nat):Int)-1)]=[V.ref p,V.int (k5:Int),V.int (l:Int)] by rw[show((l+1:Nat):Int)-1=(l:Int) by lia]),U,fin,cl,u.lev (as i k5 ek),hL,C0 l,(by rw[Dg R.ok u (as i k5 ek)];exact bb i k5 ek),by lia,λy G6 H6 c6 ax aa ao ba be=>⟨G6,ys++[y],_,by rw[C7];rfl,by rw[C6,ly];rfl,ah.trans ax,aa,u.trans ao,al.trans be u,?_⟩⟩))⟩;rw[F4,ek,Q4];exact A4g (Paired.imp (λk y z=>z.goes ai.ok ao) ad) ba
  rintro B H5 ab A5 az;apply AT;intro D c;refine BV ab λG5 ys c5 af ly ah U q=>?_;refine xa2 q λu al ad=>?_;clear q;clear ab;subst af;have ai:=U.jw;apply c;clear c D;rw[B8,l9]at ly;rw[B8,F8]at ad;have nj:=QZ R.ok u nine ad;apply AT;intro D c;refine xe5 (Wx ys ly) λy0 y1 y2 y3 y4 q=>?_;refine xe4 q λy5 y6 y7 y8 am=>?_;clear q;subst am;apply c;clear c D
  skip
  generalize dR:upd H5 A5 _=H6;obtain⟨s5,ar⟩:=alc az dR;have aa:=U.same s5;have bh:=aa.jw;have aw:=(Fr.j ag).trans (ah.trans (Ay.j s5));refine xq1 Z ⟨A5,y0,y1,y2,y3,y4,y5,y6,y7,y8,Z,ar,λMM t0 t1 t2 t3 H7 s7 hM a3 a4 a5 a7=>?_⟩;have ak:=aa.same s7;have Y:=ak.jw;refine⟨MM,Z,⟨_,SqL.of hM⟩,?_⟩;have p1:2^(l+1)=2^l*2:=L9 ..;have four:=PB nj a3 a4 a5 a7;have ae:=Y.ok;refine Db (xs:=[t0,t1,t2,t3].map V.ref) (λi B H8=>∃(G8:Gv)(zs:J_),B=zs.map toV/\zs.length=i/\Fr g H7 H8/\JZ a H8 g G8 Κ N (b+5+i) p dx mem pr r m/\AK G5 G8 i/\∀(t z:Nat),zs[t]?=o3 z->Al G8 z ((l+2:Nat):Int)/\Vw G8 (Bu r (2^l) (CJ G (l+1+2) n)) (l+1+1) z (2^(l+1)*(t%2)+2^l) (2^(l+1)*(t/2)+2^l)) ⟨G5,[],Z,Z,Fr.refl g H7,ak,AK.refl ae,λt z e=>(nomatch e)⟩ (λi B H8 _ z=>by refine CC z λ_ _ _ _ fr _=>?_;exact SqL.of ((fr.kps Y.gr Y.bs.long) _ _ hM (.lst (by show 4<=50;decide)))) ?_ ?_
  .rintro i v B H8 ev ac;apply AT;intro D c;refine CB ac λG8 zs M lz W I q=>?_;refine xa q λC vz=>?_;clear q;clear ac;subst M;have S:=I.jw;have bd:=I.sz fin;apply c;clear c D;rw[C1]at ev;refine xea (D7.mp ev) λtt et M=>?_;subst M;have i4:i<4:=(B9.mp et).1;apply AT;intro D c;obtain⟨f0,f1,f2,f3,a8,⟨m0,m1,m2,m3⟩,w0,w1,w2,w3⟩:=four i tt et;apply c;clear c D
   skip
   refine⟨⟨[o3 (.ref tt)],Z,Z⟩,by rw[B8,lz];exact V5 i4 A6,FP (xwf Z Z S.hp T.Q1 T.Q2 (Ew _ _ _ _ _) (xq3 Z S.gr.hp (BT g) (xq1 Z ⟨g,G8,tt,f0,f1,f2,f3,((l+1:Nat):Int),Z,S.gr,S.ok,(W.kps Y.gr Y.bs.long) _ _ a8 (.inl .tup),⟨C.lev m0,C.lev m1,C.lev m2,C.lev m3⟩,by lia,by lia,λz G9 H9 an a2 X e9=>⟨G9,zs++[z],by rw[C7];rfl,by rw[C6,lz];rfl,W.trans an,I.fr an a2 X,C.trans X,?_⟩⟩)))⟩;refine SO lz (λt z' e=>?_) ?_
   .obtain⟨q1,q2⟩:=vz t z' e;exact⟨X.lev q1,q2.goes S.ok X q1⟩
   .exact⟨⟨_,e9,by show((l+1:Nat):Int)+1=((l+2:Nat):Int);lia⟩,NP ae (C.trans X) m0 m1 m2 m3 w0 w1 w2 w3 e9⟩
  rintro B H8 ab A8 a0;apply AT;intro D c;refine CB ab λG8 zs M lz W I q=>?_;refine xa q λC vz=>?_;clear q;clear ab;subst M;have S:=I.jw;have bd:=I.sz fin;apply c;clear c D;apply AT;intro D c;refine xe4 (Qe zs lz) λz0 z1 z2 z3 au=>?_;subst au;apply c;clear c D;have s8:Ay H8 (upd H8 A8 (.lst ([z0,z1,z2,z3].map toV))):=Aq a0;have ay:=C;obtain⟨q0,x0⟩:=vz 0 z0 Z;obtain⟨q1,x1⟩:=vz 1 z1 Z;obtain⟨q2,x2⟩:=vz 2 z2 Z;obtain⟨q3,x3⟩:=vz 3 z3 Z;refine k A8 z0 z1 z2 z3 G8 _ _ (aw.trans ((Ay.j s7).trans ((Fr.j W).trans (Ay.j s8)))) (I.same s8) ((O.trans u).trans ay) (((((hz.upF (l+1) ag).trans al O).trans (U.upS _ s5) (O.trans u)).trans (aa.upS _ s7) (O.trans u)).trans ((ak.upF _ W).trans (I.upS _ s8) C) (O.trans u)) Af ⟨q0,q1,q2,q3⟩ ⟨x0.at' A0 A0,x1.at' A0 A0,x2.at' A0 A0,x3.at' A0 A0⟩
theorem aCb{L d:Nat}(F:Fun K "fresh" "Jumps.fresh" Cw f fd)(T:Top K mg a)(d7:7<=d)(aG:BR P w K mg n9 CX0 7 a.M3 "middle_after" Lg (RI a))(a6:BR P w K mg n9 CX0 2 a.J5 "linked" Ba (EA a))(aP:Cal P w K mg n9 CX0 3 "nine_parts" Lr (OY a))(aS:Cal P w K mg n9 CX0 1 "fours_of" Vm Mp)(aH:Cal P w K mg n9 CX0 3 "met_in_the_middle" CH (Wh a))(aF:BR P w K mg n9 CX0 d a.M3 "reckoned" QG (GT a L))(cK:BR P w K mg n9 CX0 (d+1) a.M3 "four_halfway" QG (RL a L)):AL P w K mg n9 CX0 (d+2) f fd QG (UU a (L+1)):=by
 refine F.ok Ek (λvs H Q E h=>?_) (λcc A b7 s H vs Q E hr h=>?_)
 .apply AT;intro S c;obtain⟨p,dx,mem,pr,g,G,Κ,N,b,r,m,n,l,e,rfl,_⟩:=h;apply c;clear c S;rfl
 .apply AT;intro S c;obtain⟨p,dx,mem,pr,g,G,Κ,N,b,r,m,n,l,e,rfl,hz,fin,cl,hl,hL,he,a9,few,k⟩:=h;have W:=hz.jw;have sz:=hz.sz fin;refine xea (id hl) λq eq el=>?_;apply c;clear c S;have cf:=(W.ok.lev eq).2;have b5:l<=46:=by lia
  refine⟨_,(Ac (Ao (i:=3) Ek.nd Z (Or.inr Z) (AC (pv 0) Z)) (Ac (Ao (i:=4) Ek.nd Z O_9 (Aj Ax (AC (pv 3) Z) (pv 1) R_9)) (Ac (AO (AA Dj (pv 1) (Aj Ax (AC (pv 3) Z) (pv 4) R_9) (AF _)) (Ag (Aw (Aj Ax (AC (pv 3) Z) (AG Cg (pv 4) Ae) R_9))) Az) (Ac (AO (AA Dj (pv 4) (BZ Z T.f_) (AF _)) (Ag (Aw (AD (pv 0) aG (rm hr) Am (Aa (pv 1) Ab)))) Az) (Ac (AO (AA GN (pv 2) (AG Cg (pv 4) (BZ Z T.f_)) (AF _)) (Ac (DS (i:=5) Z Ek.nd Z Z (Bn.of (So:=Ah Cw) (No:=EX) (N:=["part","self","e"]) (k:=1) (cs:=[0,2]) Z Z A3) (BY (Ar aP (rm hr) Z Am (Aa (pv 3) (Aa (pv 1) Ab)))) (λ_ _ _=>(AY (i:=0) A3 Z Z)) (λ_ _ _=>BB) (λ_ _ _=>(AD (pv 1) aF (rm hr) Am (Aa (pv 0) (Aa (pv 2) Ab))))) (Ag (Aw (AD (pv 3) a6 (rm hr) Am (Aa (BH CA Z T.m9 A3b (Aa (Cj Z (Bn.of (So:=Ah Cw) (No:=EX) (N:=["four","grove"]) (k:=1) (cs:=[3]) Z Z A3) (BY (Ar aS (rm hr) Z Am (Aa (pv 5) Ab))) (λ_ _ _=>(AY (i:=0) A3 Z Z)) (λ_ _ _=>BB) (λ_ _ _=>(Ar aH (rm hr) Z Am (Aa (pv 1) (Aa (pv 0) Ab))))) Ab)) Ab))))) Az) (Ag (Aw (AD (pv 3) a6 (rm hr) Am (Aa (BH CA Z T.m9 A3b (Aa (Cj Z (Bn.of (So:=Ah Cw) (No:=EX) (N:=["four","self","e"]) (k:=1) (cs:=[0,2]) Z Z A3) (BY (AD (pv 0) cK (rm hr) Am (Aa (pv 1) (Aa (pv 2) Ab)))) (λ_ _ _=>(AY (i:=0) A3 Z Z)) (λ_ _ _=>BB) (λ_ _ _=>(AD (pv 1) aF (rm hr) Am (Aa (pv 0) (AV Cg (pv 2) Ae Ab))))) Ab)) Ab))))))))),?_⟩
  try dsimp only[cxK]
  refine xwf Z Z W.hp T.Q1 T.Q2 (Ew _ _ _ _ _) (xq1 Z ⟨g.p,_,g.dx,_,_,Z,W.gr.hp,T.J4,T.Q3,Fy g,_,Z,g.lv,_,(n:Int),.int ((l+2:Nat):Int),Z,Z,SqL.of W.gr.lv,Ai (by rw[C1,eq,<-el];rfl),?_⟩);refine xq1 Z (xq1 Z ⟨g.p,_,g.dx,_,_,Z,W.gr.hp,T.J4,T.U_,Jm g,_,Z,g.br,_,((l+2:Nat):Int),.int (bareN (l+2):Int),Z,Z,SqL.of W.br,Ai (aDV A0),Z,_,Z,?_⟩);refine Jl (λhc=>?_) (λhc=>?_)
  .have ei:n=bareN (l+2):=by
    have:=A2b hc;injection this with this
    exact A1f this
   refine xwf Z Z W.gr.hp T.J4 T.U_ (Jm g) (xwb Z Z Z (xq4 Z Z (SqL.of W.br) (by rw[show((l+2:Nat):Int)-1=((l+1:Nat):Int) by lia];exact Ai (aDV A0)) ?_));refine k (bareN (l+1)) G H 0 (λb o e _ _ _ _ _=>e) (hz.mono A0) (AK.refl W.ok) ?_ (Up.refl _ _ _ _);rw[ei];exact JR.bare W.ok W.bs W.rest A0 he
  refine xq1 Z ⟨Z,(xq1 Z ?_)⟩;cases l with
  |zero =>
   refine(show ∀{b:Bool}{A B:Prop},b=o5->A->(if b=o5 then A else B)from λh x=>by rw[h];exact Cr x) (A0d Z) ?_;have e0:e=0:=by lia
   subst e0;obtain⟨ff,cn⟩:=hz.cn;refine xea cn.ce λkc c1 c2=>?_;have sm:=cn.sum W.ok fin W.me.len;refine xwn Z Z W.hp (aCS _ _ _ _ _) Z ⟨p,dx,mem,pr,g,G,N,kc.length,r,m,n,Z,W.tc c1,hl,by lia,by lia,λk' G' H' fr bu go jr=>?_⟩;obtain⟨z1,z2⟩:=hz.mid cn c1 fr bu go;exact k k' G' H' 1 fr.j (z1.mono A0) go jr (z2 _)
  |succ l =>
   refine(show ∀{b:Bool}{A B:Prop},b=o6->B->(if b=o5 then A else B)from λh x=>by rw[h];exact Bc x) (A0f (by intro z;injection z with z;have z:=z;lia)) ?_;have hL:l<L:=by lia
   have p1:2^(l+1)=2^l*2:=L9 ..;refine xw2 Z Z (xq2 Z Z (xq2 Z Z (xq1 Z ?_)));refine Jl (λhc=>?_) (λhc=>?_)
   .have av:e<=l:=by
     have hc:=A2b hc;have hc:=hc;lia
    refine xea (id hl) λq9 bj cd=>?_;have b5:l<=45:=by have:=(W.ok.lev bj).2;lia
    refine xw2 Z Z ⟨g,G,n,l+1,Z,W.gr,W.ok,hl,by lia,by lia,λA9 ks G3 H3 a3 bq al be l9 nine=>?_⟩;have a8:=hz.fr a3 bq al;have am:=a8.jw;have cg:=a8.sz fin
    skip
    have bh:∀(t k:Nat),ks[t]?=o3 k->Al G3 k ((l+2:Nat):Int):=λt k e=>by
     have ht:=(B9.mp e).1;refine AS (nine (t%3) (t/3) A0 A0) λk' e1 e2 _=>?_;rw[show t%3+3*(t/3)=t by lia,e]at e1;cases e1;exact e2
    have b4:∀(t k:Nat),ks[t]?=o3 k->Κ l e (CJ G3 (l+2) k):=λt k e=>by
     have ht:=(B9.mp e).1;refine AS (nine (t%3) (t/3) A0 A0) λk' e1 _ v=>?_;rw[show t%3+3*(t/3)=t by lia,e]at e1;cases e1;exact fin.ext (cl.nine1 a9 av (t%3) (t/3) A0 A0) λx y hx hy=>(v x y hx hy).symm
    refine⟨A9,Z,⟨_,SqL.of be⟩,?_⟩;refine Db (xs:=ks.map λ(k:Nat)=>V.int (k:Int)) (λi M H5=>∃(G5:Gv)(ys:J_)(c5:Nat),M=ys.map toV/\ys.length=i/\FrJ g m H3 H5/\JZ a H5 g G5 Κ N (b+5) p dx mem pr r m/\AK G3 G5 c5/\Up (l+1) G3 H3 H5 m/\Paired (λk y=>JR r G5 e k y) (ks.take i) ys) ⟨G3,[],0,Z,Z,λb o e _ _ _ _ _=>e,a8,AK.refl am.ok,Up.refl _ _ _ _,.nil⟩ (λi M H5 _ z=>by refine Fz z λ_ _ _ _ _ fr _=>?_;exact SqL.of ((fr.kps am.gr am.bs.long am.me) _ _ be (.lst (by rw[B8];lia)))) ?_ ?_
    .rintro i v M H5 ev ai;apply AT;intro S c;refine BV ai λG5 ys c5 aj ly a4 an I=>?_;refine xa2 I λR ba ax=>?_;clear I;clear ai;subst aj;apply c;clear c S;rw[C1]at ev;refine xea (D7.mp ev) λk5 ek ac=>?_;subst ac;have i9:i<9:=by have:=(B9.mp ek).1;lia
     have a7:=an.jw
     skip
     refine⟨⟨[o3 (.int (k5:Int))],Z,Z⟩,by rw[B8,ly];exact V5 i9 A6,FP (xwn Z Z a7.hp (MD _ _ _ _ _) Z (xq1 Z ⟨p,dx,mem,pr,g,G5,Κ,N,b+5,r,m,k5,l,e,Z,an,fin,cl,R.lev (bh i k5 ek),hL,av,(by rw[Dg am.ok R (bh i k5 ek)];exact b4 i k5 ek),by lia,λy G6 H6 c6 bn au bd b2 b8=>⟨G6,ys++[y],_,by rw[C7];rfl,by rw[C6,ly];rfl,a4.trans bn,au,R.trans bd,ba.trans b8 R,?_⟩⟩))⟩;rw[F4,ek,Q4];exact A4g (Paired.imp (λk y z=>z.goes a7.ok bd) ax) b2
    rintro M H5 ah A5 bp;apply AT;intro S c;refine BV ah λG5 ys c5 aj ly a4 an I=>?_;refine xa2 I λR ba ax=>?_;clear I;clear ah;subst aj;have a7:=an.jw;apply c;clear c S;rw[B8,l9]at ly;rw[B8,F8]at ax;have nj:=QZ am.ok R nine ax;apply AT;intro S c;refine xe5 (Wx ys ly) λy0 y1 y2 y3 y4 I=>?_;refine xe4 I λy5 y6 y7 y8 bc=>?_;clear I;subst bc;apply c;clear c S
    skip
    generalize dR:upd H5 A5 _=H6;obtain⟨s5,bf⟩:=alc bp dR;have au:=an.same s5;have bv:=au.jw;have bl:=(Fr.j a3).trans (a4.trans (Ay.j s5));refine xwm Z Z bv.gr.hp (BT g) (xq1 Z ⟨A5,y0,y1,y2,y3,y4,y5,y6,y7,y8,Z,bf,λMM t0 t1 t2 t3 H7 s7 hM bw bx bz b0=>?_⟩);have ao:=au.same s7;have Y:=ao.jw;refine⟨MM,Z,⟨_,SqL.of hM⟩,?_⟩;have four:=PB nj bw bx bz b0;have ab:=Y.ok;refine Db (xs:=[t0,t1,t2,t3].map V.ref) (λi M H8=>∃(X:Gv)(zs:J_),M=zs.map toV/\zs.length=i/\Fr g H7 H8/\JZ a H8 g X Κ N (b+5+i) p dx mem pr r m/\AK G5 X i/\∀(t z:Nat),zs[t]?=o3 z->Al X z ((l+1:Nat):Int)/\Vw X (Bu r (2^e) (CJ G (l+1+2) n)) (l+1) z (2^(l+1)*(t%2)+2^(l+1)) (2^(l+1)*(t/2)+2^(l+1))) ⟨G5,[],Z,Z,Fr.refl g H7,ao,AK.refl ab,λt z e=>(nomatch e)⟩ (λi M H8 _ z=>by refine CC z λ_ _ _ _ fr _=>?_;exact SqL.of ((fr.kps Y.gr Y.bs.long) _ _ hM (.lst (by show 4<=50;decide)))) ?_ ?_
    .rintro i v M H8 ev ai;apply AT;intro S c;refine CB ai λX zs ac lz ad D I=>?_;refine xa I λC vz=>?_;clear I;clear ai;subst ac;have ae:=D.jw;have ay:=D.sz fin;apply c;clear c S;rw[C1]at ev;refine xea (D7.mp ev) λtt et ac=>?_;subst ac;have i4:i<4:=(B9.mp et).1;apply AT;intro S c;obtain⟨f0,f1,f2,f3,b1,⟨m0,m1,m2,m3⟩,w0,w1,w2,w3⟩:=four i tt et;apply c;clear c S
     skip
     have qg:∀{f:Nat}(j:Nat),Al G5 f ((l+1:Nat):Int)->qO X f j=qO G5 f j:=λ{f} j h=>by
      refine xea h λq e _=>?_;unfold qO;rw[C.get e,e]
     refine⟨⟨[o3 (.ref tt)],Z,Z⟩,by rw[B8,lz];exact V5 i4 A6,FP (xw2 Z Z ⟨g,X,tt,f0,f1,f2,f3,l,Z,ae.gr,ae.ok,(ad.kps Y.gr Y.bs.long) _ _ b1 (.inl .tup),⟨C.lev m0,C.lev m1,C.lev m2,C.lev m3⟩,by lia,by lia,λz G9 H9 aw bt U e9=>⟨G9,zs++[z],by rw[C7];rfl,by rw[C6,lz];rfl,ad.trans aw,D.fr aw bt U,C.trans U,?_⟩⟩)⟩;rw[qg 3 m0,qg 2 m1,qg 1 m2,qg 0 m3]at e9;refine SO lz (λt z' e=>?_) ?_
     .obtain⟨q1,q2⟩:=vz t z' e;exact⟨U.lev q1,q2.goes ae.ok U q1⟩
     .exact⟨⟨_,e9,by show(l:Int)+1=((l+1:Nat):Int);lia⟩,(aBa ab (C.trans U) m0 m1 m2 m3 w0 w1 w2 w3 e9).at' A0 A0⟩
    rintro M H8 ah A8 a5;apply AT;intro S c;refine CB ah λX zs ac lz ad D I=>?_;refine xa I λC vz=>?_;clear I;clear ah;subst ac;have ae:=D.jw;have ay:=D.sz fin;apply c;clear c S;apply AT;intro S c;refine xe4 (Qe zs lz) λz0 z1 z2 z3 a1=>?_;subst a1;apply c;clear c S;have bo:=C;have D:JZ a H8 g X Κ N (b+5+4) p dx mem pr r m:=D;have ay:=D.sz fin;have aa:=(al.trans R).trans bo;have a2:FrJ g m H H8:=bl.trans ((Ay.j s7).trans (Fr.j ad));generalize dX:upd H8 A8 _=H9;obtain⟨s8,as⟩:=alc a5 dX;refine⟨A8,(xq1 Z (.inl ⟨SqL.of as,λu hu=>?_⟩))⟩;have af:=D.same s8;have ak:=af.jw;obtain⟨q0,x0⟩:=vz 0 z0 Z;obtain⟨q1,x1⟩:=vz 1 z1 Z;obtain⟨q2,x2⟩:=vz 2 z2 Z;obtain⟨q3,x3⟩:=vz 3 z3 Z
    skip
    refine lnk (⟨.refl _ _,λe=>e,ak.gr,.refl ak.ok⟩:Ln a g H9 X 0 H9 X) hu ⟨q0,q1,q2,q3⟩ A0 A0 λz az a0 ag O aq=>k z az a0 _ (a2.trans ((Ay.j s8).trans (Fr.j ag.fr))) ((af.fr ag.fr ag.gr O).mono A0) (aa.trans O) ?_ (((((hz.upF (l+1) a3).trans ba al).trans (an.upS _ s5) (al.trans R)).trans (au.upS _ s7) (al.trans R)).trans (((ao.upF _ ad).trans (D.upS _ s8) C).trans (af.upF _ ag.fr) C) (al.trans R));have ar:=aa.trans O;refine Vw.jr (ar.lev hl) he ⟨_,aq,by show((l+1:Nat):Int)+1=((l+1+1:Nat):Int);lia⟩ ?_;rw[Dg W.ok ar hl];exact NP ak.ok O q0 q1 q2 q3 (x0.at' A0 A0) (x1.at' A0 A0) (x2.at' A0 A0) (x3.at' A0 A0) aq
   .have av:e=l+1:=by
     have hc:¬(e:Int)<((l+1+2:Nat):Int)-2:=λz=>hc (A0d z);lia
    subst av;refine xwm Z Z W.gr.hp (BT g) (xwn Z Z W.hp (aBi _ _ _ _ _) Z (xq1 Z ⟨p,dx,mem,pr,g,G,Κ,N,b,r,m,n,l,Z,hz,fin,cl,hl,hL,a9,by lia,λA7 f0 f1 f2 f3 G5 H7 i5 bm ao R b9 bg b6 cb=>?_⟩));apply AT;intro S c;refine xa3 b6 λm0 m1 m2 m3=>xa3 cb λw0 w1 w2 w3=>?_;apply c;clear c S
    skip
    refine⟨A7,Z,⟨_,SqL.of bg⟩,?_⟩;have Y:=ao.jw;have ab:=Y.ok;have four:∀(t f:Nat),[f0,f1,f2,f3][t]?=o3 f->Al G5 f ((l+2:Nat):Int)/\Vw G5 (Bu r (2^l) (CJ G (l+1+2) n)) (l+2) f (2^(l+1)*(t%2)+2^l) (2^(l+1)*(t/2)+2^l):=λt f et=>by
     match t,et with
     |0,et=>cases et;exact⟨m0,w0.at' A0 A0⟩
     |1,et=>cases et;exact⟨m1,w1.at' A0 A0⟩
     |2,et=>cases et;exact⟨m2,w2.at' A0 A0⟩
     |3,et=>cases et;exact⟨m3,w3.at' A0 A0⟩
     |j+4,et=>cases et
    have bi:Bu r (2^l) (Bu r (2^l) (CJ G (l+1+2) n))=Bu r (2^(l+1)) (CJ G (l+1+2) n):=by
     rw[<-Te,p1,Nat.mul_two]
    refine Db (xs:=[f0,f1,f2,f3].map toV) (λi M H8=>∃(X:Gv)(zs:J_)(c8:Nat),M=zs.map toV/\zs.length=i/\FrJ g m H7 H8/\JZ a H8 g X Κ N (b+9) p dx mem pr r m/\AK G5 X c8/\Up (l+1) G5 H7 H8 m/\∀(t z:Nat),zs[t]?=o3 z->Al X z ((l+1:Nat):Int)/\Vw X (Bu r (2^(l+1)) (CJ G (l+1+2) n)) (l+1) z (2^(l+1)*(t%2)+2^(l+1)) (2^(l+1)*(t/2)+2^(l+1))) ⟨G5,[],0,Z,Z,λb o e _ _ _ _ _=>e,ao,AK.refl ab,Up.refl _ _ _ _,λt z e=>(nomatch e)⟩ (λi M H8 _ z=>by refine Fz z λ_ _ _ _ _ fr _=>?_;exact SqL.of ((fr.kps Y.gr Y.bs.long Y.me) _ _ bg (.lst (by show 4<=50;decide)))) ?_ ?_
    .rintro i v M H8 ev ai;apply AT;intro S c;refine BV ai λX zs c8 aj lz ad D I=>?_;refine xa2 I λC bb vz=>?_;clear I;clear ai;subst aj;have ae:=D.jw;have ay:=D.sz fin;apply c;clear c S;rw[C1]at ev;refine xea (D7.mp ev) λff et ac=>?_;subst ac;have i4:i<4:=(B9.mp et).1;obtain⟨mf,wf⟩:=four i ff et
     skip
     refine⟨⟨[o3 (toV ff)],Z,Z⟩,by rw[B8,lz];exact V5 i4 A6,FP (xwn Z Z ae.hp (MD _ _ _ _ _) Z (xwb Z Z Z ⟨p,dx,mem,pr,g,X,Κ,N,b+9,r,m,ff,l,l,(show [V.ref p,V.int (ff:Int),V.int (((l+1:Nat):Int)-1)]=[V.ref p,V.int (ff:Int),V.int (l:Int)] by rw[show((l+1:Nat):Int)-1=(l:Int) by lia]),D,fin,cl,C.lev mf,hL,C0 l,(by rw[Dg ab C mf];exact fin.ext (cl.four a9 (i%2) (i/2) A0 A0) λx y hx hy=>(wf x y hx hy).symm),by lia,λz G9 H9 c9 aw af U b3 ca=>⟨G9,zs++[z],_,by rw[C7];rfl,by rw[C6,lz];rfl,ad.trans aw,af,C.trans U,bb.trans ca C,?_⟩⟩))⟩;refine SO lz (λt z' e=>?_) ?_
     .obtain⟨q1,q2⟩:=vz t z' e;exact⟨U.lev q1,q2.goes ae.ok U q1⟩
     .refine xa2 (b3.view ((C.trans U).lev mf) (wf.goes ab (C.trans U) mf)) λr1 _ r3=>?_;rw[bi]at r3;exact⟨r1,r3.at' A0 A0⟩
    rintro M H8 ah A8 a5;apply AT;intro S c;refine BV ah λX zs c8 aj lz ad D I=>?_;refine xa2 I λC bb vz=>?_;clear I;clear ah;subst aj;have ae:=D.jw;have ay:=D.sz fin;apply c;clear c S;apply AT;intro S c;refine xe4 (Qe zs lz) λz0 z1 z2 z3 a1=>?_;subst a1;apply c;clear c S;have aa:=R.trans C;have a2:=bm.trans ad;generalize dX:upd H8 A8 _=H9;obtain⟨s8,as⟩:=alc a5 dX;refine⟨A8,(xq1 Z (.inl ⟨SqL.of as,λu hu=>?_⟩))⟩;have af:=D.same s8;have ak:=af.jw;obtain⟨q0,x0⟩:=vz 0 z0 Z;obtain⟨q1,x1⟩:=vz 1 z1 Z;obtain⟨q2,x2⟩:=vz 2 z2 Z;obtain⟨q3,x3⟩:=vz 3 z3 Z
    skip
    refine lnk (⟨.refl _ _,λe=>e,ak.gr,.refl ak.ok⟩:Ln a g H9 X 0 H9 X) hu ⟨q0,q1,q2,q3⟩ A0 A0 λz az a0 ag O aq=>k z az a0 _ (a2.trans ((Ay.j s8).trans (Fr.j ag.fr))) ((af.fr ag.fr ag.gr O).mono A0) (aa.trans O) ?_ ((b9.trans bb R).trans ((D.upS _ s8).trans (af.upF _ ag.fr) (AK.refl ae.ok)) aa);have ar:=aa.trans O;refine Vw.jr (ar.lev hl) he ⟨_,aq,by show((l+1:Nat):Int)+1=((l+1+1:Nat):Int);lia⟩ ?_;rw[Dg W.ok ar hl];exact NP ak.ok O q0 q1 q2 q3 (x0.at' A0 A0) (x1.at' A0 A0) (x2.at' A0 A0) (x3.at' A0 A0) aq
theorem aCh(F:Fun K "reckoned" "Jumps.reckoned" Dw f fd)(T:Top K mg a)(dF:BR P w K mg n9 CX0 d a.M3 "fresh" QG (UU a L)):AL P w K mg n9 CX0 (d+1) f fd QG (GT a L):=by
 refine F.ok Ej (λvs H Q E h=>?_) (λaf A ad s H vs Q E hr h=>?_)
 .apply AT;intro j c;obtain⟨p,dx,mem,pr,g,G,Κ,N,b,r,m,n,l,e,rfl,_⟩:=h;apply c;clear c j;rfl
 .apply AT;intro j c;obtain⟨p,dx,mem,pr,g,G,Κ,N,b,r,m,n,l,e,rfl,hz,fin,cl,W,hL,he,X,few,k⟩:=h;have u:=hz.jw;have sz:=hz.sz fin;apply c;clear c j;refine xea (id W) λq eq el=>?_;have ak:=(u.ok.lev eq).2;have ab:e<m.ds.length:=by rw[u.me.len];lia
  obtain⟨d,C⟩:∃d,m.ds[e]?=o3 d:=⟨m.ds[e]'ab,C5 _⟩
  apply AT;intro j c;refine Dh (u.me.sq e d C) λkv hd dl dk dv=>?_;apply c;clear c j;refine⟨_,(Ac (Ao (i:=3) Ej.nd Z O_9 (JN (Ed hr) (Aj Ax (AC (pv 0) Z) (pv 2) R_9) (pv 1) ⟨Z,Z,Z,Z⟩)) (Ac (AO (AA Ji (pv 3) DE (AF _)) (Ac (Ao (i:=3) Ej.nd Z O_9 (AD (pv 0) dF (rm hr) Am (Aa (pv 1) (Aa (pv 2) Ab)))) (Ag (FH (Ed hr) (Aj Ax (AC (pv 0) Z) (pv 2) R_9) (pv 1) (pv 3) Z))) Az) (Ag (Aw (pv 3))))),?_⟩
  try dsimp only[cxK]
  have R:atI (m.ds.map V.ref) (e:Int)=o3 (.ref d):=Ai (by rw[C1,C];rfl);refine xwf Z Z u.hp T.Q1 T.Z_ (aBL _ _ _ _ _) (xwi Z Z Z (SqL.of u.me.l) R ⟨d,Z,.inl ⟨_,.inl hd⟩,(xq1 Z ⟨_,GC.k (k:=Sum.inl (n:Int)) hd,?_⟩)⟩);apply Rb (fun σ O=>∃(x:Nat)(B:Gv),σ=[o3 (.ref p),o3 (.int (n:Int)),o3 (.int (e:Int)),o3 (.int (x:Int))]/\FrJ g m H O/\JZ a O g B Κ N b p dx mem pr r m/\(∃i,AK G B i)/\JR r B e n x/\Up (l+1) G H O m)
  .intro y;refine xq1 Z ⟨Z,(xq1 Z ?_)⟩;cases ev:BK kv (Sum.inl (n:Int))with
   |some v =>
    refine xea (dv n v ev) λx aa jr=>?_;subst aa;exact Bc (y _ _ ⟨x,G,Z,λb o e _ _ _ _ _=>e,hz,⟨0,AK.refl u.ok⟩,jr,Up.refl _ _ _ _⟩)
   |none =>
    refine Cr (xwn Z Z u.hp (Yv _ _ _ _ _) Z (xq1 Z ⟨p,dx,mem,pr,g,G,Κ,N,b,r,m,n,l,e,Z,hz,fin,cl,W,hL,he,X,few,λx B H' i' fr t M jr up=>?_⟩));apply AT;intro j c;have I:=t.jw;refine Dh (I.me.sq e d C) λY D ah ag ai=>?_;apply c;clear c j;refine xw2 Z Z (xq5 I.hp T.Q1 T.Z_ (aBL _ _ _ _ _) (xwi Z Z Z (SqL.of I.me.l) R (xq1 Z ⟨d,(xq1 Z ⟨Mm.k (k:=Sum.inl (n:Int)) D (F7 (show Y.length<=9000000 by lia) A6),?_⟩)⟩)));have ac:=up e n l W (C0 l) (λd2 aj S U=>by rw[C]at S;cases S;rw[hd]at U;cases U;exact ev) d Y C D;obtain⟨z1,z2⟩:=t.put fin C D ac (M.lev W) (by rw[Dg u.ok M W];exact X) jr;exact y _ _ ⟨x,B,Z,λb o e n1 n2 n3 n4 n5=>by rw[Av (λz=>n5 (by rw[z];exact D5 C))];exact fr _ _ e n1 n2 n3 n4 n5,z1,⟨i',M⟩,jr,(up.mono (S7 l)).trans z2 M⟩
  rintro σ O ae;apply AT;intro j c;obtain⟨x,B,rfl,fr,t,⟨i',M⟩,jr,up⟩:=ae;apply c;clear c j;exact xq1 Z (k x B O i' fr t M jr up)
theorem Ww{x q o:E_}(F:Fun K "reckoned" "Jumps.reckoned" Dw f x)(A:Fun K "four_halfway" "Jumps.four_halfway" Bv M q)(z:Fun K "fresh" "Jumps.fresh" Cw I o)(T:Top K mg a)(B:Qs K a.M3 "reckoned" f)(y:CM K x QG [])(j:Qs K a.M3 "four_halfway" M)(d:CM K q QG [])(i:Qs K a.M3 "fresh" I)(c:CM K o QG [])(C:BR P w K mg n9 CX0 7 a.M3 "middle_after" Lg (RI a))(t:BR P w K mg n9 CX0 2 a.J5 "linked" Ba (EA a))(u:Cal P w K mg n9 CX0 3 "nine_parts" Lr (OY a))(v:Cal P w K mg n9 CX0 1 "fours_of" Vm Mp)(D:Cal P w K mg n9 CX0 3 "met_in_the_middle" CH (Wh a)):∀L,AL P w K mg n9 CX0 (10+3*L) f x QG (GT a L)
|0=>(AL.no (k:=10)).imp λvs H Q E h=>by
 apply AT;intro O s;obtain⟨p,X,mem,Y,g,G,Κ,N,b,r,m,n,l,e,_,_,_,_,_,V,_⟩:=h;apply s;clear s O;exact absurd V (N5 l)
|L+1=>by
 have W:=Ww F A z T B y j d i c C t u v D L;have M1:BR P w K mg n9 CX0 (10+3*L) a.M3 "reckoned" QG (GT a L):=⟨⟨_,_,W,B,y⟩,T.Q1⟩
 have S:=aBs A T A0 u v t M1;have M2:BR P w K mg n9 CX0 (10+3*L+1) a.M3 "four_halfway" QG (RL a L):=⟨⟨_,_,S,j,d⟩,T.Q1⟩
 have U:=aCb z T A0 C t u v D M1 M2;have R:BR P w K mg n9 CX0 (10+3*L+2) a.M3 "fresh" QG (UU a (L+1)):=⟨⟨_,_,U,i,c⟩,T.Q1⟩
 exact aCh F T R
theorem Yq(F:Fun K "after" "Jumps.after" Ib f fd)(T:Top K mg a)(S:4<=d)(C:BR P w K mg n9 CX0 4 a.M3 "check_jump" QG (aGs a))(B:BR P w K mg n9 CX0 d a.M3 "reckoned" QG (GT a L)):AL P w K mg n9 CX0 (d+1) f fd QG (GT a L):=by
 refine F.ok Pi (λvs H Q E h=>?_) (λD A v s H vs Q E z h=>?_)
 .apply AT;intro j c;obtain⟨p,o,mem,x,g,G,Κ,N,b,r,m,n,l,e,rfl,_⟩:=h;apply c;clear c j;rfl
 .apply AT;intro j c;obtain⟨p,o,mem,x,g,G,Κ,N,b,r,m,n,l,e,rfl,t,fin,I,y,O,R,u,few,k⟩:=h;have i:=t.jw;have sz:=t.sz fin;refine xea (id y) λq eq M=>?_;apply c;clear c j;refine⟨_,(Ac (Bp (AD (pv 0) C (rm z) Am (Aa (pv 1) (Aa (pv 2) Ab)))) (Ag (Aw (AD (pv 0) B (rm z) Am (Aa (pv 1) (Aa (pv 2) Ab)))))),?_⟩
  try dsimp only[cxK]
  refine xwn Z Z i.hp (Yw _ _ _ _ _) Z (xq1 Z ⟨p,o,g.p,mem,x,m.l,m.kc,g,G,n,e,q,Z,i.hp,i.gr,eq,by rw[M];lia,?_⟩);exact xwn Z Z i.hp (MD _ _ _ _ _) Z (xq1 Z ⟨p,o,mem,x,g,G,Κ,N,b,r,m,n,l,e,Z,t,fin,I,y,O,R,u,few,k⟩)
end
theorem De(l:Nat):(2:Int)^(l+1)=2^l+2^l:=by rw[Z5];lia
def JD(x y w h r:Int):Prop:=-r<=x/\-r<=y/\x+w<=r/\y+h<=r
instance(x y w h r:Int):Decidable (JD x y w h r):=by unfold JD;infer_instance
theorem aEO(x y w h r:Int):(decide (-r<=x) && (decide (-r<=y) && (decide (x+w<=r) && decide (y+h<=r))))=decide (JD x y w h r):=by
 rw[S1];simp only[Q0,A8b];exact Iff.rfl
structure Wid(G:Gv)(n f w:Nat):Prop where
ex:∃(q:Sq)(x y z v a b c d:Nat),IC G n f q x y z v/\G[a]?=o3 ⟨[(bareN n:Int),(bareN n:Int),(bareN n:Int),(x:Int)],(n:Int)+1⟩/\G[b]?=o3 ⟨[(bareN n:Int),(bareN n:Int),(y:Int),(bareN n:Int)],(n:Int)+1⟩ /\
 G[c]?=o3 ⟨[(bareN n:Int),(z:Int),(bareN n:Int),(bareN n:Int)],(n:Int)+1⟩/\G[d]?=o3 ⟨[(v:Int),(bareN n:Int),(bareN n:Int),(bareN n:Int)],(n:Int)+1⟩/\G[w]?=o3 ⟨[(a:Int),(b:Int),(c:Int),(d:Int)],(n:Int)+2⟩
theorem Wid.lev(h:Wid G n f w):Al G w ((n+2:Nat):Int):=by
 refine xe5 h.ex λq x y z v e=>?_;refine Cm e λa b c d o j k l g=>?_;refine xa g λm i=>?_;exact⟨_,i,by show(n:Int)+2=_;lia⟩
theorem Wid.app{G j:Gv}{k n f w:Nat}(e:AK G j k)(h:Wid G n f w):Wid j n f w:=by
 refine xe5 h.ex λq x y z v g=>?_;refine Cm g λa b c d s l m o i=>?_;refine xa i λp r=>?_;exact⟨q,x,y,z,v,a,b,c,d,s.app e,e.get l,e.get m,e.get o,e.get p,e.get r⟩
theorem IB(e:G=G0++r)(h:n<=48):Al G (bareN n) (n:Int):=by
 rw[e];exact(aBB n h).app
theorem aAD(h:l<=48):((Du 48).map V.int)[l]?=o3 (.int (bareN l:Int)):=by
 unfold Du;rw[C1,C1,R4 A0];rfl
section
variable{P:N_}{w:Q_}{K:O_}{mg:C_}{n9:T_}{a:Ad}
inductive aDE(vs:List V)(H:Hp)(Q:VK):Prop
|mk (t:R_) (x y w h r:Int) (_:vs=[.ref t,.int r]) (_:H t=o3 (.tup [.int x,.int y,.int w,.int h])) (_:Q (.bl (decide (JD x y w h r))) H):aDE vs H Q
def Tm:Sp:=λvs H Q _=>aDE vs H Q
theorem aEb(F:Fun K "lies_within" "lies_within" GY f fd)(T:Top K mg a):AL P w K mg n9 CX0 1 f fd QD Tm:=by
 refine F.ok Pf D_9 λd A c s H vs Q E p h=>?_
 obtain⟨t,x,y,q,o,r,rfl,b,k⟩:=h;rw[<-aEO]at k;refine⟨_,(Ag (Aw (Md (EU JY (Fc Dm (pv 1)) (Aj An (pv 0) Ae R_9) (AF _)) (Md (EU JY (Fc Dm (pv 1)) (Aj An (pv 0) Ae R_9) (AF _)) (Md (EU JY (AG AQ (Aj An (pv 0) Ae R_9) (Aj An (pv 0) Ae R_9)) (pv 1) (AF _)) (Nt (EU JY (AG AQ (Aj An (pv 0) Ae R_9) (Aj An (pv 0) Ae R_9)) (pv 1) (AF _)))))))),?_⟩
 try dsimp only[cxK]
 refine xw3 Z Z Z (xq4 Z Z (SqT.of b) (Ai (j:=0) Z) (xq2 Z Z (OT (λ_ l e=>?_) k)));refine xw3 Z Z Z (xq4 Z Z (SqT.of b) (Ai (j:=1) Z) (xq2 Z Z (OT (λ_ m g=>?_) e)));refine xwi Z Z Z (SqT.of b) (Ai (j:=0) Z) (xwi Z Z Z (SqT.of b) (Ai (j:=2) Z) (xq2 Z Z (xwb Z Z Z (OT (λ_ n i=>?_) g))));exact xwi Z Z Z (SqT.of b) (Ai (j:=1) Z) (xwi Z Z Z (SqT.of b) (Ai (j:=3) Z) (xq2 Z Z (xwb Z Z Z i)))
inductive WR(a:Ad)(vs:List V)(H:Hp)(Q:VK):Prop
|mk (g:GA) (G:Gv) (i n:Nat) (_:vs=[.ref g.p,.int i]) (_:AJ a H g G) (_:Al G i ((n+1:Nat):Int)) (_:n<48) (_:Q (.int (2^n)) H):WR a vs H Q
def IG(a:Ad):Sp:=λvs H Q _=>WR a vs H Q
theorem aBx(F:Fun K "reach_of" "reach_of" LS f fd)(T:Top K mg a)(d:BR P w K mg n9 CX0 3 a.J5 "level_of" Lg (Ob a)):AL P w K mg n9 CX0 4 f fd Vj (IG a):=by
 refine F.ok Tq D_9 λj A b s H vs Q E o h=>?_
 obtain⟨g,G,i,n,rfl,c,⟨q,e,l⟩,p,k⟩:=h;refine⟨_,(Ag (Aw (AG NA Ae (AG Cg (AD (pv 0) d (rm o) Am (Aa (pv 1) Ab)) Ae)))),?_⟩
 try dsimp only[cxK]
 have m:q.lev=(n:Int)+1:=by rw[l];lia
 refine xwn Z Z c.hp (EL g) Z ⟨g,G,i,q,Z,c,e,(xq2 Z Z (xq2 Z Z ⟨⟨by lia,by lia,by decide⟩,?_⟩))⟩;show Q (.int (1*2^(q.lev-1).toNat)) H;rw[RE n m];exact k
inductive Ya(a:Ad)(vs:List V)(H:Hp)(Q:VK):Prop
|mk (g:GA) (G:Gv) (_:vs=[.ref g.p]) (_:AX a H g G) (_:Q (.int (bareN 1:Int)) H):Ya a vs H Q
def OD(a:Ad):Sp:=λvs H Q _=>Ya a vs H Q
theorem aBm(F:Fun K "bare_field" "bare_field" IO f fd)(T:Top K mg a):AL P w K mg n9 CX0 1 f fd Si (OD a):=by
 refine F.ok Qw D_9 λd A b s H vs Q E e h=>?_
 obtain⟨g,G,rfl,c,k⟩:=h;exact⟨_,(Ag (Aw (Aj Ax (AC (pv 0) Z) (BZ Z T.h_) R_9))),(xwf Z Z c.at'.hp T.J4 T.U_ (Jm g) (xq4 Z Z (SqL.of c.br) (Ai (j:=1) (aAD A0)) k))⟩
inductive aDS(a:Ad)(vs:List V)(H:Hp)(Q:VK):Prop
|mk (g:GA) (G:Gv) (f n:Nat) (_:vs=[.ref g.p,.int f]) (_:AX a H g G) (_:Al G f ((n+1:Nat):Int)) (_:n<47) (_:G.length<8900000) (_:∀(w:Nat)(G':Gv)(H':Hp),Fr g H H'->AJ a H' g G'->AK G G' 5->Wid G' n f w->Q (.int w) H'):aDS a vs H Q
def We(a:Ad):Sp:=λvs H Q _=>aDS a vs H Q
theorem aEp(F:Fun K "widened" "widened" Ni f fd)(T:Top K mg a)(a7:BR P w K mg n9 CX0 3 a.J5 "level_of" Lg (Ob a))(N:BR P w K mg n9 CX0 2 a.J5 "linked" Ba (EA a)):AL P w K mg n9 CX0 4 f fd Lr (We a):=by
 refine F.ok IH D_9 λar A aq s H vs Q E M h=>?_
 obtain⟨g,G,f',n,rfl,d,hl,as,few,k⟩:=h;refine xe5 (BC d.ok hl) λq x y z v u=>?_;have lq:=u.lev;refine xea d.at'.pt λts h3 h4=>xea (PairedM.get h4 u.g) λt et I=>?_;have I:H t=o3 (.tup [.int x,.int y,.int z,.int v]):=by
  have I:H t=o3 (.tup (q.parts.map V.int)):=I;rw[u.ps]at I;exact I
 obtain⟨r,e0⟩:=d.g0;have m:=IB e0 (n:=n) A0;refine⟨_,(Ac (Ao (i:=2) IH.nd Z O_9 (AD (pv 0) a7 (rm M) Am (Aa (pv 1) Ab))) (Ac (AO (PW.pt (Jv (AA GN (pv 2) (BZ Z T.h_) (AF _)) (Gd (AA Dj (pv 2) (BZ Z T.m_) (AF _))))) (Ag Bk) Az) (Ac (Ao (i:=3) IH.nd Z O_9 (Aj Ax (AC (pv 0) Z) (pv 1) R_9)) (Ac (Ao (i:=4) IH.nd Z O_9 (Aj Ax (AC (pv 0) Z) (AG Cg (pv 2) Ae) R_9)) (Ag (Aw (AD (pv 0) N (rm M) Am (AZ (Aa (AD (pv 0) N (rm M) Am (AZ (Aa (pv 4) (Aa (pv 4) (Aa (pv 4) (Aa (Aj An (pv 3) Ae R_9) Ab)))) Ab)) (Aa (AD (pv 0) N (rm M) Am (AZ (Aa (pv 4) (Aa (pv 4) (Aa (Aj An (pv 3) Ae R_9) (Aa (pv 4) Ab)))) Ab)) (Aa (AD (pv 0) N (rm M) Am (AZ (Aa (pv 4) (Aa (Aj An (pv 3) Ae R_9) (Aa (pv 4) (Aa (pv 4) Ab)))) Ab)) (Aa (AD (pv 0) N (rm M) Am (AZ (Aa (Aj An (pv 3) Ae R_9) (Aa (pv 4) (Aa (pv 4) (Aa (pv 4) Ab)))) Ab)) Ab)))) Ab)))))))),?_⟩
 try dsimp only[cxK]
 refine xq1 Z ⟨g.p,g.dx,(xq1 Z ⟨d.at'.hp,EL g,(xq1 Z ⟨g,G,f',q,Z,d.at',u.g,?_⟩)⟩)⟩;refine xwb Z Z Z (xq1 Z ?_);rw[A0f (by lia:¬q.lev<1)];refine Bc (xq1 Z ⟨Z,(xq1 Z ?_)⟩);rw[A0f (by intro z;injection z with z;lia)];refine Bc (xwf Z Z d.at'.hp T.J4 T.L0 (Cz g) (xwi Z Z Z (SqL.of h3) (Ai (by rw[C1,et];rfl)) ?_));refine xwf Z Z d.at'.hp T.J4 T.U_ (Jm g) (xwb Z Z Z (xq4 Z Z (SqL.of d.br) (by rw[show q.lev-1=(n:Int) by lia];exact Ai (aAD A0)) ?_));refine xq1 Z ⟨g.p,g.dx,(xq1 Z ⟨d.at'.hp,BT g,?_⟩)⟩;refine xq1 Z ⟨g.p,g.dx,(xq1 Z ⟨d.at'.hp,BT g,(xw3 Z Z Z (xwi Z Z Z (SqT.of I) (Ai (j:=0) Z) ⟨S_4,λt1 ah=>?_⟩))⟩)⟩;have s1:=AM (o:=.tup [.int (bareN n:Int),.int (bareN n:Int),.int (bareN n:Int),.int x]) ah;refine⟨g,G,t1,bareN n,bareN n,bareN n,x,(n:Int),Z,d.at'.same s1,d.ok,Af,⟨m,m,m,u.hx⟩,by lia,by lia,λW G1 H1 aa R e e1=>?_⟩;have f1:=(Ay.fr s1).trans aa;have am:=f1.tup d.at' I;have n1:=e.few;refine xwn Z Z R.hp (BT g) Z (xwj Z Z Z Z (SqT.of am) (Ai (j:=1) Z) (xq1 Z ⟨S_4,λt2 ai=>?_⟩));have s2:=AM (o:=.tup [.int (bareN n:Int),.int (bareN n:Int),.int y,.int (bareN n:Int)]) ai;refine⟨g,G1,t2,bareN n,bareN n,y,bareN n,(n:Int),Z,R.same s2,e.ok,Af,⟨e.lev m,e.lev m,e.lev u.hy,e.lev m⟩,by lia,by lia,λX G2 H2 ab S D e2=>?_⟩;have f2:=f1.trans ((Ay.fr s2).trans ab);have an:=f2.tup d.at' I;have n2:=D.few;have b:=e.trans D;refine xwn Z Z S.hp (BT g) Z (xwi Z Z Z (SqT.of an) (Ai (j:=2) Z) (xw2 Z Z ⟨S_4,λt3 aj=>?_⟩));have s3:=AM (o:=.tup [.int (bareN n:Int),.int z,.int (bareN n:Int),.int (bareN n:Int)]) aj;refine⟨g,G2,t3,bareN n,z,bareN n,bareN n,(n:Int),Z,S.same s3,D.ok,Af,⟨b.lev m,b.lev u.hz,b.lev m,b.lev m⟩,by lia,by lia,λY G3 H3 ac U B e3=>?_⟩;have f3:=f2.trans ((Ay.fr s3).trans ac);have ao:=f3.tup d.at' I;have n3:=B.few;have c:=b.trans B;refine xwn Z Z U.hp (BT g) Z (xq4 Z Z (SqT.of ao) (Ai (j:=3) Z) (xw3 Z Z Z ⟨S_4,λt4 ak=>?_⟩));have s4:=AM (o:=.tup [.int v,.int (bareN n:Int),.int (bareN n:Int),.int (bareN n:Int)]) ak;refine⟨g,G3,t4,v,bareN n,bareN n,bareN n,(n:Int),Z,U.same s4,B.ok,Af,⟨c.lev u.hw,c.lev m,c.lev m,c.lev m⟩,by lia,by lia,λa4 G4 H4 ad af l e4=>?_⟩;have f4:=f3.trans ((Ay.fr s4).trans ad);have n4:=l.few;have O:=c.trans l;refine⟨S_4,λt5 al=>?_⟩;have s5:=AM (o:=.tup [.int W,.int X,.int Y,.int a4]) al;have E1:=(D.trans (B.trans l)).get e1;have E2:=(B.trans l).get e2;have E3:=l.get e3;refine⟨g,G4,t5,W,X,Y,a4,(n:Int)+1,Z,af.same s5,l.ok,Af,⟨⟨_,E1,Z⟩,⟨_,E2,Z⟩,⟨_,E3,Z⟩,⟨_,e4,Z⟩⟩,by lia,by lia,λw' G5 H5 ae ag C e5=>?_⟩;have L:=O.trans C;exact k w' G5 H5 (f4.trans ((Ay.fr s5).trans ae)) ag L ⟨q,x,y,z,v,W,X,Y,a4,u.app L,C.get E1,C.get E2,C.get E3,C.get e4,by rw[e5,show(n:Int)+1+1=(n:Int)+2 by lia]⟩
end
structure OA(G:Gv)(n i:Nat)(qs:L_)(ps:Nat->Nat->Nat):Prop where
node:∃q,IC G (n+1) i q (qs 0) (qs 1) (qs 2) (qs 3)
sub:∀k,k<4->∃q,IC G n (qs k) q (ps k 0) (ps k 1) (ps k 2) (ps k 3)
theorem OA.app{k n i:Nat}(c:AK G b k)(h:OA G n i qs d):OA b n i qs d:=by
 obtain⟨q,a⟩:=h.node;exact⟨⟨q,a.app c⟩,λk e=>by obtain⟨q,a⟩:=h.sub k e;exact⟨q,a.app c⟩⟩
noncomputable def f4(x y z w:Nat)(k:Nat):Nat:=match k with|0=>x|1=>y|2=>z|_=>w
theorem aCA(ok:GOk G)(h:Al G i ((n+2:Nat):Int)):∃qs e,OA G n i qs e:=by
 refine xe5 (BC ok (n:=n+1) h) λq x y z w a=>xe5 (BC ok a.hx) λ_ m o p r nx=>xe5 (BC ok a.hy) λ_ s t u v c=>xe5 (BC ok a.hz) λ_ A B C D d=>xe5 (BC ok a.hw) λ_ f g j l nw=>⟨f4 x y z w,λk=>match k with|0=>f4 m o p r|1=>f4 s t u v|2=>f4 A B C D|_=>f4 f g j l,⟨q,a⟩,λk b=>?_⟩
 match k,b with
 |0,_=>exact⟨_,nx⟩
 |1,_=>exact⟨_,c⟩
 |2,_=>exact⟨_,d⟩
 |3,_=>exact⟨_,nw⟩
theorem IC.nat{q:Sq}{x y z w:Nat}(h:IC G n i q x y z w){j:Nat}(a:j<4):q.parts[j]?=o3 ((f4 x y z w j:Nat):Int)/\Al G (f4 x y z w j) n:=by
 rw[h.ps]
 match j,a with
 |0,_=>exact⟨Z,h.hx⟩
 |1,_=>exact⟨Z,h.hy⟩
 |2,_=>exact⟨Z,h.hz⟩
 |3,_=>exact⟨Z,h.hw⟩
theorem Qi(p:L_){j:Nat}(a:j<4):f4 (p 0) (p 1) (p 2) (p 3) j=p j:=by
 match j,a with
 |0,_=>rfl
 |1,_=>rfl
 |2,_=>rfl
 |3,_=>rfl
def BA(n:Nat)(ps:Nat->Nat->Nat):Prop:=∀k j,k<4->j<4->j+k≠3->ps k j=bareN n
def FD(G:Gv):Nat->Nat->Nat->Prop
|0,_,_=>False
|1,f,r=>r=f
|n+2,f,r=>∃qs ps,OA G n f qs ps/\((¬BA n ps/\r=f)\/(BA n ps/\∃m,G[m]?=o3 ⟨[(ps 0 3:Int),(ps 1 2:Int),(ps 2 1:Int),(ps 3 0:Int)],(n:Int)+1⟩/\FD G (n+1) m r))
theorem FD.app{k:Nat}(a:AK G b k):∀{n f r:Nat},FD G n f r->FD b n f r
|0,_,_,h=>h
|1,_,_,h=>h
|n+2,f,r,h=>by
 refine BJ h λqs i d h=>⟨qs,i,d.app a,?_⟩
 rcases h with h|⟨c,m,e,g⟩
 .exact .inl h
 .exact .inr ⟨c,m,a.get e,FD.app a g⟩
section
variable{P:N_}{w:Q_}{K:O_}{mg:C_}{n9:T_}{a:Ad}
theorem GK{H:Hp}{g:GA}{G:Gv}(h:AJ a H g G){n i:Nat}{q:Sq}{x y z w:Nat}(d:IC G n i q x y z w):∃(c:H_)(t:R_),H g.pt=o3 (.lst (c.map V.ref))/\(c.map V.ref)[i]?=o3 (.ref t)/\H t=o3 (.tup [.int x,.int y,.int z,.int w]):=by
 refine xea h.pt λc f j=>xea (PairedM.get j d.g) λt e b=>⟨c,t,f,by rw[C1,e];rfl,?_⟩
 have b:H t=o3 (.tup (q.parts.map V.int)):=b;rw[d.ps]at b;exact b
inductive aDK(a:Ad)(vs:List V)(H:Hp)(Q:VK):Prop
|mk (g:GA) (G:Gv) (i n:Nat) (qs:L_) (ps:Nat->Nat->Nat) (_:vs=[.ref g.p,.int i]) (_:AJ a H g G) (_:GOk G) (_:OA G n i qs ps) (_:n<47) (_:G.length<8900000) (_:∀(m:Nat)(G':Gv)(H':Hp),Fr g H H'->AJ a H' g G'->AK G G' 1->G'[m]?=o3 ⟨[(ps 0 3:Int),(ps 1 2:Int),(ps 2 1:Int),(ps 3 0:Int)],(n:Int)+1⟩->Q (.int m) H'):aDK a vs H Q
def Zy(a:Ad):Sp:=λvs H Q _=>aDK a vs H Q
theorem aEh(F:Fun K "middle_of" "middle_of" GH f fd)(T:Top K mg a)(a6:BR P w K mg n9 CX0 2 a.J5 "linked" Ba (EA a)):AL P w K mg n9 CX0 3 f fd Lr (Zy a):=by
 refine F.ok Ms D_9 λae A ab s H vs Q E hr h=>?_
 obtain⟨g,G,i,n,qs,d,rfl,I,ok,D,af,few,k⟩:=h;obtain⟨q,nd⟩:=D.node;refine AN (GK I nd) λts t U et ht=>⟨_,(Ac (DS (i:=2) Z Ms.nd Z Z (Bn.of (So:=Ah GH) (No:=Oh) (N:=["quarter","grove"]) (k:=1) (cs:=[0]) Z Z A3) (Po (Aj Ax (AC (pv 0) Z) (pv 1) R_9)) (λ_ _ _=>(AY (i:=0) A3 Z Z)) (λ_ _ _=>BB) (λ_ _ _=>(Aj (aBI (K:=K) Z) (RX (K:=K) Z (pv 1) Z) (pv 0) R_9))) (Ag (Aw (AD (pv 0) a6 (rm hr) Am (AZ (Aa (Aj An (Aj Ax (pv 2) Ae R_9) Ae R_9) (Aa (Aj An (Aj Ax (pv 2) Ae R_9) Ae R_9) (Aa (Aj An (Aj Ax (pv 2) Ae R_9) Ae R_9) (Aa (Aj An (Aj Ax (pv 2) Ae R_9) Ae R_9) Ab)))) Ab))))),?_⟩
 refine xwf Z Z I.hp T.J4 T.L0 (Cz g) (xwi Z Z Z (SqL.of U) (Ai et) ⟨t,Z,⟨_,SqT.of ht⟩,?_⟩);have b:∀k,k<4->∃tk,(ts.map V.ref)[qs k]?=o3 (.ref tk)/\H tk=o3 (.tup [.int (d k 0),.int (d k 1),.int (d k 2),.int (d k 3)]):=λk hk=>by
  obtain⟨qk,aa⟩:=D.sub k hk;refine AN (GK I aa) λag tk r S X=>?_;rw[U]at r;have r:=HO.lst.inj (A1d r);exact⟨tk,by rw[r];exact S,X⟩
 refine xea (b 0 A6) λu e0 p0=>xea (b 1 A6) λx e1 p1=>xea (b 2 A6) λy e2 p2=>xea (b 3 A6) λB e3 p3=>?_;have all:∀(j:Nat)(v:V),[V.int (qs 0:Int),V.int (qs 1:Int),V.int (qs 2:Int),V.int (qs 3:Int)][j]?=o3 v->∃(k:Nat)(tk:R_),v=.int (k:Int)/\(ts.map V.ref)[k]?=o3 (.ref tk)/\[V.ref u,V.ref x,V.ref y,V.ref B][j]?=o3 (.ref tk):=λj v c=>by
  match j,c with
  |0,c=>cases c;exact⟨qs 0,u,Z,e0,Z⟩
  |1,c=>cases c;exact⟨qs 1,x,Z,e1,Z⟩
  |2,c=>cases c;exact⟨qs 2,y,Z,e2,Z⟩
  |3,c=>cases c;exact⟨qs 3,B,Z,e3,Z⟩
  |j+4,c=>simp at c
 refine OQ (xs:=[.int (qs 0:Int),.int (qs 1:Int),.int (qs 2:Int),.int (qs 3:Int)]) (λj p O=>H=O/\p=[V.ref u,V.ref x,V.ref y,V.ref B].take j) ⟨Z,Z⟩ (λj p O _ z=>z.1▸SqT.of ht) ?_ ?_
 .intro j v p O c ac;obtain⟨rfl,rfl⟩:=ac;refine AN (all j v c) λk' tk R ek el=>?_;subst R;refine⟨⟨[o3 (.int k')],Z,Z⟩,by rw[J3];exact Fe (by show min j 4<10000000;lia),FP (xwf Z Z I.hp T.J4 T.L0 (Cz g) (xwi Z Z Z (SqL.of U) (Ai ek) ⟨Z,?_⟩))⟩;rw[F4,el];rfl
 .intro p O ad L hL;obtain⟨rfl,rfl⟩:=ad;have C:=AM (o:=.lst [V.ref u,V.ref x,V.ref y,V.ref B]) hL;have l:upd H L (.lst [V.ref u,V.ref x,V.ref y,V.ref B]) L=o3 (.lst [V.ref u,V.ref x,V.ref y,V.ref B]):=Af;rw[show(List.take [V.int (qs 0:Int),V.int (qs 1:Int),V.int (qs 2:Int),V.int (qs 3:Int)].length [V.ref u,V.ref x,V.ref y,V.ref B])=[V.ref u,V.ref x,V.ref y,V.ref B]from rfl];generalize upd H L (.lst [V.ref u,V.ref x,V.ref y,V.ref B])=H1 at C l⊢;have M:=I.same C;refine xwn Z Z M.hp (BT g) Z (xq4 Z Z (SqL.of l) (Ai (j:=0) Z) (xq4 Z Z (SqT.of (C _ _ p0)) (Ai (j:=3) Z) (xwi Z Z Z (SqL.of l) (Ai (j:=1) Z) (xq4 Z Z (SqT.of (C _ _ p1)) (Ai (j:=2) Z) ?_))));refine xwi Z Z Z (SqL.of l) (Ai (j:=2) Z) (xq4 Z Z (SqT.of (C _ _ p2)) (Ai (j:=1) Z) (xwi Z Z Z (SqL.of l) (Ai (j:=3) Z) (xq4 Z Z (SqT.of (C _ _ p3)) (Ai (j:=0) Z) ⟨S_4,λt4 Y=>?_⟩)));have s2:=AM (o:=.tup [.int (d 0 3),.int (d 1 2),.int (d 2 1),.int (d 3 0)]) Y;obtain⟨_,n0⟩:=D.sub 0 A6;obtain⟨_,n1⟩:=D.sub 1 A6;obtain⟨_,n2⟩:=D.sub 2 A6;obtain⟨_,n3⟩:=D.sub 3 A6;exact⟨g,G,t4,d 0 3,d 1 2,d 2 1,d 3 0,(n:Int),Z,M.same s2,ok,Af,⟨n0.hw,n1.hz,n2.hy,n3.hx⟩,by lia,by lia,λm G' H' fr W go e=>k m G' H' ((Ay.fr C).trans ((Ay.fr s2).trans fr)) W go e⟩
inductive aFY(a:Ad)(vs:List V)(H:Hp)(Q:VK):Prop
|mk (g:GA) (G:Gv) (i n:Nat) (qs:L_) (ps:Nat->Nat->Nat) (_:vs=[.ref g.p,.int i]) (_:AX a H g G) (_:OA G n i qs ps) (_:n<47) (_:(BA n ps->∀H',Ay H H'->Q (.bl o5) H')) (_:(¬BA n ps->∀H',Ay H H'->Q (.bl o6) H')):aFY a vs H Q
def aGq(a:Ad):Sp:=λvs H Q _=>aFY a vs H Q
theorem aGN(F:Fun K "is_bare_around" "is_bare_around" EC f fd)(T:Top K mg a):AL P w K mg n9 CX0 1 f fd Lr (aGq a):=by
 refine F.ok BS D_9 λah A ac s H vs Q E hr h=>?_
 obtain⟨g,G,i,n,qs,l,rfl,r,dp,ai,k1,k2⟩:=h;obtain⟨q,u⟩:=dp.node;have lq:=u.lev;refine AN (GK r.at' u) λts t h3 et ht=>⟨_,(Ac (Ao (i:=2) BS.nd Z O_9 (Aj Ax (AC (pv 0) Z) (AG Cg (Aj Ax (AC (pv 0) Z) (pv 1) R_9) Ae) R_9)) (Ac (BN A1c Z (Mx o5 Z T.i_ (Aa (Aj Ax (AC (pv 0) Z) (pv 1) R_9) Ab)) (Nr Z (CW (AU (i:=3) BS.nd Z O_9) (CW (AU (i:=4) BS.nd Z O_9) Lp))) (Ag (BN A1c Z (Mx o5 Z T.i_ (Aa (Aj Ax (AC (pv 0) Z) (pv 4) R_9) Ab)) (Nr Z (CW (AU (i:=5) BS.nd Z O_9) (CW (AU (i:=6) BS.nd Z O_9) Lp))) (Ag (AO (PW.pt (Mb (AA GM (pv 6) (pv 2) (AF _)) (IW (AA GM (pv 5) (AG Cg Ae (pv 3)) (AF _))))) (Ag (Aw Jw)) Az))))) (Ag (Aw Jw)))),?_⟩
 refine xwf Z Z r.at'.hp T.J4 T.U_ (Jm g) (xwf Z Z r.at'.hp T.J4 T.Q3 (Fy g) (xwi Z Z Z (SqL.of r.at'.lv) (Ai (by rw[C1,u.g];rfl)) (xq2 Z Z (xq4 Z Z (SqL.of r.br) (by rw[show q.lev-2=(n:Int) by lia];exact Ai (aAD A0)) ?_))));refine xwf Z Z r.at'.hp T.J4 T.L0 (Cz g) (xwi Z Z Z (SqL.of h3) (Ai et) ⟨t,Z,⟨_,SqT.of ht⟩,?_⟩);refine Lj (b:=o5) (xs:=[.int (qs 0:Int),.int (qs 1:Int),.int (qs 2:Int),.int (qs 3:Int)]) (λj σ I=>Ay H I/\(∃u3 u4 C D:Option V,σ=[o3 (.ref g.p),o3 (.int i),o3 (.int (bareN n:Int)),u3,u4,C,D])/\∀m d,m<j->m<4->d<4->d+m≠3->l m d=bareN n) ⟨Ay.refl H,⟨o4,o4,o4,o4,Z⟩,λm d h=>absurd h (N5 _)⟩ (λj σ I _ z=>SqT.of (z.1 _ _ ht)) ?_ ?_
 .intro j v σ I T' c ad nT;obtain⟨sm,⟨u3,u4,C,D,rfl⟩,W⟩:=ad;have hj:=(B9.mp c).1;have y:v=.int (qs j:Int):=by
   match j,hj,c with
   |0,_,c=>cases c;rfl
   |1,_,c=>cases c;rfl
   |2,_,c=>cases c;rfl
   |3,_,c=>cases c;rfl
  subst y;obtain⟨qk,ab⟩:=dp.sub j hj;have U:=sm.trans (AM (o:=.tup [.int j,.int (qs j)]) nT);refine Qb Af ?_;generalize upd I T' (.tup [.int j,.int (qs j)])=H3 at U⊢;refine AN (GK (r.at'.same U) ab) λaj t3 Y X S=>xwf Z Z ((r.at'.same U).hp) T.J4 T.L0 (Cz g) (xwi Z Z Z (SqL.of Y) (Ai X) ⟨t3,Z,⟨_,SqT.of S⟩,?_⟩);refine Lj (b:=o5) (xs:=[.int (l j 0:Int),.int (l j 1:Int),.int (l j 2:Int),.int (l j 3:Int)]) (λk σ M=>Ay H3 M/\(∃C D:Option V,σ=[o3 (.ref g.p),o3 (.int i),o3 (.int (bareN n:Int)),o3 (.int j),o3 (.int (qs j)),C,D])/\∀d,d<k->d<4->d+j≠3->l j d=bareN n) ⟨Ay.refl H3,⟨_,_,Z⟩,λd h=>absurd h (N5 _)⟩ (λk σ M _ z=>SqT.of (z.1 _ _ S)) ?_ ?_
  .intro k v σ M T2 c ae aa;obtain⟨B,⟨C,D,rfl⟩,x⟩:=ae;have R:=(B9.mp c).1;have y:v=.int (l j k:Int):=by
    match k,R,c with
    |0,_,c=>cases c;rfl
    |1,_,c=>cases c;rfl
    |2,_,c=>cases c;rfl
    |3,_,c=>cases c;rfl
   subst y;have s4:=B.trans (AM (o:=.tup [.int k,.int (l j k)]) aa);refine Qb Af ?_;generalize upd M T2 (.tup [.int k,.int (l j k)])=H5 at s4⊢;refine xw2 Z Z ⟨Z,(xq1 Z ?_)⟩;refine Zm (b2:=!decide (V.int (k:Int)=V.int (3-(j:Int)))) (λ_ Q' q=>(xw2 Z Z (xq2 Z Z ⟨Z,(xq1 Z q)⟩))) (Jl (λO=>?_) (λO=>?_))
   .refine k2 (λba=>?_) H5 (U.trans s4);rw[Q0]at O;have c2:¬k+j=3:=λz=>by
     have:=O.2;rw[A0d (show V.int (k:Int)=V.int (3-(j:Int)) by congr 1;lia)]at this;cases this
    have c1:=O.1;rw[ba j k hj R c2,A0d rfl]at c1;cases c1
   .refine⟨s4,⟨_,_,Z⟩,λd L N e=>?_⟩;rcases W6.mp L with h|h
    .exact x d h N e
    .subst h;refine A2e λz=>O ?_;rw[A0f (show ¬V.int (l j d:Int)=V.int (bareN n:Int) by intro q;injection q with q;exact z (A1f q)),A0f (show ¬V.int (d:Int)=V.int (3-(j:Int)) by intro q;injection q with q;lia)];rfl
  .intro σ M af;obtain⟨B,⟨C,D,rfl⟩,x⟩:=af;refine⟨U.trans B,⟨_,_,_,_,Z⟩,λm d L N e h4=>?_⟩;rcases W6.mp L with h|h
   .exact W m d h N e h4
   .subst h;exact x d e e h4
 .intro σ I ag;obtain⟨sm,⟨u3,u4,C,D,rfl⟩,W⟩:=ag;exact k1 (λm d L N e=>W m d L L N e) I sm
end
theorem FD.lev:∀{l f r:Nat},Al G f (l:Int)->FD G l f r->∃n,n+1<=l/\Al G r ((n+1:Nat):Int)
|0,_,_,_,h=>h.elim
|1,f,r,hl,h=>by
 have h:=h;subst h;exact⟨0,C0 _,hl⟩
|n+2,f,r,hl,h=>by
 apply AT;intro b a;refine BJ h λqs i d h=>?_;apply a;clear a b;rcases h with ⟨_,rfl⟩|⟨_,m,e,h⟩
 .exact⟨n+1,C0 _,hl⟩
 .obtain⟨k,g,c⟩:=FD.lev (l:=n+1) ⟨_,e,by show(n:Int)+1=_;lia⟩ h;exact⟨k,by lia,c⟩
section
variable{P:N_}{w:Q_}{K:O_}{mg:C_}{n9:T_}{a:Ad}
inductive aAo(a:Ad)(vs:List V)(H:Hp)(Q:VK):Prop
|mk (g:GA) (G:Gv) (f n:Nat) (_:vs=[.ref g.p,.int f]) (_:AX a H g G) (_:Al G f ((n+1:Nat):Int)) (_:G.length<8800000) (_:∀(r:Nat)(G':Gv)(H':Hp),Fr g H H'->AX a H' g G'->AK G G' 48->FD G' (n+1) f r->Q (.int r) H'):aAo a vs H Q
def OW(a:Ad):Sp:=λvs H Q _=>aAo a vs H Q
theorem aCl(F:Fun K "trimmed" "trimmed" Nj f fd)(T:Top K mg a)(a7:BR P w K mg n9 CX0 3 a.J5 "level_of" Lg (Ob a))(bC:Cal P w K mg n9 CX0 1 "is_bare_around" Lr (aGq a))(cM:Cal P w K mg n9 CX0 3 "middle_of" Lr (Zy a)):AL P w K mg n9 CX0 4 f fd Lr (OW a):=by
 refine F.ok LQ (λvs H Q E h=>?_) (λaa A V s H vs Q E S h=>?_)
 .apply AT;intro y e;obtain⟨g,G,o,n,rfl,_⟩:=h;apply e;clear e y;rfl
 .apply AT;intro y e;obtain⟨g,G,o,n,rfl,C,hl,few,k⟩:=h;refine xea (id hl) λq eq lq=>?_;apply e;clear e y;have ac:n+1<=48:=by have:=(C.ok.lev eq).2;lia
  refine⟨_,(Ac (AO (AA GN (AD (pv 0) a7 (rm S) Am (Aa (pv 1) Ab)) (BZ Z T.h_) (AF _)) (Ag Bk) Az) (Ac (Ao (i:=2) LQ.nd Z O_9 (pv 1)) (Ac (JM A1c (PW.pt (Mb (AA TM (Aj Ax (AC (pv 0) Z) (pv 2) R_9) (BZ Z T.h_) (AF _)) (IW (Cf (Ar bC (rm S) Z Am (Aa (pv 0) (Aa (pv 2) Ab))))))) (Ag (Ao (i:=2) LQ.nd Z O_9 (Ar cM (rm S) Z Am (Aa (pv 0) (Aa (pv 2) Ab)))))) (Ag (Aw (pv 2)))))),?_⟩
  try dsimp only[cxK]
  refine xq1 Z ⟨g.p,g.dx,(xq1 Z ⟨C.at'.hp,EL g,(xq1 Z ⟨g,G,o,q,Z,C.at',eq,(xq2 Z Z (xq1 Z ?_))⟩)⟩)⟩;rw[A0f (by lia:¬q.lev<1)];refine Bc (xq1 Z ?_);refine⟨λm σ D=>∃(j:Gv)(c:Nat),σ=[o3 (.ref g.p),o3 (.int o),o3 (.int c)]/\Fr g H D/\AX a D g j/\AK G j (n-m)/\m<=n/\Al j c ((m+1:Nat):Int)/\∀(r:Nat)(d:Gv)(k:Nat),AK j d k->FD d (m+1) c r->FD d (n+1) o r,⟨n,G,o,Z,Fr.refl g H,C,(AK.refl C.ok).mono A0,C0 _,hl,λ_ _ _ _ h=>h⟩,?_⟩;rintro m σ D X;apply AT;intro y e;obtain⟨j,c,rfl,fr,b,L,mn,lc,W⟩:=X;apply e;clear e y;have gf:=L.few;refine xea (id lc) λqc ec ab=>xwf Z Z b.at'.hp T.J4 T.Q3 (Fy g) (xwi Z Z Z (SqL.of b.at'.lv) (Ai (by rw[C1,ec];rfl)) (xq2 Z Z (xq1 Z ?_)));cases m with
  |zero =>
   rw[A0f (by lia:¬(1:Int)<qc.lev)];exact Bc (Bc (xq1 Z (k c j D fr b (L.mono A0) (W c j 0 (AK.refl b.ok) Z))))
  |succ m =>
   rw[A0d (by lia:(1:Int)<qc.lev)];refine xe2 (aCA b.ok lc) λqs M I=>Cr (xw2 Z Z ⟨g,j,c,m,qs,M,Z,b,I,by lia,λba Y x=>⟨o5,Z,Cr ?_⟩,λU Y x=>⟨o6,Z,Bc ?_⟩⟩)
   .refine⟨fun σ' N=>∃(u:Gv)(v:Nat),σ'=[o3 (.ref g.p),o3 (.int o),o3 (.int v)]/\Fr g H N/\AX a N g u/\AK G u (n-m)/\m<=n/\Al u v ((m+1:Nat):Int)/\∀(r:Nat)(d:Gv)(k:Nat),AK u d k->FD d (m+1) v r->FD d (n+1) o r,fun σ' N z=>⟨m,by lia,z⟩,?_⟩;refine xw2 Z Z ⟨g,j,c,m,qs,M,Z,b.at'.same x,b.ok,I,by lia,by lia,λv u H4 B R l e4=>?_⟩;have O:=(b.same x).fr B R l;refine⟨u,v,Z,fr.trans ((Ay.fr x).trans B),O,(L.trans l).mono A0,by lia,⟨_,e4,by show(m:Int)+1=_;lia⟩,λr d k' t t5=>?_⟩;exact W r d _ (l.trans t) ⟨qs,M,I.app (l.trans t),.inr ⟨ba,v,t.get e4,t5⟩⟩
   .exact xq1 Z (k c j Y (fr.trans (Ay.fr x)) (b.same x) (L.mono A0) (W c j 0 (AK.refl b.ok) ⟨qs,M,I,.inl ⟨U,Z⟩⟩))
def NW(G:Gv)(n f:Nat):Nat->Nat->Prop
|0,w=>w=f
|k+1,w=>∃u,NW G n f k u/\Wid G (n+k) u w
theorem NW.app(c:AK G b m):∀{k w:Nat},NW G n f k w->NW b n f k w
|0,_,h=>h
|k+1,w,h=>by
 exact xea h λu d e=>⟨u,NW.app c d,e.app c⟩
inductive aFt(a:Ad)(vs:List V)(H:Hp)(Q:VK):Prop
|mk (g:GA) (G:Gv) (f n:Nat) (t:R_) (x y wd ht:Int) (_:vs=[.ref g.p,.int f,.ref t]) (_:AX a H g G) (_:Al G f ((n+1:Nat):Int)) (_:n<=40) (_:H t=o3 (.tup [.int x,.int y,.int wd,.int ht])) (_:JD x y wd ht (2^40)) (_:G.length<8700000) (_:∀(k w:Nat)(G':Gv)(H':Hp),Fr g H H'->AX a H' g G'->AK G G' (5*k)->n+k<=40->NW G' n f k w->Al G' w ((n+k+1:Nat):Int)->JD x y wd ht (2^(n+k))->(∀j,j<k->¬JD x y wd ht (2^(n+j)))->Q (.int w) H'):aFt a vs H Q
def aG4(a:Ad):Sp:=λvs H Q _=>aFt a vs H Q
theorem aGi(F:Fun K "widened_over" "widened_over" FR f fd)(T:Top K mg a)(aN:Cal P w K mg n9 CX0 1 "lies_within" QD Tm)(aC:Cal P w K mg n9 CX0 4 "reach_of" Vj (IG a))(bI:Cal P w K mg n9 CX0 4 "widened" Lr (We a)):AL P w K mg n9 CX0 5 f fd Ge (aG4 a):=by
 refine F.ok Fl (λvs H Q E h=>?_) (λab A aa s H vs Q E W h=>?_)
 .apply AT;intro u b;obtain⟨g,G,q,n,t,x,y,D,ht,rfl,_⟩:=h;apply b;clear b u;rfl
 .apply AT;intro u b;obtain⟨g,G,q,n,t,x,y,D,N,rfl,S,hl,ad,ht,li,few,k⟩:=h;apply b;clear b u;refine⟨_,(Ac (Ao (i:=3) Fl.nd Z O_9 (pv 1)) (Ac (JM A1c (Cy (Cf (Ar aN (rm W) Z Am (Aa (pv 2) (Aa (Ar aC (rm W) Z Am (Aa (pv 0) (Aa (pv 3) Ab))) Ab))))) (Ag (Ao (i:=3) Fl.nd Z O_9 (Ar bI (rm W) Z Am (Aa (pv 0) (Aa (pv 3) Ab)))))) (Ag (Aw (pv 3))))),?_⟩
  try dsimp only[cxK]
  refine xq1 Z ⟨λm σ M=>∃(e:Gv)(c j:Nat),σ=[o3 (.ref g.p),o3 (.int q),o3 (.ref t),o3 (.int c)]/\Fr g H M/\AX a M g e/\AK G e (5*j)/\n+j+m=40/\Al e c ((n+j+1:Nat):Int)/\NW e n q j c/\∀i,i<j->¬JD x y D N (2^(n+i)),⟨40-n,G,q,0,Z,Fr.refl g H,S,AK.refl S.ok,by lia,hl,Z,λi hi=>absurd hi (N5 _)⟩,?_⟩;rintro m σ M L;apply AT;intro u b;refine BV L λe c j R fr d U I=>?_;refine xa3 I λac Y wn no=>?_;clear I;clear L;subst R;apply b;clear b u;have gf:=U.few;have X:=fr.tup S.at' ht;refine xq1 Z (xq1 Z (xq1 Z ⟨g,e,c,n+j,Z,d.at',Y,by lia,t,x,y,D,N,_,Z,X,_,Z,?_⟩));by_cases r:JD x y D N (2^(n+j))
  .rw[A0d r];exact Bc (xq1 Z (k j c e M fr d U A0 wn Y r no))
  .rw[A0f r];have m0:m≠0:=λz=>by
    subst z;have:n+j=40:=by lia
    rw[this]at r;exact r li
   refine Cr ⟨fun σ' O=>∃(o:Gv)(v C:Nat),σ'=[o3 (.ref g.p),o3 (.int q),o3 (.ref t),o3 (.int v)]/\Fr g H O/\AX a O g o/\AK G o (5*C)/\n+C+(m-1)=40/\Al o v ((n+C+1:Nat):Int)/\NW o n q C v/\∀i,i<C->¬JD x y D N (2^(n+i)),fun σ' O z=>⟨m-1,by lia,z⟩,?_⟩;refine xw2 Z Z ⟨g,e,c,n+j,Z,d,Y,by lia,by lia,λv o H3 B V l wi=>?_⟩;refine⟨o,v,j+1,Z,fr.trans B,d.fr B V l,(U.trans l).mono A0,by lia,?_,⟨c,wn.app l,wi⟩,λi hi=>?_⟩
   .have:=wi.lev;rw[show n+(j+1)+1=n+j+2 by lia];exact this
   .rcases W6.mp hi with h|h
    .exact no i h
    .rw[h];exact r
end
noncomputable def st4(x y z w k j:Nat)(i:Nat):Nat:=if i=k then j else f4 x y z w i
noncomputable def quad(l x y:Nat):Nat:=x/2^l+2*(y/2^l)
theorem EY(h:x<2^(l+1)):x/2^l<2:=by
 rw[X4 (W3 A6),Z2,<-L9];exact h
theorem Dy(a:x<2^(l+1))(b:y<2^(l+1)):quad l x y<4:=by
 have c:=EY a;have d:=EY b;unfold quad;lia
theorem FB(l:Nat):((2^l:Nat):Int)=(2:Int)^l:=N1 2 l
theorem aE3(l x y:Nat):(x:Int)/2^l+2*((y:Int)/2^l)=((quad l x y:Nat):Int):=by
 unfold quad;rw[<-FB,O1,O5,Int.natCast_ediv,Int.natCast_ediv];rfl
theorem aDd(l x:Nat):(x:Int)%2^l=((x%2^l:Nat):Int):=by rw[<-FB,Int.natCast_emod]
theorem set4(x y z w j:Nat){k:Nat}(a:k<4):([V.int (x:Int),V.int (y:Int),V.int (z:Int),V.int (w:Int)].set k (.int j))=[V.int (st4 x y z w k j 0:Int),V.int (st4 x y z w k j 1:Int),V.int (st4 x y z w k j 2:Int),V.int (st4 x y z w k j 3:Int)]:=by
 match k,a with
 |0,_=>rfl
 |1,_=>rfl
 |2,_=>rfl
 |3,_=>rfl
def Rep(G:Gv)(s:Nat):Nat->Nat->Nat->Nat->Nat->Prop
|0,_,_,_,r=>r=s
|l+1,i,x,y,r=>∃(q:Sq)(a b c d j:Nat),IC G l i q a b c d/\Rep G s l (f4 a b c d (quad l x y)) (x%2^l) (y%2^l) j/\G[r]?=o3 ⟨[(st4 a b c d (quad l x y) j 0:Int),(st4 a b c d (quad l x y) j 1:Int),(st4 a b c d (quad l x y) j 2:Int),(st4 a b c d (quad l x y) j 3:Int)],(l:Int)+1⟩
theorem Rep.app{G k:Gv}(f:AK G k m):∀{l i x y r:Nat},Rep G s l i x y r->Rep k s l i x y r
|0,_,_,_,_,h=>h
|l+1,i,x,y,r,h=>by
 refine xe5 h λq a b c d g=>?_;refine AS g λj o n e=>?_;exact⟨q,a,b,c,d,j,o.app f,Rep.app f n,f.get e⟩
theorem Rep.lev(ok:GOk G)(g:s<8):∀{l i x y r:Nat},Rep G s l i x y r->Al G r (l:Int)
|0,_,_,_,r,h=>by
 have h:=h;subst h;exact⟨_,ok.leaf r g,Z⟩
|l+1,_,_,_,_,h=>by
 refine xe5 h λq a b c d f=>?_;refine AS f λj m k e=>?_;exact⟨_,e,by show(l:Int)+1=_;lia⟩
section
variable{P:N_}{w:Q_}{K:O_}{mg:C_}{n9:T_}{a:Ad}
inductive aDP(a:Ad)(n:Nat)(vs:List V)(H:Hp)(Q:VK):Prop
|mk (g:GA) (G:Gv) (i l x y s:Nat) (_:vs=[.ref g.p,.int i,.int x,.int y,.int s]) (_:AJ a H g G) (_:GOk G) (_:Al G i (l:Int)) (_:l<n) (_:x<2^l) (_:y<2^l) (_:s<8) (_:G.length+l<8900000) (_:∀(r:Nat)(G':Gv)(H':Hp),Fr g H H'->AJ a H' g G'->AK G G' l->Rep G' s l i x y r->Q (.int r) H'):aDP a n vs H Q
def Wg(a:Ad)(n:Nat):Sp:=λvs H Q _=>aDP a n vs H Q
theorem aBy(F:Fun K "replaced" "replaced" LR f fd)(T:Top K mg a)(hm:mg "replaced" = o3 (.ref f))(Bi:CM K fd Gf [])(aK:BR P w K mg n9 CX0 3 a.J5 "leaf" Sr (OZ a))(a6:BR P w K mg n9 CX0 2 a.J5 "linked" Ba (EA a)):∀n,AL P w K mg n9 CX0 (n+4) f fd Gf (Wg a n)
|0=>by
 refine F.ok DY (λvs H Q E h=>?_) (λab A O s H vs Q E X h=>?_)
 .obtain⟨g,G,i,l,x,y,s,rfl,_,_,_,h0,_⟩:=h;exact absurd h0 (N5 _)
 .obtain⟨g,G,i,l,x,y,s,rfl,_,_,_,h0,_⟩:=h;exact absurd h0 (N5 _)
|n+1=>by
 have bP:Cal P w K mg n9 CX0 (n+4) "replaced" Gf (Wg a n):=⟨f,fd,aBy F T hm Bi aK a6 n,hm,F.kp,Bi⟩
 refine F.ok DY (λvs H Q E h=>?_) (λab A O s H vs Q E X h=>?_)
 .obtain⟨g,G,i,l,x,y,s,rfl,_⟩:=h;rfl
 .obtain⟨g,G,i,l,x,y,st,rfl,B,ok,hl,ln,hx,hy,s8,few,k⟩:=h;refine xea (id hl) λq0 e0 l0=>⟨_,(Ac (Ao (i:=5) DY.nd Z O_9 (Aj Ax (AC (pv 0) Z) (pv 1) R_9)) (Ac (AO (AA Dj (pv 5) Ae (AF _)) (Ag (Aw (AD (pv 0) aK (rm X) Am (Aa (pv 4) Ab)))) Az) (Ac (Ao (i:=6) DY.nd Z O_9 (AG NA Ae (AG Cg (pv 5) Ae))) (Ac (Ao (i:=7) DY.nd Z O_9 (BH MV Z T.aAV A8h (Aa (Aj Ax (AC (pv 0) Z) (pv 1) R_9) Ab))) (Ac (Ao (i:=8) DY.nd Z O_9 (AG AQ (AG TN (pv 2) (pv 6)) (AG EK Ae (AG TN (pv 3) (pv 6))))) (Ac (aE0 (Ar bP (rm X) Z Am (Aa (pv 0) (Aa (Aj Ax (pv 7) (pv 8) R_9) (AV Bm (pv 2) (pv 6) (AV Bm (pv 3) (pv 6) (Aa (pv 4) Ab)))))) (aEx (pv 7) (pv 8) ZK)) (Ag (Aw (AD (pv 0) a6 (rm X) Am (Aa (BH CA Z T.m9 A3b (Aa (pv 7) Ab)) Ab)))))))))),?_⟩
  refine⟨_,Z,g.p,_,g.dx,_,_,Z,B.hp,T.J4,T.Q3,Fy g,_,Z,g.lv,_,(i:Int),.int q0.lev,Z,Z,SqL.of B.lv,Ai (by rw[C1,e0];rfl),?_⟩;cases l with
  |zero =>
   rw[l0];exact xq1 Z ⟨Z,(xq1 Z (Cr (xwn Z Z B.hp (RZ g) Z ⟨g.p,(st:Int),Z,by lia,by lia,k st G H (Fr.refl g H) B (AK.refl ok) Z⟩)))⟩
  |succ l =>
   have ah:q0.lev=(l:Int)+1:=by rw[l0];lia
   have ak:=(ok.lev e0).2;have C:=Wu (l:=l) A0;have v:=OG l;refine xe5 (BC ok hl) λq c d m u D=>AN (GK B D) λts t h3 et ht=>xq1 Z ⟨Z,(xq1 Z ?_)⟩;rw[A0f (by intro z;injection z with z;lia)];refine Bc (xwb Z Z Z (xq2 Z Z ⟨⟨by lia,by lia,by decide⟩,?_⟩));rw[show(λ(i j:Int)=>V.int (i*2^j.toNat)) 1 (q0.lev-1)=V.int (2^l)from A2f V.int (RE l ah)];refine xwf Z Z B.hp T.J4 T.L0 (Cz g) (xwi Z Z Z (SqL.of h3) (Ai et) ⟨t,(xq1 Z ⟨.inr (SqT.of ht),λL hL=>?_⟩)⟩);have aL:=Ap.new B hL;have s1:=AM (o:=.lst [.int c,.int d,.int m,.int u]) hL;have M:upd H L (.lst [.int c,.int d,.int m,.int u]) L=o3 (.lst [.int c,.int d,.int m,.int u]):=Af;generalize upd H L (.lst [.int c,.int d,.int m,.int u])=H1 at s1 M⊢;have ad:=B.same s1;have Y:=Dy hx hy;refine xw2 Z Z (xq2 Z Z ⟨⟨v,C⟩,(xw2 Z Z (xq2 Z Z ⟨⟨v,C⟩,(xq2 Z Z ⟨.inl ⟨by decide,by decide⟩,(xq2 Z Z ?_)⟩)⟩))⟩);rw[show(λ(i j:Int)=>V.int (i+j)) ((x:Int)/2^l) (2*((y:Int)/2^l))=V.int ((quad l x y:Nat):Int)from A2f V.int (aE3 l x y)];have aa:[V.int (c:Int),V.int (d:Int),V.int (m:Int),V.int (u:Int)][quad l x y]?=o3 (.int (f4 c d m u (quad l x y):Int)):=by
    generalize quad l x y=kk at Y⊢
    match kk,Y with
    |0,_=>rfl
    |1,_=>rfl
    |2,_=>rfl
    |3,_=>rfl
   have ai:=(D.nat Y).2;refine xw3 Z Z Z (xq4 Z Z (SqL.of M) (Ai aa) (xw2 Z Z (xq2 Z Z ⟨v,(xw2 Z Z (xq2 Z Z ⟨v,(xq1 Z ?_)⟩))⟩)));refine⟨g,G,f4 c d m u (quad l x y),l,x%2^l,y%2^l,st,by rw[<-aDd,<-aDd];rfl,ad,ok,ai,by lia,M8 _ (W3 A6),M8 _ (W3 A6),s8,by lia,λj G1 H2 fr ae R rp=>?_⟩;have gf:=R.few;have U:=fr.get aL M;refine xw2 Z Z ⟨L,_,((quad l x y:Nat):Int),quad l x y,Z,Z,U,by unfold ixN;rw[A0e A0,A0e (by show((quad l x y:Nat):Int)<((4:Nat):Int);lia),L8],?_⟩;rw[set4 c d m u j Y];have N:=ae.put (o:=.lst [V.int (st4 c d m u (quad l x y) j 0:Int),V.int (st4 c d m u (quad l x y) j 1:Int),V.int (st4 c d m u (quad l x y) j 2:Int),V.int (st4 c d m u (quad l x y) j 3:Int)]) U aL.1 aL.2.1;have W:upd H2 L (.lst [V.int (st4 c d m u (quad l x y) j 0:Int),V.int (st4 c d m u (quad l x y) j 1:Int),V.int (st4 c d m u (quad l x y) j 2:Int),V.int (st4 c d m u (quad l x y) j 3:Int)]) L=o3 (.lst [V.int (st4 c d m u (quad l x y) j 0:Int),V.int (st4 c d m u (quad l x y) j 1:Int),V.int (st4 c d m u (quad l x y) j 2:Int),V.int (st4 c d m u (quad l x y) j 3:Int)]):=Af;have S:Fr g H (upd H2 L (.lst [V.int (st4 c d m u (quad l x y) j 0:Int),V.int (st4 c d m u (quad l x y) j 1:Int),V.int (st4 c d m u (quad l x y) j 2:Int),V.int (st4 c d m u (quad l x y) j 3:Int)])):=λb o e m1 m2 m3=>by
    rw[Av (As e hL)];exact fr _ _ (s1 _ _ e) m1 m2 m3
   generalize upd H2 L (.lst [V.int (st4 c d m u (quad l x y) j 0:Int),V.int (st4 c d m u (quad l x y) j 1:Int),V.int (st4 c d m u (quad l x y) j 2:Int),V.int (st4 c d m u (quad l x y) j 3:Int)])=H3 at N W S⊢;refine xwn Z Z N.hp (BT g) Z ⟨L,(xq1 Z (.inl ⟨SqL.of W,λt4 ag=>?_⟩))⟩;have s4:=AM (o:=.tup [V.int (st4 c d m u (quad l x y) j 0:Int),V.int (st4 c d m u (quad l x y) j 1:Int),V.int (st4 c d m u (quad l x y) j 2:Int),V.int (st4 c d m u (quad l x y) j 3:Int)]) ag;have aj:=D.app R;have lj:=rp.lev R.ok s8;have lst:∀ii,ii<4->Al G1 (st4 c d m u (quad l x y) j ii) (l:Int):=λii hi=>by
    unfold st4;split
    .exact lj
    .exact(aj.nat hi).2
   refine⟨g,G1,t4,_,_,_,_,(l:Int),Z,N.same s4,R.ok,Af,⟨lst 0 A6,lst 1 A6,lst 2 A6,lst 3 A6⟩,by lia,by lia,λr G2 H4 ac af I e4=>?_⟩;exact k r G2 H4 (S.trans ((Ay.fr s4).trans ac)) af (R.trans I) ⟨q,c,d,m,u,j,D.app (R.trans I),rp.app I,e4⟩
structure LC(G:Gv)(n f:Nat)(x y:Int)(s r:Nat)(k w i:Nat):Prop where
le:n+k<=40
wid:NW G n f k w
lw:Al G w ((n+k+1:Nat):Int)
li:JD x y 1 1 (2^(n+k))
no:∀j,j<k->¬JD x y 1 1 (2^(n+j))
rep:Rep G s (n+k+1) w (x+2^(n+k)).toNat (y+2^(n+k)).toNat i
tr:FD G (n+k+1) i r
theorem WD(h:JD x y 1 1 (2^m)):(x+2^m).toNat<2^(m+1)/\(y+2^m).toNat<2^(m+1)/\0<=x+2^m/\0<=y+2^m:=by
 refine xa3 h λb c d f=>?_;have e:=FB (m+1);rw[De]at e;have p:=OG m;refine⟨?_,?_,by lia,by lia⟩<;>lia
inductive WT(a:Ad)(vs:List V)(H:Hp)(Q:VK):Prop
|mk (g:GA) (G:Gv) (f n:Nat) (x y:Int) (s:Nat) (_:vs=[.ref g.p,.int f,.int x,.int y,.int s]) (_:AX a H g G) (_:Al G f ((n+1:Nat):Int)) (_:n<=40) (_:JD x y 1 1 (2^40)) (_:s<8) (_:G.length<8000000) (_:∀(r k w i:Nat)(G':Gv)(H':Hp),Fr g H H'->AX a H' g G'->AK G G' 400->LC G' n f x y s r k w i->Q (.int r) H'):WT a vs H Q
def RH(a:Ad):Sp:=λvs H Q _=>WT a vs H Q
theorem aBv(F:Fun K "planted" "planted" Nk f fd)(T:Top K mg a)(aN:Cal P w K mg n9 CX0 1 "lies_within" QD Tm)(bB:Cal P w K mg n9 CX0 2 "is_state" Vk aFB)(aC:Cal P w K mg n9 CX0 4 "reach_of" Vj (IG a))(bO:Cal P w K mg n9 CX0 5 "widened_over" Ge (aG4 a))
 (bP:Cal P w K mg n9 CX0 54 "replaced" Gf (Wg a 50)) (aX:Cal P w K mg n9 CX0 4 "trimmed" Lr (OW a)):AL P w K mg n9 CX0 55 f fd Ny (RH a):=by
 refine F.ok II D_9 λaa A M s H vs Q E j h=>?_
 obtain⟨g,G,f',n,x,y,st,rfl,fu,hl,L,V,X,few,k⟩:=h;refine⟨_,(Ac (Ao (i:=5) II.nd Z O_9 (Dr (Aa (pv 2) (Aa (pv 3) (AI (AI Ab)))))) (Ac (AO (Cy (Cf (Ar aN (rm j) Z Am (Aa (pv 5) (Aa (BZ Z T.aAX) Ab))))) (Ag Bk) Az) (Ac (AO (Cy (Cf (Ar bB (rm j) Z Am (Aa (pv 4) Ab)))) (Ag Bk) Az) (Ac (Ao (i:=6) II.nd Z O_9 (Ar bO (rm j) Z Am (Aa (pv 0) (Aa (pv 1) (Aa (pv 5) Ab))))) (Ac (Ao (i:=7) II.nd Z O_9 (Ar aC (rm j) Z Am (Aa (pv 0) (Aa (pv 6) Ab)))) (Ag (Aw (Ar aX (rm j) Z Am (Aa (pv 0) (Aa (Ar bP (rm j) Z Am (Aa (pv 0) (Aa (pv 6) (AV AQ (pv 2) (pv 7) (AV AQ (pv 3) (pv 7) (Aa (pv 4) Ab)))))) Ab)))))))))),?_⟩
 try dsimp only[cxK]
 refine xw2 Z Z ⟨S_4,λt ht=>?_⟩;have N:=AM (o:=.tup [.int x,.int y,.int 1,.int 1]) ht;have e:upd H t (.tup [.int x,.int y,.int 1,.int 1]) t=o3 (.tup [.int x,.int y,.int 1,.int 1]):=Af;generalize upd H t (.tup [.int x,.int y,.int 1,.int 1])=H1 at N e⊢;have v:=fu.same N;refine xq1 Z ⟨t,x,y,1,1,_,Z,e,_,Z,?_⟩;rw[A0d (show JD x y 1 1 1099511627776 from V)];refine Bc (xq1 Z ⟨(st:Int),Z,by lia,by lia,o5,Z,Bc ?_⟩);refine xw3 Z Z Z ⟨g,G,f',n,t,x,y,1,1,Z,v,hl,L,e,V,by lia,λkk O R H2 q c m le wn I U no=>?_⟩;have ab:=m.few;refine xw2 Z Z ⟨g,R,O,n+kk,Z,c.at',I,by lia,?_⟩;refine xa3 (WD U) λb1 b2 b3 b4=>xw3 Z Z Z (xw2 Z Z (xq2 Z Z (xw2 Z Z (xq2 Z Z (xq1 Z ?_)))));refine⟨g,R,O,n+kk+1,(x+2^(n+kk)).toNat,(y+2^(n+kk)).toNat,st,by rw[R5 b3,R5 b4];rfl,c.at',c.ok,I,by lia,b1,b2,X,by lia,λS Y H3 l C d W=>?_⟩;have ac:=d.few;have z:=c.fr l C d;have D:=W.lev d.ok X;refine⟨g,Y,S,n+kk,Z,z,D,by lia,λr G3 H4 u B p tr=>?_⟩;have b:=d.trans p;exact k r kk O S G3 H4 ((Ay.fr N).trans (q.trans (l.trans u))) B ((m.trans b).mono A0) ⟨le,wn.app b,b.lev I,U,no,W.app p,tr⟩
end
structure Cl where
x:Int
y:Int
s:Nat
def LF(H:Hp)(t:R_)(c:Cl):Prop:=H t=o3 (.tup [.int c.x,.int c.y,.int c.s])
structure UM(c:Cl):Prop where
li:JD c.x c.y 1 1 (2^40)
s:c.s<8
theorem LC.app{s r k w i:Nat}(a:AK G b m)(h:LC G n f x y s r k w i):LC b n f x y s r k w i:=⟨h.le,h.wid.app a,a.lev h.lw,h.li,h.no,h.rep.app a,h.tr.app a⟩
inductive ST(G:Gv):List Cl->Nat->Nat->Prop
|nil:ST G [] 0 (bareN 1)
|cons {cs:List Cl} {c:Cl} {n f r k w i m:Nat} (h:ST G cs n f) (l:Al G f ((n+1:Nat):Int)) (p:LC G n f c.x c.y c.s r k w i) (l':Al G r ((m+1:Nat):Int)):ST G (c::cs) m r
theorem ST.app(a:AK G b m)(h:ST G cs n f):ST b cs n f:=by
 induction h with
 |nil=>exact .nil
 |cons _ l p d c=>exact .cons c (a.lev l) (p.app a) (a.lev d)
section
variable{P:N_}{w:Q_}{K:O_}{mg:C_}{n9:T_}{a:Ad}
inductive aAe(a:Ad)(vs:List V)(H:Hp)(Q:VK):Prop
|mk (g:GA) (G:Gv) (L:R_) (ts:H_) (cs:List Cl) (_:vs=[.ref g.p,.ref L]) (_:AX a H g G) (_:H L=o3 (.lst (ts.map V.ref))) (_:L≠g.lv) (_:L≠g.pt) (_:Paired (LF H) ts cs) (_:(∀c∈cs,UM c)) (_:G.length+400*cs.length<8000000) (_:∀(f n:Nat)(G':Gv)(H':Hp),Fr g H H'->AX a H' g G'->AK G G' (400*cs.length)->n<=40->Al G' f ((n+1:Nat):Int)->ST G' cs.reverse n f->Q (.int f) H'):aAe a vs H Q
def ZD(a:Ad):Sp:=λvs H Q _=>aAe a vs H Q
theorem aEX(F:Fun K "field_of" "field_of" LW f fd)(T:Top K mg a)(aY:Cal P w K mg n9 CX0 1 "bare_field" Si (OD a))(cV:Cal P w K mg n9 CX0 55 "planted" Ny (RH a)):AL P w K mg n9 CX0 56 f fd Mf (ZD a):=by
 refine F.ok GG D_9 λae A ad s H vs Q E hr h=>?_
 obtain⟨g,G,L,ts,cs,rfl,C,Y,n1,n2,pr,ac,few,k⟩:=h;obtain⟨r0,e0⟩:=C.g0;have ab:=A1e pr;refine⟨_,(Ac (Ao (i:=2) GG.nd Z O_9 (Ar aY (rm hr) Z Am (Aa (pv 0) Ab))) (Ac (BN A1c Z (BY (pv 1)) (AU (i:=3) GG.nd Z O_9) (Ag (Ao (i:=2) GG.nd Z O_9 (Ar cV (rm hr) Z Am (Aa (pv 0) (Aa (pv 2) (Aa (Aj An (pv 3) Ae R_9) (Aa (Aj An (pv 3) Ae R_9) (Aa (Aj An (pv 3) Ae R_9) Ab))))))))) (Ag (Aw (pv 2))))),?_⟩
 try dsimp only[cxK]
 refine xq1 Z ⟨g,G,Z,C,?_⟩;refine xq1 Z ⟨L,Z,⟨_,SqL.of Y⟩,?_⟩;refine MQ (xs:=ts.map V.ref) (λj σ B=>∃(d:Gv)(f n:Nat)(u3:Option V),σ=[o3 (.ref g.p),o3 (.ref L),o3 (.int f),u3]/\Fr g H B/\AX a B g d/\AK G d (400*j)/\n<=40/\Al d f ((n+1:Nat):Int)/\ST d (cs.take j).reverse n f) ⟨G,bareN 1,0,o4,Z,Fr.refl g H,C,AK.refl C.ok,by lia,IB e0 A0,.nil⟩ (λj σ B _ ⟨_,_,_,_,_,fr,_⟩=>SqL.of (fr _ _ Y n1 n2 (AE Y C.at'.nm A4))) ?_ ?_
 .intro j v σ B ev N;refine Cm N λd W n u3 l fr o M b=>?_;refine xa2 b λz R D=>?_;clear b;clear N;subst l;rw[C1]at ev;refine xea (D7.mp ev) λt et S=>?_;subst S;refine xea (PairedM.getL pr et) λc U hc=>?_;have e:=ac c (D5 U);have hj:=(B9.mp U).1;have u:=fr.tup C.at' hc;have gf:=M.few;refine xw3 Z Z Z (xq4 Z Z (SqT.of u) (Ai (j:=0) Z) (xwi Z Z Z (SqT.of u) (Ai (j:=1) Z) (xwi Z Z Z (SqT.of u) (Ai (j:=2) Z) ?_)));refine⟨g,d,W,n,c.x,c.y,c.s,Z,o,R,z,e.li,e.s,by lia,λr kk w' i' G2 H3 X I q pl=>?_⟩;have aa:=pl.rep.lev I.ok e.s;refine xea (FD.lev aa pl.tr) λm lm lr=>?_;have le:=pl.le;refine⟨G2,r,m,(xq1 Z ⟨fr.trans X,I,(M.trans q).mono A0,by lia,lr,?_⟩)⟩;rw[F4,U,Q4,List.reverse_append];exact .cons (D.app q) (q.lev R) pl lr
 .intro σ B O;refine Cm O λd W n u3 l fr o M b=>?_;refine xa2 b λz R D=>?_;clear b;clear O;subst l;rw[B8,ab]at M D;rw[F8]at D;exact xq1 Z (k W n d B fr o M z R D)
end
def Lm(G:Gv)(n f:Nat):Prop:=n=0\/∃m qs ps,n=m+1/\OA G m f qs ps/\¬BA m ps
theorem Lm.app{k n f:Nat}(c:AK G a k)(h:Lm G n f):Lm a n f:=by
 rcases h with h|⟨m,qs,g,e,d,b⟩
 .exact .inl h
 .exact .inr ⟨m,qs,g,e,d.app c,b⟩
end J
namespace J
open PySem L2
noncomputable def cellF(G:Gv):Nat->Nat->Nat->Nat->Nat
|0,i,_,_=>i
|n+1,i,x,y=>match G[i]? with
 |some q=>cellF G n (q.parts.getD (quad n x y) 0).toNat (x%2^n) (y%2^n)
 |none=>0
theorem Bo(n:Nat):0<2^n:=W3 A6
theorem BF{q:Sq}{a b c d:Nat}(h:IC G n i q a b c d)(e:x<2^(n+1))(f:y<2^(n+1)):cellF G (n+1) i x y=cellF G n (f4 a b c d (quad n x y)) (x%2^n) (y%2^n):=by
 rw[show cellF G (n+1) i x y=(match G[i]? with|some q=>cellF G n (q.parts.getD (quad n x y) 0).toNat (x%2^n) (y%2^n)|none=>0)from rfl,h.g];show cellF G n (q.parts.getD (quad n x y) 0).toNat _ _=_;have:=(h.nat (Dy e f)).1;rw[D3,this];rfl
theorem UA{k:Nat}(ok:GOk G)(g:AK G f k):∀{n i x y:Nat},Al G i (n:Int)->x<2^n->y<2^n->cellF f n i x y=cellF G n i x y
|0,_,_,_,_,_,_=>rfl
|n+1,i,x,y,h,hx,hy=>by
 refine xe5 (BC ok h) λq a b c d e=>?_;rw[BF e hx hy,BF (e.app g) hx hy];exact UA ok g (e.nat (Dy hx hy)).2 (M8 _ (Bo n)) (M8 _ (Bo n))
theorem FN(e:G=G0++r)(ok:GOk G):∀{n x y:Nat},n<=48->x<2^n->y<2^n->cellF G n (bareN n) x y=0
|0,_,_,_,_,_=>rfl
|n+1,x,y,hn,hx,hy=>by
 refine xe5 (BC ok (IB e (n:=n+1) hn)) λq a b c d k=>?_;have l:a=bareN n/\b=bareN n/\c=bareN n/\d=bareN n:=by
  have g:=k.g;rw[show bareN (n+1)=8+n from rfl,aBC e n A0]at g;cases g;have s:=k.ps;injection s with s0 s
  injection s with s1 s
  injection s with s2 s
  injection s with s3 s
  exact⟨(A1f s0).symm,(A1f s1).symm,(A1f s2).symm,(A1f s3).symm⟩
 refine xa3 l λf h i j=>?_;clear l;subst f;subst h;subst i;subst j;rw[BF k hx hy];have:f4 (bareN n) (bareN n) (bareN n) (bareN n) (quad n x y)=bareN n:=by unfold f4;split<;>rfl
 rw[this];exact FN e ok A0 (M8 _ (Bo n)) (M8 _ (Bo n))
theorem Gx{n k x y:Nat}(c:k<4)(a:x<2^n)(b:y<2^n):(x+2^n*(k%2))<2^(n+1)/\(y+2^n*(k/2))<2^(n+1)/\quad n (x+2^n*(k%2)) (y+2^n*(k/2))=k/\(x+2^n*(k%2))%2^n=x/\(y+2^n*(k/2))%2^n=y:=by
 have p:=Bo n;have e:2^(n+1)=2*2^n:=by rw[L9];lia
 unfold quad;rw[O8 _ _ p,O8 _ _ p,Q7,Q7,O6 a,O6 b,P6 a,P6 b,e];generalize 2^n=h at *
 match k,c with
 |0,_=>exact⟨by lia,by lia,Z,Z,Z⟩
 |1,_=>exact⟨by lia,by lia,Z,Z,Z⟩
 |2,_=>exact⟨by lia,by lia,Z,Z,Z⟩
 |3,_=>exact⟨by lia,by lia,Z,Z,Z⟩
theorem NT(ok:GOk G):∀{n i j:Nat},Al G i (n:Int)->Al G j (n:Int)->(∀x y,x<2^n->y<2^n->cellF G n i x y=cellF G n j x y)->i=j
|0,i,j,_,_,h=>h 0 0 A6 A6
|n+1,i,j,hi,hj,h=>by
 refine xe5 (BC ok hi) λq a b c d l=>xe5 (BC ok hj) λE r b' s d' f=>?_;have e:∀k,k<4->f4 a b c d k=f4 r b' s d' k:=λk p=>by
  refine NT ok (l.nat p).2 (f.nat p).2 λx y w z=>xa4 (Gx p w z) λm o t u v=>?_;have:=h _ _ m o;rw[BF l m o,BF f m o,t,u,v]at this;exact this
 have A:=e 0 A6;have B:=e 1 A6;have C:=e 2 A6;have D:=e 3 A6;subst A B C D;exact ok.one l.g f.g (l.ps.trans f.ps.symm)
theorem Tk(a:x/2^n=X/2^n)(b:x%2^n=X%2^n):x=X:=by
 rw[<-N9 x (2^n),<-N9 X (2^n),a,b]
theorem Tz(ok:GOk G)(t:s<8):∀{n i X Y r x y:Nat},X<2^n->Y<2^n->x<2^n->y<2^n->Rep G s n i X Y r->cellF G n r x y=if x=X/\y=Y then s else cellF G n i x y
|0,i,X,Y,r,x,y,hX,hY,hx,hy,h=>by
 have h:=h;have v:=T7.mp hX;have w:=T7.mp hY;have E:=T7.mp hx;have F:=T7.mp hy;subst v w E F h;rfl
|n+1,i,X,Y,r,x,y,hX,hY,hx,hy,h=>by
 refine xe5 h λq a b c d o=>?_;refine AS o λj u p e=>?_;have K:=p.lev ok t;have lst:∀l,l<4->Al G (st4 a b c d (quad n X Y) j l) (n:Int):=λl hi=>by
  unfold st4;split
  .exact K
  .exact(u.nat hi).2
 have L:IC G n r _ (st4 a b c d (quad n X Y) j 0) (st4 a b c d (quad n X Y) j 1) (st4 a b c d (quad n X Y) j 2) (st4 a b c d (quad n X Y) j 3):=⟨e,Z,Z,lst 0 A6,lst 1 A6,lst 2 A6,lst 3 A6⟩
 have M:=Dy hx hy;rw[BF L hx hy,BF u hx hy,Qi (st4 a b c d (quad n X Y) j) M];have m:=Bo n;have P:=EY hx;have Q:=EY hy;have N:=EY hX;have O:=EY hY;unfold st4;by_cases g:quad n x y=quad n X Y
 .rw[A0e g,Tz ok t (M8 _ m) (M8 _ m) (M8 _ m) (M8 _ m) p,g];have k:x/2^n=X/2^n/\y/2^n=Y/2^n:=by
   unfold quad at g;generalize x/2^n=A at *
   generalize X/2^n=B at *
   generalize y/2^n=C at *
   generalize Y/2^n=D at *
   lia
  obtain⟨H,I⟩:=k;by_cases f:x=X/\y=Y
  .rw[A0e f,A0e ⟨by rw[f.1],by rw[f.2]⟩]
  .rw[A0c f,A0c λz=>f ⟨Tk H z.1,Tk I z.2⟩]
 .rw[A0c g,A0c λz=>g (by rw[z.1,z.2])]
noncomputable def fieldF(G:Gv)(n f:Nat)(x y:Int):Nat:=if -(2^n)<=x/\x<2^n/\-(2^n)<=y/\y<2^n then cellF G (n+1) f (x+2^n).toNat (y+2^n).toNat else 0
theorem GE(a:-(2^n)<=x)(b:x<2^n):(x+2^n).toNat<2^(n+1):=by
 have e:=FB (n+1);rw[De]at e;lia
theorem Iz{k n f:Nat}(ok:GOk G)(b:AK G a k)(h:Al G f ((n+1:Nat):Int))(x y:Int):fieldF a n f x y=fieldF G n f x y:=by
 unfold fieldF;split
 .rename_i z;exact UA ok b h (GE z.1 z.2.1) (GE z.2.2.1 z.2.2.2)
 .rfl
theorem Sz(u:Nat)(a:h*u<=X)(b:X<h*(u+1)):X/h=u/\X%h=X-h*u:=by
 have e:=Nat.div_eq_of_lt_le (by rw[Z2];exact a) (by rw[Z2];exact b);exact⟨e,by have:=N9 X h;rw[e]at this;lia⟩
theorem MG(x n:Nat):x%2^(n+1)%2^n=x%2^n:=Nat.mod_mod_of_dvd x ⟨2,by rw[L9]⟩
theorem NS{c:Nat->Nat->Nat}(h:OA G n i qs c)(d:x<2^(n+2))(e:y<2^(n+2)):cellF G (n+2) i x y=cellF G n (c (quad (n+1) x y) (quad n (x%2^(n+1)) (y%2^(n+1)))) (x%2^n) (y%2^n):=by
 obtain⟨q,g⟩:=h.node;have f:=Dy (l:=n+1) d e;have a:x%2^(n+1)<2^(n+1):=M8 _ (Bo _);have b:y%2^(n+1)<2^(n+1):=M8 _ (Bo _);obtain⟨j,nk⟩:=h.sub _ f;rw[BF g d e,Qi qs f,BF nk a b,Qi (c _) (Dy a b),MG,MG]
theorem aF1(e:u<2*h):(u+h)/(2*h)=u/h/\(u+h)%(2*h)/h=1-u/h/\(u+h)%h=u%h/\u/h<2:=by
 have p:0<h:=by lia
 rcases Nat.lt_or_ge u h with z|z
 .have a:=O6 z;have b:(u+h)/(2*h)=0:=O6 A0;have c:(u+h)%(2*h)=u+h:=P6 A0;have d:(u+h)/h=1:=(Sz (X:=u+h) 1 A0 A0).1;exact⟨by rw[a,b],by rw[c,d,a],Nat.add_mod_right u h,by lia⟩
 .have a:u/h=1:=(Sz 1 A0 A0).1;have b:=Sz (h:=2*h) (X:=u+h) 1 A0 A0;have c:(u+h-2*h*1)/h=0:=O6 A0;exact⟨by rw[a,b.1],by rw[b.2,c,a],Nat.add_mod_right u h,by lia⟩
theorem QW(n:Nat):2^(n+1)=2*2^n:=by rw[L9];lia
theorem aBc(ok:GOk G)(h:OA G n i qs a)(E:G[m]?=o3 ⟨[(a 0 3:Int),(a 1 2:Int),(a 2 1:Int),(a 3 0:Int)],(n:Int)+1⟩)(d:u<2^(n+1))(f:v<2^(n+1)):cellF G (n+2) i (u+2^n) (v+2^n)=cellF G (n+1) m u v:=by
 have c:∀k j,k<4->j<4->Al G (a k j) (n:Int):=λk j F o=>by
  obtain⟨q,nk⟩:=h.sub k F;have:=(nk.nat o).2;rw[Qi (a k) o]at this;exact this
 have nm:IC G n m _ (a 0 3) (a 1 2) (a 2 1) (a 3 0):=⟨E,Z,Z,c 0 3 A6 A6,c 1 2 A6 A6,c 2 1 A6 A6,c 3 0 A6 A6⟩
 have l:=QW n;have H:=QW (n+1);have p:=Bo n;rw[NS h A0 A0,BF nm d f];unfold quad;rw[l];rw[l]at d f;apply AT;intro s b;refine xa3 (aF1 d) λt w x y=>xa3 (aF1 f) λB b2 C D=>?_;apply b;clear b s;rw[t,w,x,B,b2,C];have two:∀{A:Nat},A<2->A=0\/A=1:=λ{A} h=>by lia
 have e:=two y;have g:=two D;rcases e with z|z<;>rcases g with r|r<;>rw[z,r]<;>rfl
theorem aAT{m X Y:Nat}{x y:Int}(j:(X:Int)=x+2^(m+1))(k:(Y:Int)=y+2^(m+1))(o:X<2^(m+2))(q:Y<2^(m+2)):quad m (X%2^(m+1)) (Y%2^(m+1))+quad (m+1) X Y=3↔(-(2^m)<=x/\x<2^m/\-(2^m)<=y/\y<2^m):=by
 have p:=Bo m;have c:=QW m;have H:=QW (m+1);have E:=FB m;have i:=FB (m+1);rw[c]at i;unfold quad;rw[c];rw[H,c]at o q;rw[<-i]at j k;rw[<-E];generalize 2^m=h at *
 have a:∀{X:Nat}{x:Int},(X:Int)=x+((2*h:Nat):Int)->X<2*(2*h)->(X%(2*h)/h+X/(2*h)=1 ↔ -(h:Int)<=x/\x<(h:Int))/\X%(2*h)/h<2/\X/(2*h)<2:=by
  intro X x e l;have n:0<2*h:=by lia
  have M:X/(2*h)<2:=by rw[X4 n];exact l
  have N:X%(2*h)<2*h:=M8 _ n;have L:X%(2*h)/h<2:=by rw[X4 p];exact N
  have G:=N9 X (2*h);have F:=N9 (X%(2*h)) h;have S:=M8 (X%(2*h)) p;refine⟨?_,L,M⟩;generalize X/(2*h)=u at *
  generalize X%(2*h)/h=v at *
  generalize X%(2*h)%h=t at *
  generalize X%(2*h)=T at *
  have I:u=0\/u=1:=by lia
  have K:v=0\/v=1:=by lia
  rcases I with rfl|rfl<;>rcases K with rfl|rfl<;>simp only[Nat.mul_zero,Nat.mul_one,O2]at F G<;>lia
 refine xa2 (a j o) λr U V=>xa2 (a k q) λs W y2=>?_;clear a;generalize X%(2*h)/h=A at *
 generalize X/(2*h)=B at *
 generalize Y%(2*h)/h=C at *
 generalize Y/(2*h)=D at *
 constructor
 .intro z;have f:=r.mp A0;have g:=s.mp A0;exact⟨f.1,f.2,g.1,g.2⟩
 .rintro d;apply AT;intro w b;refine xa3 d λO P Q R=>?_;apply b;clear b w;have f:=r.mpr ⟨O,P⟩;have g:=s.mpr ⟨Q,R⟩;lia
theorem Ra{G r:Gv}(t:G=G0++r)(ok:GOk G){n i m:Nat}(I:n<=46){qs:L_}{d:Nat->Nat->Nat}(h:OA G n i qs d)(s:BA n d)(u:G[m]?=o3 ⟨[(d 0 3:Int),(d 1 2:Int),(d 2 1:Int),(d 3 0:Int)],(n:Int)+1⟩)(x y:Int):fieldF G (n+1) i x y=fieldF G n m x y:=by
 have K:=De n;have p:=OG n;unfold fieldF;by_cases b:-(2^n)<=x/\x<2^n/\-(2^n)<=y/\y<2^n
 .apply AT;intro e a;refine xa3 b λj k l o=>?_;apply a;clear a e;rw[A0e ⟨by lia,by lia,by lia,by lia⟩,A0e ⟨j,k,l,o⟩];have A:=GE j k;have B:=GE l o;have c:=FB n;have v:(x+2^(n+1)).toNat=(x+2^n).toNat+2^n:=by lia
  have w:(y+2^(n+1)).toNat=(y+2^n).toNat+2^n:=by lia
  rw[v,w];exact aBc ok h u A B
 .rw[A0c b];split
  .rename_i z;apply AT;intro e a;refine xa3 z λD E F H=>?_;apply a;clear a e;have f:=GE D E;have g:=GE F H;rw[NS h f g];have C:¬quad n ((x+2^(n+1)).toNat%2^(n+1)) ((y+2^(n+1)).toNat%2^(n+1))+quad (n+1) (x+2^(n+1)).toNat (y+2^(n+1)).toNat=3:=λq=>b ((aAT (R5 A0) (R5 A0) f g).mp q);rw[s _ _ (Dy f g) (Dy (M8 _ (Bo _)) (M8 _ (Bo _))) C];exact FN t ok A0 (M8 _ (Bo _)) (M8 _ (Bo _))
  .rfl
theorem IF(b:G=G0++p)(ok:GOk G):∀{n f r:Nat},n<=47->Al G f ((n+1:Nat):Int)->FD G (n+1) f r->∃m,m<=n/\Al G r ((m+1:Nat):Int)/\Lm G m r/\∀x y,fieldF G m r x y=fieldF G n f x y
|0,f,r,_,hl,h=>by
 have h:=h;subst h;exact⟨0,C0 _,hl,.inl Z,λ_ _=>Z⟩
|n+1,f,r,hn,hl,h=>by
 apply AT;intro e a;refine BJ h λqs o d h=>?_;apply a;clear a e;rcases h with ⟨l,rfl⟩|⟨g,m,c,h⟩
 .exact⟨n+1,C0 _,hl,.inr ⟨n,qs,o,Z,d,l⟩,λ_ _=>Z⟩
 .obtain⟨k,q,j,tk,i⟩:=IF b ok A0 ⟨_,c,by show(n:Int)+1=_;lia⟩ h;refine⟨k,by lia,j,tk,λx y=>?_⟩;rw[i x y,Ra b ok A0 d g c x y]
theorem Ye(v:G=G0++r)(ok:GOk G)(K:n<=46)(h:Wid G n f w)(x y:Int):fieldF G (n+1) w x y=fieldF G n f x y:=by
 apply AT;intro E o;refine xe5 h.ex λq a b c d t=>?_;refine Cm t λM N O P m z A B u=>?_;refine xa u λC H=>?_;apply o;clear o E;have i:=IB v (n:=n) A0;have s:∀{p:Nat}{l:I_},G[p]?=o3 ⟨l,(n:Int)+1⟩->Al G p ((n+1:Nat):Int):=λ{p l} e=>⟨_,e,by show(n:Int)+1=_;lia⟩
 have F:OA G n w (f4 M N O P) (λk j=>if j+k=3 then f4 a b c d k else bareN n):=by
  refine⟨⟨_,H,Z,by show(n:Int)+2=_;lia,s z,s A,s B,s C⟩,λk I=>?_⟩
  match k,I with
  |0,_=>exact⟨_,z,Z,Z,i,i,i,m.hx⟩
  |1,_=>exact⟨_,A,Z,Z,i,i,m.hy,i⟩
  |2,_=>exact⟨_,B,Z,Z,i,m.hz,i,i⟩
  |3,_=>exact⟨_,C,Z,Z,m.hw,i,i,i⟩
 have g:=m.g;have l:=m.lev;have D:=m.ps;refine Ra v ok K F (λk j _ _ L=>A0c L) ?_ x y;rw[g];cases q with
 |mk R Q=>cases D;cases l;rfl
theorem LP(a:G=G0++r)(ok:GOk G):∀{k w:Nat},n+k<=46->NW G n f k w->∀x y,fieldF G (n+k) w x y=fieldF G n f x y
|0,w,_,h,x,y=>by
 have h:=h;subst h;rfl
|k+1,w,hk,h,x,y=>by
 refine xea h λu b c=>?_;rw[show n+(k+1)=n+k+1 by lia,Ye a ok A0 c x y];exact LP a ok A0 b x y
theorem TF(e:G=G0++p)(ok:GOk G){n f s r k w i:Nat}(g:s<8)(h:LC G n f X Y s r k w i):∃m,m<=40/\Al G r ((m+1:Nat):Int)/\Lm G m r/\∀x y,fieldF G m r x y=if x=X/\y=Y then s else fieldF G n f x y:=by
 have le:=h.le;have d:=h.rep.lev ok g;refine Dh (IF e ok A0 d h.tr) λm E o t l=>⟨m,by lia,o,t,λx y=>?_⟩
 rw[l x y,<-LP e ok A0 h.wid x y];apply AT;intro c a;refine xa3 (WD h.li) λj b2 C D=>xa3 h.li λF H I K=>?_;apply a;clear a c;unfold fieldF;split
 .rename_i z;apply AT;intro c a;refine xa3 z λu v A B=>?_;apply a;clear a c;rw[Tz ok g j b2 (GE u v) (GE A B) h.rep];by_cases b:x=X/\y=Y
  .rw[A0e b,A0e ⟨by rw[b.1],by rw[b.2]⟩]
  .rw[A0c b,A0c λq=>b ⟨by lia,by lia⟩]
 .rename_i z;rw[A0c λq=>z ⟨by lia,by lia,by lia,by lia⟩]
theorem aBT{G r:Gv}(a:G=G0++r)(ok:GOk G){n i:Nat}(b:n<=48)(h:Al G i (n:Int))(e:i≠bareN n):∃x y,x<2^n/\y<2^n/\cellF G n i x y≠0:=by
 refine A2e λz=>e (NT ok h (IB a b) λx y c d=>?_);rw[FN a ok b c d];exact A2e λq=>z ⟨x,y,c,d,q⟩
theorem SY{G r:Gv}(L:G=G0++r)(ok:GOk G){m f:Nat}(V:m<=46)(h:Lm G (m+1) f):∃x y:Int,¬(-(2^m)<=x/\x<2^m/\-(2^m)<=y/\y<2^m)/\fieldF G (m+1) f x y≠0:=by
 rcases h with h|⟨a,qs,s,e,B,Q⟩
 .lia
 .have:a=m:=by lia
  subst this;have:∃k j,k<4/\j<4/\j+k≠3/\s k j≠bareN a:=by
   refine A2e λz=>Q λk j g d p=>A2e λq=>z ⟨k,j,g,d,p,q⟩
  apply AT;intro i b;refine CC this λk j g d p c=>?_;obtain⟨W,nk⟩:=B.sub k g;apply b;clear b i;have P:Al G (s k j) (a:Int):=by
   have:=(nk.nat d).2;rw[Qi (s k) d]at this;exact this
  refine AN (aBT L ok A0 P c) λu v N O M=>?_;apply AT;intro i b;refine xa4 (Gx d N O) λC D t E F=>xa4 (Gx (n:=a+1) g C D) λw b2 A l o=>?_;apply b;clear b i;generalize T:u+2^a*(j%2)+2^(a+1)*(k%2)=X at *
  generalize U:v+2^a*(j/2)+2^(a+1)*(k/2)=Y at *
  have S:=FB (a+1);have H:=FB (a+2);have R:=De (a+1);rw[R]at H;refine⟨(X:Int)-2^(a+1),(Y:Int)-2^(a+1),λz=>p ?_,?_⟩
  .have:=(aAT (X:=X) (Y:=Y) A0 A0 w b2).mpr z;rw[A,l,o,t]at this;exact this
  .unfold fieldF;rw[A0e ⟨by lia,by lia,by lia,by lia⟩,show((X:Int)-2^(a+1)+2^(a+1)).toNat=X by lia,show((Y:Int)-2^(a+1)+2^(a+1)).toNat=Y by lia,NS B w b2,A,l,o,t];have I:X%2^a=u:=by rw[<-MG,l,E]
   have K:Y%2^a=v:=by rw[<-MG,o,F]
   rw[I,K];exact M
theorem Qh(i:G=G0++r)(ok:GOk G)(j:n<=47)(d:m<=47)(l:Al G f ((n+1:Nat):Int))(c:Al G a ((m+1:Nat):Int))(t:Lm G n f)(t':Lm G m a)(h:∀x y,fieldF G n f x y=fieldF G m a x y):n=m/\f=a:=by
 have le:∀{n m f a:Nat},m<=47->Lm G m a->(∀x y,fieldF G n f x y=fieldF G m a x y)->m<=n:=by
  intro n m f a d t' h;refine P8 λz=>?_;obtain⟨k,rfl⟩:∃k,m=k+1:=⟨m-1,by lia⟩
  refine BJ (SY i ok A0 t') λx y out b=>?_;rw[<-h x y]at b;unfold fieldF at b;split at b
  .rename_i q;have:(2:Int)^n<=2^k:=by
    have:=O7 (show 0<2 by decide) (show n<=k by lia)
    exact_mod_cast this
   exact out ⟨by lia,by lia,by lia,by lia⟩
  .exact b Z
 have s:=le d t' h;have u:=le j t λx y=>(h x y).symm;have e:n=m:=by lia
 subst e;refine⟨Z,NT ok l c λx y v w=>?_⟩;have p:=FB n;have g:=FB (n+1);have o:=De n;rw[o]at g;have:=h ((x:Int)-2^n) ((y:Int)-2^n);unfold fieldF at this;rw[A0e ⟨by lia,by lia,by lia,by lia⟩,A0e ⟨by lia,by lia,by lia,by lia⟩,show((x:Int)-2^n+2^n).toNat=x by lia,show((y:Int)-2^n+2^n).toNat=y by lia]at this;exact this
def Fix:HO->Prop
|.tup _=>True
|.ins _ _ _=>True
|_=>False
def Fx(l:H_)(H H':Hp):Prop:=∀b o,H b=o3 o->(b∈l->Fix o)->H' b=o3 o
theorem Fx.refl(l:H_)(H:Hp):Fx l H H:=λ_ _ e _=>e
theorem Fx.trans{a c d:Hp}(h:Fx l a c)(f:Fx l c d):Fx l a d:=λb o e n=>f b o (h b o e n) n
theorem Ay.fx{a c:Hp}(h:Ay a c):Fx l a c:=λb o e _=>h b o e
theorem Fx.mono{a c:Hp}(h:Fx l a c)(s:∀x∈l,x∈m):Fx m a c:=λb o e n=>h b o e λz=>n (s b z)
theorem Fx.get{a c:Hp}(h:Fx l a c)(n:b∉l)(e:a b=o3 o):c b=o3 o:=h b o e λz=>absurd z n
theorem Fx.tup{l:H_}{a c:Hp}(h:Fx l a c){b:R_}{xs:List V}(e:a b=o3 (.tup xs)):c b=o3 (.tup xs):=h b _ e λ_=>True.intro
theorem aGD{o c:HO}(e:H x=o3 o)(n:¬Fix o):Fx [x] H (upd H x c):=λb u a f=>by
 by_cases z:b=x
 .subst z;rw[e]at a;cases a;exact absurd (f (D4.mpr Z)) n
 .rw[Av z];exact a
theorem FrQ.fx{H c:Hp}(h:FrQ g H c)(d:AX a H g G):Fx [g.am,g.bx] H c:=λb o e f=>by
 refine xea d.am λks i _=>xea d.bx λk j _=>h b o e (λz=>?_) (λz=>?_)
 .subst z;rw[i]at e;cases e;exact f B0
 .subst z;rw[j]at e;cases e;exact f B0
noncomputable def Dl(g:GA):List Addr:=[g.lv,g.pt,g.nm,g.br,g.am,g.bx]
theorem AX.fx{H c:Hp}(h:AX a H g G)(f:Fx l H c)(n:∀x∈Dl g,x∉l):AX a c g G:=by
 obtain⟨at',ok,w,k,⟨ks,y,A⟩,⟨d,B,j⟩,D,E,F⟩:=h;obtain⟨I,K,⟨P,L,M⟩,N,O⟩:=at';have m:∀x∈Dl g,∀o,H x=o3 o->c x=o3 o:=λx C o e=>f.get (n x C) e;refine⟨⟨f _ _ I λ_=>True.intro,m _ (by simp[Dl]) _ K,⟨P,m _ (by simp[Dl]) _ L,PairedM.imp (λt q z=>f.tup z) M⟩,m _ (by simp[Dl]) _ N,O⟩,ok,w,m _ (by simp[Dl]) _ k,⟨ks,m _ (by simp[Dl]) _ y,A⟩,⟨d,m _ (by simp[Dl]) _ B,j.keys,λi v e=>?_⟩,D,E,F⟩;exact Fz (j.val i v e) λl b t p r s u=>⟨l,b,t,p,r,s,f.tup u⟩
theorem Ay.noneOf(s:Ay H a)(n:a x=o4):H x=o4:=by
 cases e:H x with
 |none=>rfl
 |some o=>rw[s _ _ e]at n;cases n
structure Nw(H:Hp)(l:H_):Prop where
nd:l.Nodup
s:∀x∈l,∃o,H x=o3 o
theorem AX.nw(h:AX a H g G):Nw H (Dl g):=by
 obtain⟨⟨_,f,⟨v,i,_⟩,b,p⟩,_,_,j,⟨ks,c,_⟩,⟨q,d,_⟩,r,s,u⟩:=h;have t:∀{x y:R_}{o k:HO},H x=o3 o->H y=o3 k->o≠k->x≠y:=λ{x y o k} e m n=>AE e m n;refine⟨?_,λx l=>?_⟩
 .simp only[Dl,O0,C4,F6,A2h,A8f,A6h,R6,and_true];exact⟨⟨p,t f b A4,A1b r,t f c A4,t f d A4⟩,⟨t i b A4,A1b s,t i c A4,t i d A4⟩,⟨t b j A4,t b c A4,t b d A4⟩,⟨t j c A4,t j d A4⟩,u⟩
 .simp only[Dl,C4,F6,A2h]at l;rcases l with rfl|rfl|rfl|rfl|rfl|rfl
  .exact⟨_,f⟩
  .exact⟨_,i⟩
  .exact⟨_,b⟩
  .exact⟨_,j⟩
  .exact⟨_,c⟩
  .exact⟨_,d⟩
theorem DP(h:upd H x o y=o4):H y=o4:=by
 by_cases e:y=x
 .subst e;rw[Af]at h;cases h
 .rw[Av e]at h;exact h
theorem UL.none{a:Ad}{H c:Hp}{x e:R_}{o l:HO}{g:GA}{G:Gv}{B:I_}{d:List (Key×V)}(N:UL a (upd (upd H e o) x l) c g G B d):∀y∈Dl g,H y=o4:=λy b=>by
 refine xa5 N.fresh λf h i f4 j k=>?_;simp only[Dl,C4,F6,A2h]at b;rcases b with rfl|rfl|rfl|rfl|rfl|rfl
 .exact DP (DP f)
 .exact DP (DP h)
 .exact DP (DP i)
 .exact DP (DP f4)
 .exact DP (DP j)
 .exact DP (DP k)
theorem Ay.fxn{H a c:Hp}(s:Ay H a)(f:Fx m a c)(n:∀y∈m,H y=o4):Ay H c:=λb o e=>f.get (λz=>by rw[n b z]at e;cases e) (s _ _ e)
structure Qq(L:Int->Int->Prop)(b:Bx):Prop where
inn:∀u v,L u v->b.l<=u/\u<b.l+b.w/\b.t<=v/\v<b.t+b.h
le:∃v,L b.l v
to:∃u,L u b.t
ri:∃v,L (b.l+b.w-1) v
bo:∃u,L u (b.t+b.h-1)
theorem Ub(h:l≠[]):mnL l∈l/\∀x∈l,mnL l<=x:=by
 unfold mnL;cases e:l.min? with
 |none=>exact absurd (List.min?_eq_none_iff.mp e) h
 |some m=>exact List.min?_eq_some_iff.mp e
theorem TZ(h:l≠[]):mxL l∈l/\∀x∈l,x<=mxL l:=by
 unfold mxL;cases e:l.max? with
 |none=>exact absurd (List.max?_eq_none_iff.mp e) h
 |some m=>exact List.max?_eq_some_iff.mp e
theorem Yi{bs:List Bx}(d:bs≠[])(a:∀b∈bs,∃M:Int->Int->Prop,Qq M b/\∀u v,M u v->L u v)(I:∀u v,L u v->∃b∈bs,b.l<=u/\u<b.l+b.w/\b.t<=v/\v<b.t+b.h):Qq L (Qa bs):=by
 have Q:bs.map (·.l)≠[]:=λz=>d (R3.mp z);have R:bs.map (·.t)≠[]:=λz=>d (R3.mp z);have S:(bs.map λb=>b.l+b.w)≠[]:=λz=>d (R3.mp z);have T:(bs.map λb=>b.t+b.h)≠[]:=λz=>d (R3.mp z);obtain⟨K,n⟩:=Ub Q;obtain⟨N,o⟩:=Ub R;obtain⟨O,p⟩:=TZ S;obtain⟨P,r⟩:=TZ T;refine xea (F1.mp K) λy e G=>xea (F1.mp N) λb2 f H=>xea (F1.mp O) λA g k=>xea (F1.mp P) λB i m=>?_;unfold Qa;refine⟨λu v q=>?_,?_,?_,?_,?_⟩
 .refine Dh (I u v q) λb c U V j=>?_;refine xa j λW X=>?_;have C:=n _ (F1.mpr ⟨b,c,Z⟩);have D:=o _ (F1.mpr ⟨b,c,Z⟩);have E:=p _ (F1.mpr ⟨b,c,Z⟩);have F:=r _ (F1.mpr ⟨b,c,Z⟩);dsimp only at C D E F⊢;lia
 .refine xea (a y e) λM t s=>?_;obtain⟨v,x⟩:=t.le;exact⟨v,by rw[G]at x;exact s _ _ x⟩
 .refine xea (a b2 f) λM t s=>?_;obtain⟨v,x⟩:=t.to;exact⟨v,by rw[H]at x;exact s _ _ x⟩
 .refine xea (a A g) λM t s=>?_;obtain⟨v,x⟩:=t.ri;refine⟨v,?_⟩;dsimp only at k⊢;rw[k]at x;have:=s _ _ x;rw[show mnL (bs.map (·.l))+(mxL (bs.map λb=>b.l+b.w)-mnL (bs.map (·.l)))-1=mxL (bs.map λb=>b.l+b.w)-1 by lia];exact this
 .refine xea (a B i) λM t s=>?_;obtain⟨v,x⟩:=t.bo;refine⟨v,?_⟩;dsimp only at m⊢;rw[m]at x;have:=s _ _ x;rw[show mnL (bs.map (·.t))+(mxL (bs.map λb=>b.t+b.h)-mnL (bs.map (·.t)))-1=mxL (bs.map λb=>b.t+b.h)-1 by lia];exact this
theorem PX:∀{a:List (Option Bx)}{k:Nat},b∈Ef half k a ↔ ∃(j:Nat)(c:Bx),a[j]?=o3 (o3 c)/\b=shB half (k+j) c
|[],k=>⟨(λh=>by cases h),(λh=>by refine BJ h λj c h _=>?_;simp at h)⟩
|none::r,k=>by
 rw[show Ef half k (o4::r)=Ef half (k+1) r from rfl,PX];constructor
 .intro f;refine BJ f λj c h e=>?_;exact⟨j+1,c,by simpa using h,by rw[e,show k+1+j=k+(j+1) by lia]⟩
 .intro g;refine BJ g λj c h e=>?_;cases j with
  |zero=>simp at h
  |succ j=>exact⟨j,c,by simpa using h,by rw[e,show k+1+j=k+(j+1) by lia]⟩
|some d::r,k=>by
 rw[show Ef half k (o3 d::r)=shB half k d::Ef half (k+1) r from rfl,C4,PX];constructor
 .rintro(h|⟨j,c,h,e⟩)
  .exact⟨0,d,Z,h⟩
  .exact⟨j+1,c,by simpa using h,by rw[e,show k+1+j=k+(j+1) by lia]⟩
 .intro i;refine BJ i λj c h e=>?_;cases j with
  |zero =>
   have h:d=c:=by simpa using h
   subst h;exact .inl e
  |succ j=>exact .inr ⟨j,c,by simpa using h,by rw[e,show k+1+j=k+(j+1) by lia]⟩
def Lv(G:Gv)(n i:Nat)(u v:Int):Prop:=∃a b:Nat,u=a/\v=b/\a<2^n/\b<2^n/\cellF G n i a b≠0
theorem WB{q:Sq}{a b c d:Nat}(w:IC G n i q a b c d)(u v:Int):Lv G (n+1) i u v ↔ ∃k,k<4/\Lv G n (f4 a b c d k) (u-2^n*((k:Int)%2)) (v-2^n*((k:Int)/2)):=by
 have j:=FB n;constructor
 .intro h;refine CB h λx y m o f g l=>?_;clear h;subst m;subst o;rw[BF w f g]at l;have I:=EY f;have K:=EY g;refine⟨quad n x y,Dy f g,x%2^n,y%2^n,?_,?_,M8 _ (Bo n),M8 _ (Bo n),l⟩
  .have e:=N9 x (2^n);have p:((quad n x y:Nat):Int)%2=((x/2^n:Nat):Int):=by
    unfold quad;generalize x/2^n=A at *
    generalize y/2^n=B at *
    lia
   rw[p,<-j,<-O5];lia
  .have e:=N9 y (2^n);have p:((quad n x y:Nat):Int)/2=((y/2^n:Nat):Int):=by
    unfold quad;generalize x/2^n=A at *
    generalize y/2^n=B at *
    lia
   rw[p,<-j,<-O5];lia
 .intro r;obtain⟨k,E,x,y,F,H,f,g,l⟩:=r;refine xa4 (Gx E f g) λs t z C D=>⟨x+2^n*(k%2),y+2^n*(k/2),?_,?_,s,t,?_⟩
  .rw[O1,O5,j,show((k%2:Nat):Int)=(k:Int)%2 from rfl];lia
  .rw[O1,O5,j,show((k/2:Nat):Int)=(k:Int)/2 from rfl];lia
  .rw[BF w s t,z,C,D];exact l
theorem QV{L:Int->Int->Prop}{b:Bx}{half:Int}{k:Nat}(h:Qq L b):Qq (λu v=>L (u-half*((k:Int)%2)) (v-half*((k:Int)/2))) (shB half k b):=by
 obtain⟨a,f⟩:=h.le;obtain⟨c,g⟩:=h.to;obtain⟨d,i⟩:=h.ri;obtain⟨e,j⟩:=h.bo;unfold shB;generalize half*((k:Int)%2)=p;generalize half*((k:Int)/2)=q;refine⟨λu v m=>?_,⟨a+q,?_⟩,⟨c+p,?_⟩,⟨d+q,?_⟩,⟨e+p,?_⟩⟩
 .have:=h.inn _ _ m;dsimp only;lia
 .show L (b.l+p-p) (a+q-q);rw[R7,R7];exact f
 .show L (c+p-p) (b.t+q-q);rw[R7,R7];exact g
 .show L (b.l+p+b.w-1-p) (d+q-q);rw[R7,show b.l+p+b.w-1-p=b.l+b.w-1 by lia];exact i
 .show L (e+p-p) (b.t+q+b.h-1-q);rw[R7,show b.t+q+b.h-1-q=b.t+b.h-1 by lia];exact j
theorem NV(ok:GOk G):∀{n i:Nat}{b:Bx},Al G i (n:Int)->Ch G n i=o3 b->Qq (Lv G n i) b
|0,i,b,_,h=>by
 have h:(if i=0 then o4 else o3 (⟨0,0,1,1⟩:Bx))=o3 b:=h;by_cases z:i=0
 .rw[A0e z]at h;cases h
 .rw[A0c z]at h;cases h;have E:Lv G 0 i 0 0:=⟨0,0,Z,Z,by decide,by decide,z⟩
  refine⟨λu v m=>?_,⟨0,E⟩,⟨0,E⟩,⟨0,E⟩,⟨0,E⟩⟩;refine CB m λx y F p s w _=>?_;clear m;subst F;subst p;have s:x<1:=s;have w:y<1:=w;dsimp only;lia
|n+1,i,b,l,h=>by
 refine xe5 (BC ok l) λq a b' c d g=>?_;rw[FO g]at h;have B:∀k,k<4->[Ch G n a,Ch G n b',Ch G n c,Ch G n d][k]?=o3 (Ch G n (f4 a b' c d k)):=λk f=>by
  match k,f with
  |0,_=>rfl
  |1,_=>rfl
  |2,_=>rfl
  |3,_=>rfl
 have A:∀e,e∈Ef (2^n) 0 [Ch G n a,Ch G n b',Ch G n c,Ch G n d] ↔ ∃k o,k<4/\Ch G n (f4 a b' c d k)=o3 o/\e=shB (2^n) k o:=λe=>by
  rw[PX];constructor
  .intro C;refine BJ C λj O L p=>?_;clear C;subst p;have N:j<4:=(B9.mp L).1;rw[B j N]at L;exact⟨j,O,N,A1d L,by rw[O2]⟩
  .intro D;refine AN D λk o f H r=>?_;clear D;subst r;exact⟨k,o,by rw[B k f,H],by rw[O2]⟩
 unfold QA at h;cases K:Ef (2^n) 0 [Ch G n a,Ch G n b',Ch G n c,Ch G n d]with
 |nil=>rw[K]at h;cases h
 |cons S X =>
  rw[K]at h;have h:=A1d h;rw[K]at A;subst h;refine Yi B0 (λe Q=>?_) λu v m=>?_
  .refine AN ((A e).mp Q) λk o f H r=>?_;subst r;refine⟨_,QV (NV ok (g.nat f).2 H),λu v m=>(WB g u v).mpr ⟨k,f,m⟩⟩
  .refine xea ((WB g u v).mp m) λk f m=>?_;cases I:Ch G n (f4 a b' c d k)with
   |none =>
    have P:=(MW ok n _ (g.nat f).2).mp I;exact CB m λx y _ _ s w R=>absurd (cell_none ok (g.nat f).2 P s w) R
   |some o =>
    have t:=QV (half:=2^n) (k:=k) (NV ok (g.nat f).2 I);exact⟨_,(A _).mpr ⟨k,o,f,I,Z⟩,t.inn u v m⟩
where cell_none {G:Gv} (ok:GOk G):∀{n i x y:Nat},Al G i (n:Int)->Cd G n i=0->x<2^n->y<2^n->cellF G n i x y=0
|0,i,x,y,_,h,_,_=>by
 have h:(if i=0 then(0:Int)else 1)=0:=h;show i=0;by_cases z:i=0
 .exact z
 .rw[A0c z]at h;lia
|n+1,i,x,y,l,h,s,w=>by
 refine xe5 (BC ok l) λq a b c d g=>?_;have e:=FM g;have e:Cd G (n+1) i=Cd G n a+(Cd G n b+(Cd G n c+(Cd G n d+0))):=e;have T:=EZ G n a;have U:=EZ G n b;have V:=EZ G n c;have W:=EZ G n d;have M:=Dy s w;rw[BF g s w];refine cell_none ok (g.nat M).2 ?_ (M8 _ (Bo n)) (M8 _ (Bo n));generalize quad n x y=k at M
 match k,M with
 |0,_=>show Cd G n a=0;lia
 |1,_=>show Cd G n b=0;lia
 |2,_=>show Cd G n c=0;lia
 |3,_=>show Cd G n d=0;lia
seal L2.PA L2.PE L2.PS L2.PSs L2.PT L2.PW
theorem Uf(x y:Int):Lv G (n+1) f (x+2^n) (y+2^n)↔fieldF G n f x y≠0:=by
 have c:=FB n;have e:=QW n;constructor
 .intro b;refine CB b λu v j k l m a=>?_;unfold fieldF;rw[A0e ⟨by lia,by lia,by lia,by lia⟩,show(x+2^n).toNat=u by lia,show(y+2^n).toNat=v by lia];exact a
 .intro a;unfold fieldF at a;split at a
  .rename_i z;exact xa3 z λd g h i=>⟨(x+2^n).toNat,(y+2^n).toNat,by lia,by lia,GE d g,GE h i,a⟩
  .exact absurd Z a
noncomputable def mvB(r:Int)(b:Bx):Bx:=⟨b.l+-r,b.t+-r,b.w,b.h⟩
theorem SZ(ok:GOk G)(l:Al G f ((n+1:Nat):Int))(h:Ch G (n+1) f=o3 b):Qq (λx y=>fieldF G n f x y≠0) (mvB (2^n) b):=by
 have t:=NV ok l h;obtain⟨k,c⟩:=t.le;obtain⟨o,d⟩:=t.to;obtain⟨i,e⟩:=t.ri;obtain⟨j,g⟩:=t.bo;have a:∀{u v:Int},Lv G (n+1) f u v->fieldF G n f (u+-(2^n)) (v+-(2^n))≠0:=λ{u v} m=>(Uf _ _).mp (by rw[show u+-(2^n)+2^n=u by lia,show v+-(2^n)+2^n=v by lia];exact m);unfold mvB;refine⟨λx y m=>?_,⟨_,a c⟩,⟨_,a d⟩,⟨i+-(2^n),?_⟩,⟨j+-(2^n),?_⟩⟩
 .have:=t.inn _ _ ((Uf x y).mpr m);dsimp only;lia
 .have:=a e;rw[show b.l+b.w-1+-(2^n)=b.l+-(2^n)+b.w-1 by lia]at this;exact this
 .have:=a g;rw[show b.t+b.h-1+-(2^n)=b.t+-(2^n)+b.h-1 by lia]at this;exact this
section
variable{P:N_}{w:Q_}{K:O_}{mg:C_}{n9:T_}{a:Ad}
inductive WZ(a:Ad)(vs:List V)(H:Hp)(Q:VK):Prop
|mk (g:GA) (G:Gv) (f n:Nat) (_:vs=[.ref g.p,.int f]) (_:AX a H g G) (_:Al G f ((n+1:Nat):Int)) (_:n<48) (_:G.length<8000000) (_:(Ch G (n+1) f=o4->∀H',FrQ g H H'->AX a H' g G->Q .non H')) (_:∀b,Ch G (n+1) f=o3 b->∀t H',FrQ g H H'->AX a H' g G->QO H' t (mvB (2^n) b)->Q (.ref t) H'):WZ a vs H Q
def RN(a:Ad):Sp:=λvs H Q _=>WZ a vs H Q
theorem aBo(F:Fun K "box_of" "box_of" Pl f fd)(T:Top K mg a)(B:BR P w K mg n9 CX0 101 a.J5 "span" Lg (UR a))(y:Cal P w K mg n9 CX0 4 "reach_of" Vj (IG a))(z:Cal P w K mg n9 CX0 1 "shifted_box" QB Mo):AL P w K mg n9 CX0 102 f fd Vj (RN a):=by
 refine F.ok Nf D_9 λC A m s H vs Q E e h=>?_
 obtain⟨g,G,r,n,rfl,u,v,k,few,M,N⟩:=h;refine⟨_,(Ac (Ao (i:=2) Nf.nd Z O_9 (AD (pv 0) B (rm e) Am (Aa (pv 1) Ab))) (Ac (AO (AA Ji (pv 2) DE (AF _)) (Ag (Aw DE)) Az) (Ac (Ao (i:=3) Nf.nd Z O_9 (Ar y (rm e) Z Am (Aa (pv 0) (Aa (pv 1) Ab)))) (Ag (Aw (Ar z (rm e) Z Am (Aa (pv 2) (Aa (Fc Dm (pv 3)) (Aa (Fc Dm (pv 3)) Ab))))))))),?_⟩
 try dsimp only[cxK]
 refine xq1 Z ⟨g.p,g.dx,(xq1 Z ⟨u.at'.hp,aCT g,(xq1 Z ⟨g,G,r,n+1,Z,u,v,by lia,λI q d c=>?_,λb D t q d c L=>?_⟩)⟩)⟩
 .exact xq1 Z ⟨Z,(xq1 Z (Cr (M I q d c)))⟩
 .refine xq1 Z ⟨Z,(xq1 Z (Bc ?_))⟩;refine xw2 Z Z ⟨g,G,r,n,Z,c.at',v,k,?_⟩;refine xw3 Z Z Z (xw2 Z Z ⟨t,b,_,_,Z,L,λt' j=>?_⟩);have x:=AM (o:=.tup [.int (b.l+-(2^n)),.int (b.t+-(2^n)),.int b.w,.int b.h]) j;exact N b D t' _ (d.trans (Ay.frq x)) (c.same x) Af
end
end J
namespace J
open PySem L2
theorem aDW(ok:GOk G):∀{n i x y:Nat},Al G i (n:Int)->x<2^n->y<2^n->cel G n i x y=cellF G n i x y
|0,_,_,_,_,_,_=>rfl
|n+1,i,x,y,h,hx,hy=>by
 refine xe5 (BC ok h) λq a b c d f=>?_;rw[BF f hx hy];have p:=Bo n;have j:x/2^n<2:=Nat.div_lt_of_lt_mul (by rw[L9]at hx;lia);have k:y/2^n<2:=Nat.div_lt_of_lt_mul (by rw[L9]at hy;lia);have e:qO G i ((x/2^n)%2+2*((y/2^n)%2))=f4 a b c d (quad n x y):=by
  have:=(f.nat (Dy hx hy)).1;unfold qO;rw[f.g,P6 j,P6 k];show(q.parts.getD (quad n x y) 0).toNat=_;rw[D3,this];rfl
 show cel G n (qO G i ((x/2^n)%2+2*((y/2^n)%2))) x y=_;rw[e,<-aDW ok (f.nat (Dy hx hy)).2 (M8 _ p) (M8 _ p)];have:=SK G n (f4 a b c d (quad n x y)) (x%2^n) (y%2^n) (x/2^n) (y/2^n);rw[Nat.mod_add_div,Nat.mod_add_div]at this;exact this
theorem OP{α β:Type}(f:α->List β)(m:Nat):∀l:List α,(∀x∈l,(f x).length<=m)->(l.flatMap f).length<=l.length*m
|[],_=>by simp
|a::l,h=>by
 have:=OP f m l λx b=>h x (C9 _ b);have:=h a C8;rw[T8,C6,D8,Nat.succ_mul];lia
structure ZS(a:Ad)(H:Hp)(g:GA)(G:Gv)(Κ:KTy)(N b:Nat)(p dx mem pr:R_)(r:AB)(m:MA):Prop where
jz:JZ a H g G Κ N b p dx mem pr r m
fu:AX a H g G
na:g.am∉m.ds
nb:g.bx∉m.ds
def FrZ(g:GA)(m:MA)(H H':Hp):Prop:=∀b o,H b=o3 o->b∉[g.lv,g.pt,g.nm,g.am,g.bx,m.kc]->b∉m.ds->H' b=o3 o
section
variable{a:Ad}{H H' H1 H2 H3:Hp}{g:GA}{G G':Gv}{Κ:KTy}{N b i:Nat}{p dx mem pr:R_}{r:AB}{m:MA}
theorem FrZ.trans(h:FrZ g m H1 H2)(k:FrZ g m H2 H3):FrZ g m H1 H3:=λb o e c d=>k b o (h b o e c d) c d
theorem Ay.z(s:Ay H H'):FrZ g m H H':=λb o e _ _=>s b o e
theorem Fr.z(f:Fr g H H'):FrZ g m H H':=λb o e c _=>f b o e (λz=>c (by simp[z])) (λz=>c (by simp[z])) (λz=>c (by simp[z]))
theorem FrQ.z(f:FrQ g H H'):FrZ g m H H':=λb o e c _=>f b o e (λz=>c (by simp[z])) (λz=>c (by simp[z]))
theorem FrJ.z(f:FrJ g m H H'):FrZ g m H H':=λb o e c d=>f b o e (λz=>c (by simp[z])) (λz=>c (by simp[z])) (λz=>c (by simp[z])) (λz=>c (by simp[z])) d
theorem ZS.same(h:ZS a H g G Κ N b p dx mem pr r m)(s:Ay H H'):ZS a H' g G Κ N b p dx mem pr r m:=⟨h.jz.same s,h.fu.same s,h.na,h.nb⟩
theorem ZS.mono(h:ZS a H g G Κ N b p dx mem pr r m)(e:b<=b'):ZS a H g G Κ N b' p dx mem pr r m:=⟨h.jz.mono e,h.fu,h.na,h.nb⟩
theorem ZS.fr(h:ZS a H g G Κ N b p dx mem pr r m)(f:Fr g H H')(c:AX a H' g G')(d:AK G G' i):ZS a H' g G' Κ N (b+i) p dx mem pr r m:=⟨h.jz.fr f c.at' d,c,h.na,h.nb⟩
theorem ZS.frQ(h:ZS a H g G Κ N b p dx mem pr r m)(f:FrQ g H H')(k:AX a H' g G):ZS a H' g G Κ N b p dx mem pr r m:=by
 have c:=h.jz.jw;have j:∀{x:R_}{o:HO},H x=o3 o->(∀ks,o≠.dK ks)->H' x=o3 o:=λ{x o} e n=>f _ _ e (h.fu.ne_am e n).1 (h.fu.ne_am e n).2;have v:∀d∈m.ds,∀o,H d=o3 o->H' d=o3 o:=λd u o e=>f _ _ e (λz=>h.na (z▸u)) (λz=>h.nb (z▸u));refine xea c.me.ce λB y _=>?_;have q:=c.me.kp c.ok (AK.refl c.ok) λx o e w=>by
  rcases w with z|z|z|z
  .subst z;exact j e (by rw[c.me.tp]at e;cases e;intro ks z;cases z)
  .subst z;exact j e (by rw[c.me.l]at e;cases e;intro ks z;cases z)
  .exact v x z o e
  .subst z;exact j e (by rw[y]at e;cases e;intro ks z;cases z)
 obtain⟨A,t⟩:=h.jz.cn;refine⟨⟨⟨k.at',c.ok,c.bs,k.br,c.nbr,j c.hp (by intro ks z;cases z),c.ru.kp λx o e n=>j e (by intro ks z;rw[z]at n;cases n),c.rok,c.rest,q⟩,A,t.kp (i:=0) c.ok (AK.refl c.ok) v λs e=>⟨s,j e (by intro ks z;cases z),C0 _⟩⟩,k,h.na,h.nb⟩
theorem ZS.aft(h:ZS a H g G Κ N b p dx mem pr r m)(f:FrJ g m H H')(q:JZ a H' g G' Κ N b p dx mem pr r m)(d:AK G G' i):ZS a H' g G' Κ N b p dx mem pr r m:=by
 have C:=h.jz.jw;refine⟨q,?_,h.na,h.nb⟩;obtain⟨at',ok,⟨T,L⟩,F,⟨ks,M,O⟩,⟨u,P,B⟩,Q,R,S⟩:=h.fu;refine xea at'.pt λus D _=>xea C.me.ce λU y _=>?_;have w:∀{x:R_}{o:HO},H x=o3 o->(∀ks,o≠.dK ks)->x∉m.ds:=λ{x o} e n z=>by
  obtain⟨j,s⟩:=L7 z;refine xea (C.me.sq j x s) λW k _=>?_;rw[e]at k;cases k;exact n _ Z
 obtain⟨t,K⟩:=d.pre;have dk:∀{x:R_}{ks:List (Key×V)},H x=o3 (.dK ks)->x∉m.ds->H' x=o3 (.dK ks):=λ{x ks} e n=>f _ _ e (AE e at'.lv A4) (AE e D A4) (AE e at'.nm A4) (AE e y A4) n;refine⟨q.jw.gr,d.ok,⟨T++t,by rw[K,L,N7]⟩,q.jw.br,⟨ks,dk M h.na,O.app ok d⟩,⟨u,dk P h.nb,B.keys.app d.le,λi v e=>?_⟩,Q,R,S⟩;exact Fz (B.val i v e) λl E t A k I c=>⟨l,E,t,d.lev A,by rw[IA ok d l i A];exact k,I,f _ _ c (AE c at'.lv A4) (AE c D A4) (AE c at'.nm A4) (AE c y A4) (w c (by intro ks z;cases z))⟩
theorem ZS.keep(h:ZS a H g G Κ N b p dx mem pr r m)(f:FrZ g m H H')(e:H x=o3 o)(k:∀xs,o≠.lst xs)(l:∀ks,o≠.dK ks)(n:∀ks,o≠.dT ks):H' x=o3 o:=by
 have d:=h.jz.jw;refine xea h.fu.at'.pt λus u _=>xea d.me.ce λv s _=>?_;have q:=h.fu.ne_am e l;refine f _ _ e (λz=>?_) (λz=>?_)
 .simp only[C4,F6,A2h]at z;rcases z with z|z|z|z|z|z
  .exact AE e h.fu.at'.lv (k _) z
  .exact AE e u (k _) z
  .exact AE e h.fu.at'.nm (n _) z
  .exact q.1 z
  .exact q.2 z
  .exact AE e s (n _) z
 .obtain⟨j,c⟩:=L7 z;exact xea (d.me.sq j x c) λw t _=>AE e t (l _) Z
theorem ZS.new(h:ZS a H g G Κ N b p dx mem pr r m)(n:H x=o4):x∉[g.lv,g.pt,g.nm,g.am,g.bx,m.kc]/\x∉m.ds:=by
 have d:=h.jz.jw;refine xea h.fu.at'.pt λus o _=>xea d.me.ce λq e _=>xea h.fu.am λks k _=>xea h.fu.bx λs l _=>⟨λz=>?_,λz=>?_⟩
 .simp only[C4,F6,A2h]at z;rcases z with rfl|rfl|rfl|rfl|rfl|rfl
  .rw[h.fu.at'.lv]at n;cases n
  .rw[o]at n;cases n
  .rw[h.fu.at'.nm]at n;cases n
  .rw[k]at n;cases n
  .rw[l]at n;cases n
  .rw[e]at n;cases n
 .obtain⟨j,c⟩:=L7 z;refine xea (d.me.sq j x c) λt f _=>?_;rw[f]at n;cases n
end
theorem JW.putL{p f mem k x:R_}(h:JW a H g G N M p f mem k r m)(i:H x=o3 (.lst xs))(s:x≠g.lv)(t:x≠g.pt)(u:x≠g.br)(y:x≠m.l):JW a (upd H x o) g G N M p f mem k r m:=by
 have c:∀{b v},H b=o3 v->(∀l,v≠.lst l)->upd H x o b=o3 v:=λ{b v} e n=>by rw[Av (AE e i (n _))];exact e
 refine⟨h.gr.put i s t,h.ok,h.bs,by rw[Av (A1b u)];exact h.br,h.nbr,c h.hp B2,h.ru.kp λb o e n=>c e λl z=>(by rw[z]at n;cases n),h.rok,h.rest,h.me.kp h.ok (AK.refl h.ok) λb o e w=>?_⟩;rcases w with z|z|z|z
 .have d:=h.me.tp;rw[<-z,e]at d;cases d;exact c e B2
 .rw[z]at e⊢;rw[Av (A1b y)];exact e
 .obtain⟨j,q⟩:=L7 z;refine xea (h.me.sq j b q) λB d _=>?_;rw[e]at d;cases d;exact c e B2
 .refine xea h.me.ce λA d _=>?_;rw[z]at e⊢;rw[e]at d;cases d;exact c e B2
structure ApZ(g:GA)(m:MA)(x:R_):Prop where
n0:x∉[g.lv,g.pt,g.nm,g.am,g.bx,m.kc]
n1:x∉m.ds
n2:x≠g.br
n3:x≠m.l
section
variable{a:Ad}{H H':Hp}{g:GA}{G G':Gv}{Κ:KTy}{N b i:Nat}{p dx mem pr:R_}{r:AB}{m:MA}
theorem ZS.ap(h:ZS a H g G Κ N b p dx mem pr r m)(n:H x=o4):ApZ g m x:=by
 obtain⟨c,d⟩:=h.new n;refine⟨c,d,λz=>?_,λz=>?_⟩
 .rw[z,h.fu.br]at n;cases n
 .rw[z,h.jz.jw.me.l]at n;cases n
theorem ZS.putL(h:ZS a H g G Κ N b p dx mem pr r m)(j:H x=o3 (.lst xs))(ap:ApZ g m x):ZS a (upd H x o) g G Κ N b p dx mem pr r m:=by
 have k:x≠g.lv:=λz=>ap.n0 (by simp[z]);have pt:x≠g.pt:=λz=>ap.n0 (by simp[z]);obtain⟨f,c⟩:=h.jz.cn;refine⟨⟨h.jz.jw.putL j k pt ap.n2 ap.n3,f,c.kp (i:=0) h.jz.jw.ok (AK.refl h.jz.jw.ok) (λd l q e=>?_) λn e=>⟨n,?_,C0 _⟩⟩,h.fu.put j k pt ap.n2,h.na,h.nb⟩
 .rw[Av (λz:d=x=>ap.n1 (z▸l))];exact e
 .rw[Av (AE e j A4)];exact e
end
theorem SF(ok:GOk G)(c:Al G f ((n+1:Nat):Int))(a:x<2^(n+1))(b:y<2^(n+1)):CJ G (n+1) f x y=(fieldF G n f ((x:Int)-2^n) ((y:Int)-2^n):Nat):=by
 unfold CJ fieldF;have p:((2^(n+1):Nat):Int)=2^n+2^n:=by rw[N1];exact De n
 rw[A0e A0,aDW ok c a b];congr 2<;>lia
seal L2.PA L2.PE L2.PS L2.PSs L2.PT L2.PW
section
variable{P:N_}{w:Q_}{K:O_}{mg:C_}{n9:T_}{a:Ad}
inductive aDH(a:Ad)(vs:List V)(H:Hp)(Q:VK):Prop
|mk (g:GA) (G:Gv) (f n e:Nat) (_:vs=[.ref g.p,.int f,.int e]) (_:AJ a H g G) (_:Al G f ((n+1:Nat):Int)) (_:n<=40) (_:e<=40) (_:∀l:Nat,l<=41->n<=l->e<=l->2^n+2^e<=2^l->Q (.int ((l+2:Nat):Int)) H):aDH a vs H Q
def Zz(a:Ad):Sp:=λvs H Q _=>aDH a vs H Q
theorem aEe(F:Fun K "level_for" "level_for" JI f fd)(T:Top K mg a)(I:Cal P w K mg n9 CX0 4 "reach_of" Vj (IG a)):AL P w K mg n9 CX0 5 f fd JQ (Zz a):=by
 refine F.ok FF D_9 λL A x s H vs Q E U h=>?_
 obtain⟨g,G,d,n,e,rfl,S,W,v,r,k⟩:=h;refine⟨_,(Ac (Ao (i:=3) FF.nd Z O_9 (AG AQ (Ar I (rm U) Z Am (Aa (pv 0) (Aa (pv 1) Ab))) (AG NA Ae (pv 2)))) (Ac (Ao (i:=4) FF.nd Z O_9 Ae) (Ac (JM A1c (AA GN (AG NA Ae (AG Cg (pv 4) Ae)) (pv 3) (AF _)) (Ag (Ao (i:=4) FF.nd Z O_9 (AG AQ (pv 4) Ae)))) (Ag (Aw (pv 4)))))),?_⟩
 try dsimp only[cxK]
 refine Bj ?_;intro r1 s1 k1 t E1;refine xw2 Z Z ⟨g,G,d,n,Z,S,W,by lia,?_⟩;refine xwb Z Z Z ⟨⟨by lia,by lia,by decide⟩,(xq2 Z Z ?_)⟩;have M:(2:Int)^n+1*2^(e:Int).toNat=((2^n+2^e:Nat):Int):=by
  rw[L8,Int.one_mul,O1,N1,N1];rfl
 have pn:2^n<=2^40:=O7 A6 v;have pe:2^e<=2^40:=O7 A6 r;have Y:=Bo n;have X:=Bo e;rw[show(λi j:Int=>V.int (i+j)) (2^n) ((λi j:Int=>i*2^j.toNat) 1 (e:Int))=V.int ((2^n+2^e:Nat):Int)from A2f V.int M];generalize O:2^n+2^e=R at k;have D:R<=2^41:=by rw[<-O];lia
 refine t (Bj ?_);intro r2 s2 k2 u E2;refine u ⟨λm σ l=>∃j:Nat,σ=[o3 (.ref g.p),o3 (.int d),o3 (.int (e:Int)),o3 (.int (R:Int)),o3 (.int ((j+2:Nat):Int))]/\l=H/\j+m=41,⟨41,0,Z,Z,Z⟩,?_⟩;intro m σ l c;refine AS c λj o q jm=>?_;clear c;subst o;subst q;refine xwb Z Z Z (xq2 Z Z ⟨⟨by lia,by lia,by decide⟩,(xwb Z Z Z (xq1 Z ?_))⟩);have B:(1:Int)*2^(((j+2:Nat):Int)-2).toNat=((2^j:Nat):Int):=by
  rw[show(((j+2:Nat):Int)-2).toNat=j by lia,Int.one_mul,N1];rfl
 refine Jl (λb=>?_) (λb=>?_)
 .have b:=A2b b;have b:=b;rw[B]at b;have m0:m≠0:=λz=>by
   subst z;have:j=41:=by lia
   subst this;lia
  refine⟨fun σ' y=>∃C:Nat,σ'=[o3 (.ref g.p),o3 (.int d),o3 (.int (e:Int)),o3 (.int (R:Int)),o3 (.int ((C+2:Nat):Int))]/\y=l/\C+(m-1)=41,fun σ' y z=>⟨m-1,by lia,z⟩,?_⟩;have N:((j+2:Nat):Int)+1=((j+1+2:Nat):Int):=by lia
  exact xwb Z Z Z ⟨j+1,A2f (λz:Int=>[o3 (V.ref g.p),o3 (V.int d),o3 (V.int (e:Int)),o3 (V.int (R:Int)),o3 (V.int z)]) N,Z,by lia⟩
 .have b:¬(1:Int)*2^(((j+2:Nat):Int)-2).toNat<(R:Int):=λz=>b (A0d z);rw[B]at b;have le:R<=2^j:=by lia
  refine xq1 Z (k j A0 ?_ ?_ le)
  .refine P8 λz=>?_;have:2^j<2^n:=X7 A6 z;lia
  .refine P8 λz=>?_;have:2^j<2^e:=X7 A6 z;lia
inductive aFu(a:Ad)(vs:List V)(H:Hp)(Q:VK):Prop
|mk (g:GA) (G:Gv) (f n k:Nat) (_:vs=[.ref g.p,.int f,.int ((n+k+1:Nat):Int)]) (_:AX a H g G) (_:Al G f ((n+1:Nat):Int)) (_:n+k<=46) (_:G.length<8000000) (_:∀(v:Nat)(G':Gv)(H':Hp),Fr g H H'->AX a H' g G'->AK G G' (5*k)->NW G' n f k v->Al G' v ((n+k+1:Nat):Int)->Q (.int v) H'):aFu a vs H Q
def aG5(a:Ad):Sp:=λvs H Q _=>aFu a vs H Q
theorem aGj(F:Fun K "widened_to" "widened_to" IJ f fd)(T:Top K mg a)(V:BR P w K mg n9 CX0 3 a.J5 "level_of" Lg (Ob a))(W:Cal P w K mg n9 CX0 4 "widened" Lr (We a)):AL P w K mg n9 CX0 5 f fd IZ (aG5 a):=by
 refine F.ok GU D_9 λX A N s H vs Q E R h=>?_
 obtain⟨g,G,r,n,kk,rfl,O,hl,aa,few,k⟩:=h;refine⟨_,(Ac (Ao (i:=3) GU.nd Z O_9 (pv 1)) (Ac (JM A1c (AA GN (AD (pv 0) V (rm R) Am (Aa (pv 3) Ab)) (pv 2) (AF _)) (Ag (Ao (i:=3) GU.nd Z O_9 (Ar W (rm R) Z Am (Aa (pv 0) (Aa (pv 3) Ab)))))) (Ag (Aw (pv 3))))),?_⟩
 try dsimp only[cxK]
 refine xq1 Z ⟨λm σ y=>∃(d:Gv)(c j:Nat),σ=[o3 (.ref g.p),o3 (.int r),o3 (.int ((n+kk+1:Nat):Int)),o3 (.int c)]/\Fr g H y/\AX a y g d/\AK G d (5*j)/\j+m=kk/\Al d c ((n+j+1:Nat):Int)/\NW d n r j c,⟨kk,G,r,0,Z,Fr.refl g H,O,AK.refl O.ok,by lia,hl,Z⟩,?_⟩;intro m σ y x;refine BV x λd c j D fr b I v=>?_;refine xa2 v λY M U=>?_;clear v;clear x;subst D;have gf:=I.few;refine xea (id M) λq eq el=>xq1 Z ⟨g.p,g.dx,(xq1 Z ⟨b.at'.hp,EL g,(xq1 Z ⟨g,d,c,q,Z,b.at',eq,?_⟩)⟩)⟩;rw[el];refine xwb Z Z Z (xq1 Z (Jl (λu=>?_) (λu=>?_)))
 .have u:=A2b u;refine⟨fun σ' C=>∃(l:Gv)(o B:Nat),σ'=[o3 (.ref g.p),o3 (.int r),o3 (.int ((n+kk+1:Nat):Int)),o3 (.int o)]/\Fr g H C/\AX a C g l/\AK G l (5*B)/\B+(m-1)=kk/\Al l o ((n+B+1:Nat):Int)/\NW l n r B o,fun σ' C z=>⟨m-1,by lia,z⟩,?_⟩;refine xw2 Z Z ⟨g,d,c,n+j,Z,b,M,by lia,by lia,λo l H3 t L e S=>?_⟩;refine⟨l,o,j+1,Z,fr.trans t,b.fr t L e,(I.trans e).mono A0,by lia,?_,⟨c,U.app e,S⟩⟩;have:=S.lev;rw[show n+(j+1)+1=n+j+2 by lia];exact this
 .have u:¬((n+j+1:Nat):Int)<((n+kk+1:Nat):Int):=λz=>u (A0d z);have:j=kk:=by lia
  subst this;exact xq1 Z (k c d y fr b I U M)
end
end J
namespace J
open PySem L2
noncomputable def sF(r:AB)(φ:D_):Int->Int->Nat:=λx y=>(CK r (φ x y:Nat) [((φ (x-1) (y-1):Nat):Int),((φ x (y-1):Nat):Int),((φ (x+1) (y-1):Nat):Int),((φ (x-1) y:Nat):Int),((φ (x+1) y:Nat):Int),((φ (x-1) (y+1):Nat):Int),((φ x (y+1):Nat):Int),((φ (x+1) (y+1):Nat):Int)]).toNat
noncomputable def sFN(r:AB):Nat->(Int->Int->Nat)->Int->Int->Nat
|0,φ=>φ
|n+1,φ=>sF r (sFN r n φ)
theorem Lo(r:AB)(φ:D_)(n:Nat):∀m,sFN r (m+n) φ=sFN r m (sFN r n φ)
|0=>by rw[O2];rfl
|m+1=>by
 rw[show m+1+n=(m+n)+1 by lia];show sF r (sFN r (m+n) φ)=sF r (sFN r m (sFN r n φ));rw[Lo r φ n m]
theorem Wo(r:AB):∀(k:Nat)(x y:Int),(∀u v,x-k<=u->u<=x+k->y-k<=v->v<=y+k->φ u v=ψ (u+X) (v+Y))->sFN r k φ x y=sFN r k ψ (x+X) (y+Y)
|0,x,y,h=>h x y A0 A0 A0 A0
|k+1,x,y,h=>by
 have c:∀u v,x-1<=u->u<=x+1->y-1<=v->v<=y+1->sFN r k φ u v=sFN r k ψ (u+X) (v+Y):=λu v d e f g=>Wo r k u v λa b i j l m=>h a b A0 A0 A0 A0;show sF r (sFN r k φ) x y=sF r (sFN r k ψ) (x+X) (y+Y);unfold sF;rw[c x y A0 A0 A0 A0,c (x-1) (y-1) A0 A0 A0 A0,c x (y-1) A0 A0 A0 A0,c (x+1) (y-1) A0 A0 A0 A0,c (x-1) y A0 A0 A0 A0,c (x+1) y A0 A0 A0 A0,c (x-1) (y+1) A0 A0 A0 A0,c x (y+1) A0 A0 A0 A0,c (x+1) (y+1) A0 A0 A0 A0];rw[show x-1+X=x+X-1 by lia,show y-1+Y=y+Y-1 by lia,show x+1+X=x+X+1 by lia,show y+1+Y=y+Y+1 by lia]
theorem JK(h:CK r 0 BL=0):∀k,sFN r k (λ_ _=>0)=λ_ _=>0
|0=>rfl
|k+1=>by
 show sF r (sFN r k λ_ _=>0)=_;rw[JK h k]
 funext x y
 show(CK r ((0:Nat):Int) BL).toNat=0;rw[show((0:Nat):Int)=0 from rfl,h];rfl
theorem Iw(h:CK r 0 BL=0){k:Nat}(z:sFN r k φ x y≠0):∃u v,x-k<=u/\u<=x+k/\y-k<=v/\v<=y+k/\φ u v≠0:=by
 refine A2e λno=>z ?_;have:=Wo r (φ:=φ) (ψ:=λ_ _=>0) (X:=0) (Y:=0) k x y λu v a b c d=>A2e λq=>no ⟨u,v,a,b,c,d,q⟩;rw[this,JK h]
theorem aAv(h:Gz r){cell:Int}(f:0<=cell)(a:I_):0<=CK r cell a:=by
 cases e:JB r cell a with
 |none=>rw[MY e];exact f
 |some i =>
  refine xea (MX e) λc b d=>?_;rw[d];exact(h.ok c (D5 b)).makes.1
theorem OE{r:AB}(e:Gz r){c:Nat->Nat->Int}{φ:D_}{X Y:Int}:∀(k x y:Nat),k<=x->k<=y->(∀u v:Nat,x-k<=u->u<=x+k->y-k<=v->v<=y+k->c u v=(φ ((u:Int)+X) ((v:Int)+Y):Nat))->Bu r k c x y=(sFN r k φ ((x:Int)+X) ((y:Int)+Y):Nat)
|0,x,y,_,_,h=>h x y A0 A0 A0 A0
|k+1,x,y,hx,hy,h=>by
 have d:∀u v:Nat,x-1<=u->u<=x+1->y-1<=v->v<=y+1->Bu r k c u v=(sFN r k φ ((u:Int)+X) ((v:Int)+Y):Nat):=λu v f g i j=>OE e k u v A0 A0 λa b l m n o=>h a b A0 A0 A0 A0;show CK r (Bu r k c x y) [Bu r k c (x-1) (y-1),Bu r k c x (y-1),Bu r k c (x+1) (y-1),Bu r k c (x-1) y,Bu r k c (x+1) y,Bu r k c (x-1) (y+1),Bu r k c x (y+1),Bu r k c (x+1) (y+1)]=((sF r (sFN r k φ) ((x:Int)+X) ((y:Int)+Y):Nat):Int)
 unfold sF;rw[R5 (aAv e (K6 _) _)];rw[d x y A0 A0 A0 A0,d (x-1) (y-1) A0 A0 A0 A0,d x (y-1) A0 A0 A0 A0,d (x+1) (y-1) A0 A0 A0 A0,d (x-1) y A0 A0 A0 A0,d (x+1) y A0 A0 A0 A0,d (x-1) (y+1) A0 A0 A0 A0,d x (y+1) A0 A0 A0 A0,d (x+1) (y+1) A0 A0 A0 A0];rw[show((x-1:Nat):Int)+X=x+X-1 by lia,show((y-1:Nat):Int)+Y=y+Y-1 by lia,show((x+1:Nat):Int)+X=x+X+1 by lia,show((y+1:Nat):Int)+Y=y+Y+1 by lia]
theorem aD6{G:Gv}(ok:GOk G){r:AB}(H:Gz r)(F:CK r 0 BL=0){l e f k:Nat}(g:Al G f ((l+1+1:Nat):Int))(jr:JR r G e f k){φ:D_}(h:∀x y,fieldF G (l+1) f x y=φ x y)(b:∀x y,φ x y≠0->-(2^l)+2^e<=x/\x+2^e<2^l/\-(2^l)+2^e<=y/\y+2^e<2^l):Al G k ((l+1:Nat):Int)/\∀x y,fieldF G l k x y=sFN r (2^e) φ x y:=by
 refine Dh jr λa n o d s=>?_;have m:a=l:=by
  have:=n.one g;lia
 subst m;have p:((2^(a+1):Nat):Int)=2^a+2^a:=by rw[N1];exact De a
 have t:=N1 2 a;have M:=N1 2 e;have L:((2^(a+2):Nat):Int)=2^a+2^a+(2^a+2^a):=by
  rw[N1];show(2:Int)^(a+2)=_;rw[show(2:Int)^(a+2)=2^(a+1)+2^(a+1)from De (a+1),De]
 have le:2^e<=2^a:=O7 A6 o;refine⟨d,λx y=>?_⟩;by_cases z:-(2^a)<=x/\x<2^a/\-(2^a)<=y/\y<2^a
 .refine xa3 z λi I j b2=>?_;have at':(fieldF G a k x y:Int)=Bu r (2^e) (CJ G (a+2) f) ((x+2^a).toNat+2^a) ((y+2^a).toNat+2^a):=by
   rw[<-s _ _ A0 A0,SF ok d A0 A0];congr 2<;>lia
  have c:∀u:Int,-(2^a)<=u->((((u+2^a).toNat+2^a:Nat):Int)+-(2^(a+1)))=u:=λu K=>by
   rw[De,O1,t];lia
  rw[OE H (φ:=φ) (X:=-(2^(a+1))) (Y:=-(2^(a+1))) _ _ _ A0 A0 (λu v A B C D=>?_),c x i,c y j]at at'
  .exact A1f at'
  .rw[SF ok g A0 A0,h];rfl
 .unfold fieldF;rw[A0c z];refine(A2e λq=>?_);refine CB (Iw F (λw=>q w.symm)) λu v A B C D E=>?_;have:=b u v E;lia
def Kg(r:AB)(F:List (Int->Int->Nat))(T:Nat):KTy:=λl e ψ=>l<47/\((∀x y,x<2^(l+2)->y<2^(l+2)->ψ x y=0)\/∃φ∈F,∃(t:Nat)(i j:Int),t+2^e<=T/\∀x y,x<2^(l+2)->y<2^(l+2)->ψ x y=(sFN r t φ ((x:Int)+2^l*i) ((y:Int)+2^l*j):Nat))
theorem aGK{r:AB}(s:Gz r)(L:CK r 0 BL=0)(F:List (Int->Int->Nat))(T:Nat):ClK r (Kg r F T):=by
 have n:∀l,2^(l+1)=2^l*2:=λl=>L9 ..;have q:∀l:Nat,(2:Int)^(l+1)=2^l*2:=λl=>Z5 ..;have o:∀l,2^(l+2)=2^l*2*2:=λl=>by rw[L9,L9]
 have p:∀l,2^(l+1+2)=2^l*2*2*2:=λl=>by rw[L9,L9,L9]
 have nine:∀{l e g ψ},Kg r F T (l+1) e ψ->2^g<=2^e->∀i j,i<3->j<3->Kg r F T l g λx y=>ψ (x+2^(l+1)*i) (y+2^(l+1)*j):=λ{l e g ψ} h M i j hi I=>by
  have C:2^(l+1)*i<=2^(l+1)*2:=N4 _ A0;have b2:2^(l+1)*j<=2^(l+1)*2:=N4 _ A0;have w:=n l;have A:=o l;have B:=p l;refine⟨by have:=h.1;lia,?_⟩;rcases h.2 with z|⟨φ,b,t,a,f,K,z⟩
  .exact .inl λx y k m=>z _ _ A0 A0
  .refine .inr ⟨φ,b,t,2*a+2*(i:Int),2*f+2*(j:Int),by lia,λx y k m=>?_⟩;show ψ _ _=_;rw[z _ _ A0 A0];have d:∀(x i:Nat)(a:Int),((x+2^(l+1)*i:Nat):Int)+2^(l+1)*a=(x:Int)+2^l*(2*a+2*(i:Int)):=λx i a=>by
    rw[O1,O5,N1];show(x:Int)+2^(l+1)*(i:Int)+2^(l+1)*a=_;rw[q,X9,K0,K0];lia
   rw[d,d]
 refine⟨λh _=>nine h (C0 _),λ{l φ} h=>nine h (by rw[n];lia),λ{l ψ} h i j hi I=>?_⟩;have C:2^(l+1)*i<=2^(l+1)*1:=N4 _ A0;have b2:2^(l+1)*j<=2^(l+1)*1:=N4 _ A0;have w:=n l;have A:=o l;have B:=p l;refine⟨by have:=h.1;lia,?_⟩;rcases h.2 with z|⟨φ,b,t,a,f,K,z⟩
 .refine .inl λx y k m=>?_;have:=OE s (c:=ψ) (φ:=λ_ _=>0) (X:=0) (Y:=0) (2^l) (x+(2^(l+1)*i+2^l)) (y+(2^(l+1)*j+2^l)) A0 A0 λu v D E G H=>z u v A0 A0;rw[JK L]at this;exact this
 .refine .inr ⟨φ,b,t+2^l,2*a+(2*(i:Int)+1),2*f+(2*(j:Int)+1),by lia,λx y k m=>?_⟩;have:=OE s (c:=ψ) (φ:=sFN r t φ) (X:=2^(l+1)*a) (Y:=2^(l+1)*f) (2^l) (x+(2^(l+1)*i+2^l)) (y+(2^(l+1)*j+2^l)) A0 A0 λu v D E G H=>z u v A0 A0;show Bu r (2^l) ψ _ _=_;rw[this,<-Lo,Nat.add_comm];have d:∀(x i:Nat)(a:Int),((x+(2^(l+1)*i+2^l):Nat):Int)+2^(l+1)*a=(x:Int)+2^l*(2*a+(2*(i:Int)+1)):=λx i a=>by
   rw[O1,O1,O5,N1,N1];show(x:Int)+(2^(l+1)*(i:Int)+2^l)+2^(l+1)*a=_;rw[q,X9,X9,K0,K0,Int.mul_one];lia
  rw[d,d]
noncomputable def wl(W T l:Nat):Nat:=(W+2*T)/2^l+5
noncomputable def sg(k T W D l:Nat):Nat:=1+k*(T*(wl W T l*wl D T l))
noncomputable def mg(k T W D e:Nat):Nat:=if 2^e<=T then((List.range 47).map (sg k T W D)).sum else 47
noncomputable def ng(k T W D:Nat):Nat:=s47 (mg k T W D)
noncomputable def aC2(ψ:D_)(l:Nat)(i j:Int):Sht:=λx y=>(ψ ((x:Int)+2^l*i) ((y:Int)+2^l*j):Nat)
abbrev Fbx:=(Int->Int->Nat)×Int×Int
noncomputable def Zg(r:AB)(T W D l:Nat)(q:Fbx):List (Nat×Sht):=(List.range T).flatMap λt=>(List.range (wl W T l*wl D T l)).map λd=>(l,aC2 (sFN r t q.1) l ((q.2.1-T)/2^l-3+((d%wl W T l:Nat):Int)) ((q.2.2-T)/2^l-3+((d/wl W T l:Nat):Int)))
noncomputable def WC(r:AB)(T W D:Nat)(qs:List Fbx)(e:Nat):List (Nat×Sht):=(List.range 47).flatMap λl=>(l,λ_ _=>0)::if 2^e<=T then qs.flatMap (Zg r T W D l)else []
theorem Uo{α β:Type}(f:α->List β)(m:α->Nat):∀l:List α,(∀x∈l,(f x).length<=m x)->(l.flatMap f).length<=(l.map m).sum
|[],_=>by simp
|a::l,h=>by
 have:=Uo f m l λx b=>h x (C9 _ b);have:=h a C8;rw[T8,C6,F5,P4];lia
theorem YH(r:AB)(T W D:Nat)(qs:List Fbx)(e:Nat):(WC r T W D qs e).length<=mg qs.length T W D e:=by
 unfold WC mg;by_cases h:2^e<=T
 .rw[A0e h];simp only[A0e h];refine Uo _ _ _ λl _=>?_;rw[D8];have:=OP (Zg r T W D l) (T*(wl W T l*wl D T l)) qs λq _=>by
   unfold Zg;have:=OP (λt=>(List.range (wl W T l*wl D T l)).map λd=>(l,aC2 (sFN r t q.1) l ((q.2.1-T)/2^l-3+((d%wl W T l:Nat):Int)) ((q.2.2-T)/2^l-3+((d/wl W T l:Nat):Int)))) (wl W T l*wl D T l) (List.range T) λt _=>by rw[B8,O4];exact C0 _
   rw[O4]at this;exact this
  unfold sg;lia
 .rw[A0c h];simp only[A0c h];have:=OP (λl=>[((l,λ_ _=>0):Nat×Sht)]) 1 (List.range 47) λl _=>C0 _;rw[O4]at this;exact this
theorem aEK(h:Kg r F T l e φ)(q:Zb l φ ψ):Kg r F T l e ψ:=by
 refine⟨h.1,?_⟩;rcases h.2 with c|⟨d,m,t,i,j,f,c⟩
 .exact .inl λx y a b=>(q x y a b).symm.trans (c x y a b)
 .exact .inr ⟨d,m,t,i,j,f,λx y a b=>(q x y a b).symm.trans (c x y a b)⟩
theorem Zh{l T W t:Nat}{x:Nat}{i X u:Int}(w:x<2^(l+2))(v:t<=T)(o:(x:Int)+2^l*i-t<=u)(p:u<=(x:Int)+2^l*i+t)(r:X<=u)(s:u<X+W):∃d,d<wl W T l/\i=(X-T)/2^l-3+((d:Nat):Int):=by
 have a:(0:Int)<2^l:=by have:=Bo l;have e:=N1 2 l;lia
 have y:((2^(l+2):Nat):Int)=2^l*4:=by rw[N1];show(2:Int)^(l+2)=_;rw[Z5,Z5];lia
 have k:(((W+2*T)/2^l:Nat):Int)=((W:Int)+2*T)/2^l:=by rw[Int.natCast_ediv,N1];rfl
 generalize h:(2:Int)^l=P at *
 generalize eq:(X-T)/P=q;have c:=Int.emod_add_mul_ediv (X-T) P;have f:=Int.emod_nonneg (X-T) (Int.ne_of_gt a);have g:=V8 (X-T) a;rw[eq]at c;have m:=Int.emod_add_mul_ediv ((W:Int)+2*T) P;have n:=V8 ((W:Int)+2*T) a;generalize j:((W:Int)+2*T)/P=b at *
 have lo:P*(q-4)<P*i:=by rw[Int.mul_sub];lia
 have hi:P*i<P*(q+b+2):=by rw[X9,X9];lia
 have lo:=Int.lt_of_mul_lt_mul_left lo (Int.le_of_lt a);have hi:=Int.lt_of_mul_lt_mul_left hi (Int.le_of_lt a);refine⟨(i-q+3).toNat,?_,by lia⟩;unfold wl;lia
def InBx(F:List (Int->Int->Nat))(W D:Nat)(qs:List Fbx):Prop:=∀φ∈F,∀u v,φ u v≠0->∃X Y,(φ,X,Y)∈qs/\X<=u/\u<X+W/\Y<=v/\v<Y+D
theorem aEL{r:AB}(P:CK r 0 BL=0){F:List (Int->Int->Nat)}{T W D:Nat}{qs:List Fbx}(M:InBx F W D qs):Na (Kg r F T) (ng qs.length T W D):=by
 refine⟨⟨mg qs.length T W D,C0 _,λe=>⟨WC r T W D qs e,YH r T W D qs e,λl ψ h=>?_⟩⟩,aEK⟩;obtain⟨o,d⟩:=h;have zero:(∀x y,x<2^(l+2)->y<2^(l+2)->ψ x y=0)->∃f,(l,f)∈WC r T W D qs e/\Zb l ψ f:=λz=>⟨λ_ _=>0,U4.mpr ⟨l,N2.mpr o,C8⟩,z⟩
 rcases d with d|⟨φ,n,t,i,j,Q,d⟩
 .exact zero d
 .by_cases z:∀x y,x<2^(l+2)->y<2^(l+2)->ψ x y=0
  .exact zero z
  .obtain⟨x,z⟩:=Classical.not_forall.mp z;obtain⟨y,z⟩:=Classical.not_forall.mp z;obtain⟨g,z⟩:=Classical.not_imp.mp z;obtain⟨k,z⟩:=Classical.not_imp.mp z;rw[d x y g k]at z;have z:sFN r t φ ((x:Int)+2^l*i) ((y:Int)+2^l*j)≠0:=λq=>z (by rw[q];rfl);refine CB (Iw P z) λu v s w A b2 c=>CB (M φ n u v c) λX Y m H I K L=>?_;have R:=Bo e;refine xea (Zh (T:=T) (W:=W) g A0 s w H I) λb p E=>xea (Zh (T:=T) (W:=D) k A0 A b2 K L) λa O G=>?_;have N:0<wl W T l:=by unfold wl;lia
   have C:(b+wl W T l*a)%wl W T l=b:=by rw[Q7,P6 p]
   have B:(b+wl W T l*a)/wl W T l=a:=by rw[O8 _ _ N,O6 p,O2]
   have lt:b+wl W T l*a<wl W T l*wl D T l:=by
    have:wl W T l*(a+1)<=wl W T l*wl D T l:=N4 _ O;rw[Nat.mul_add]at this;lia
   refine⟨aC2 (sFN r t φ) l i j,U4.mpr ⟨l,N2.mpr o,C9 _ ?_⟩,λx y g k=>d x y g k⟩;rw[A0e A0];refine U4.mpr ⟨_,m,U4.mpr ⟨t,N2.mpr A0,F1.mpr ⟨b+wl W T l*a,N2.mpr lt,?_⟩⟩⟩;rw[C,B];show(l,aC2 (sFN r t φ) l ((X-T)/2^l-3+((b:Nat):Int)) ((Y-T)/2^l-3+((a:Nat):Int)))=_;rw[<-E,<-G]
theorem aD7(ok:GOk G){T l f e t:Nat}(d:l<47)(g:Al G f ((l+1+1:Nat):Int))(m:φ∈F)(a:t+2^e<=T)(h:∀x y,fieldF G (l+1) f x y=sFN r t φ x y):Kg r F T l e (CJ G (l+2) f):=by
 refine⟨by lia,.inr ⟨φ,m,t,-2,-2,a,λx y b c=>?_⟩⟩;rw[SF ok g b c,h];have e:(2:Int)^(l+1)=2^l*2:=Z5 ..;rw[e];congr 2<;>lia
seal L2.PA L2.PE L2.PS L2.PSs L2.PT L2.PW
def SS(φ:D_)(k:Nat):Prop:=∀x y,φ x y≠0->-(2^40)+(k:Int)<=x/\x+k<2^40/\-(2^40)+(k:Int)<=y/\y+k<2^40
theorem nb1{x l w:Int}{k:Nat}(c:-2^40<=l-k)(d:l-k+(w+2*k)<=2^40)(a:l<=x)(b:x<l+w):-(2^40)+(k:Int)<=x/\x+k<2^40:=by lia
theorem nb2{l:Int}{k:Nat}(h:-(2^40)+(k:Int)<=l):-2^40<=l-k:=by lia
theorem nb3{l w:Int}{k:Nat}(h:l+w-1+k<2^40):l-k+(w+2*k)<=2^40:=by lia
theorem aBg {φ:D_} {b:Bx} (t:Qq (λx y=>φ x y≠0) b) (k:Nat):JD (b.l-k) (b.t-k) (b.w+2*k) (b.h+2*k) (2^40)↔SS φ k:=by
 constructor
 .intro f x y h;refine xa3 f λa c d e=>?_;refine xa3 (t.inn x y h) λg i j m=>?_;have q:=nb1 a d g i;exact⟨q.1,q.2,nb1 c e j m⟩
 .intro h;obtain⟨n,a⟩:=t.le;obtain⟨o,c⟩:=t.to;obtain⟨p,d⟩:=t.ri;obtain⟨r,e⟩:=t.bo;exact⟨nb2 (h _ _ a).1,nb2 (h _ _ c).2.2.1,nb3 (h _ _ d).2.1,nb3 (h _ _ e).2.2.2⟩
section
variable{P:N_}{w:Q_}{K:O_}{mg:C_}{n9:T_}{a:Ad}
inductive aC7(a:Ad)(vs:List V)(H:Hp)(Q:VK):Prop
|mk (g:GA) (G:Gv) (f n k:Nat) (_:vs=[.ref g.p,.int f,.int (k:Int)]) (_:AX a H g G) (_:Al G f ((n+1:Nat):Int)) (_:n<48) (_:G.length<8000000) (_:SS (fieldF G n f) k) (_:∀H',FrQ g H H'->AX a H' g G->Q .non H'):aC7 a vs H Q
def ZH(a:Ad):Sp:=λvs H Q _=>aC7 a vs H Q
theorem aCa(F:Fun K "check_leap" "check_leap" IN f fd)(T:Top K mg a)(L:Cal P w K mg n9 CX0 1 "is_whole" Vk UT)(R:Cal P w K mg n9 CX0 102 "box_of" Vj (RN a))(M:Cal P w K mg n9 CX0 1 "lies_within" QD Tm):AL P w K mg n9 CX0 103 f fd Jc (ZH a):=by
 refine F.ok LH D_9 λO A r s H vs Q E p h=>?_
 obtain⟨g,G,S,n,k,rfl,y,C,q,few,W,z⟩:=h;refine⟨_,(Ac (AO (PW.pt (Jv (Cy (Cf (Ar L (rm p) Z Am (Aa (pv 2) Ab)))) (Gd (AA GN (pv 2) Ae (AF _))))) (Ag Bk) Az) (Ac (Ao (i:=3) LH.nd Z O_9 (Ar R (rm p) Z Am (Aa (pv 0) (Aa (pv 1) Ab)))) (Ag (AO (PW.pt (Mb (AA Wv (pv 3) DE (AF _)) (IW (Cy (Cf (Ar M (rm p) Z Am (AZ (AV Cg (Aj An (pv 3) Ae R_9) (pv 2) (AV Cg (Aj An (pv 3) Ae R_9) (pv 2) (AV AQ (Aj An (pv 3) Ae R_9) (AG EK Ae (pv 2)) (AV AQ (Aj An (pv 3) Ae R_9) (AG EK Ae (pv 2)) Ab)))) (Aa (BZ Z T.aAX) Ab)))))))) (Ag Bk) Az)))),?_⟩
 try dsimp only[cxK]
 refine Bj ?_;intro r1 s1 k1 o X;refine xq1 Z ⟨(k:Int),Z,o5,Z,Bc ?_⟩;refine xwb Z Z Z (xq1 Z ?_);rw[A0f A0];refine Bc (o ?_);refine Bj ?_;intro r2 s2 k2 d Y;refine xw2 Z Z ⟨g,G,S,n,Z,y,C,q,few,λx m fq b=>?_,λN x t m fq b c=>?_⟩
 .refine d (xq1 Z ⟨Z,o6,Z,Bc ?_⟩);exact z m fq b
 .refine d ?_;have D:=SZ y.ok C x;generalize mvB (2^n) N=B at c D;have c:=c;have V:=aBg D k;refine xq1 Z ⟨Z,o5,Z,Cr ?_⟩;refine xwi Z Z Z (SqT.of c) (Ai (j:=0) Z) (xwb Z Z Z ?_);refine xwi Z Z Z (SqT.of c) (Ai (j:=1) Z) (xwb Z Z Z ?_);refine xwi Z Z Z (SqT.of c) (Ai (j:=2) Z) (xwb Z Z Z ⟨.inl ⟨by decide,by decide⟩,(xq2 Z Z ?_)⟩);refine xwi Z Z Z (SqT.of c) (Ai (j:=3) Z) (xwb Z Z Z ⟨.inl ⟨by decide,by decide⟩,(xq2 Z Z ?_)⟩);refine⟨by show 4<=sizeLine;decide,λu U=>?_⟩;refine⟨u,B.l-k,B.t-k,B.w+2*k,B.h+2*k,2^40,Z,Af,?_⟩;generalize v:upd m u _=I;have e:=v▸AM U;clear v;rw[A0d (V.mpr W)];exact⟨o5,Z,Bc (z I (fq.trans (Ay.frq e)) (b.same e))⟩
end
theorem aDU(e:G=G0++r)(ok:GOk G):Al G (bareN 1) ((0+1:Nat):Int)/\Lm G 0 (bareN 1)/\∀x y,fieldF G 0 (bareN 1) x y=0:=by
 refine⟨IB e (n:=1) A6,.inl Z,λx y=>?_⟩;unfold fieldF;by_cases z:-(2^0)<=x/\x<2^0/\-(2^0)<=y/\y<2^0
 .rw[A0e z];exact FN e ok (n:=1) A6 (by show _<2;have:(2:Int)^0=1:=rfl;lia) (by show _<2;have:(2:Int)^0=1:=rfl;lia)
 .rw[A0c z]
theorem nar{x a b c:Int}(h:-a<=x)(h':x<a)(e:a+c<=b):-b+c<=x/\x+c<b:=by lia
theorem aCQ{k:Nat}(h:SS φ k)(a:φ x y≠0):k<2^40:=by
 have:=h x y a;lia
theorem nr1{x u:Int}{t k:Nat}(tk:t<=k)(c:x-t<=u)(d:u<=x+t)(a:-(2^40)+(k:Int)<=u)(b:u+k<2^40):-(2^40)<=x/\x<2^40:=by lia
theorem nr2{x u:Int}{t k:Nat}(c:x-t<=u)(d:u<=x+t)(a:-(2^40)+((k+t:Nat):Int)<=u)(b:u+((k+t:Nat):Int)<2^40):-(2^40)+(k:Int)<=x/\x+k<2^40:=by lia
theorem Wy{r:AB}(o:CK r 0 BL=0){φ:D_}{k t:Nat}(h:SS φ k)(tk:t<=k){x y:Int}(n:sFN r t φ x y≠0):-(2^40)<=x/\x<2^40/\-(2^40)<=y/\y<2^40:=by
 apply AT;intro b a;refine CB (Iw o n) λu v g i j l m=>xa3 (h u v m) λc d e f=>?_;apply a;clear a b;have q:=nr1 tk g i c d;exact⟨q.1,q.2,nr1 tk j l e f⟩
theorem aCR{r:AB}(o:CK r 0 BL=0){φ:D_}{k t:Nat}(h:SS φ (k+t)):SS (sFN r t φ) k:=λx y n=>by
 apply AT;intro b a;refine CB (Iw o n) λu v g i j l m=>xa3 (h u v m) λc d e f=>?_;apply a;clear a b;have q:=nr2 g i c d;exact⟨q.1,q.2,nr2 j l e f⟩
theorem VW(e:G=G0++r)(ok:GOk G)(c:n<=47)(t:Lm G n f)(h:∀x y,fieldF G n f x y≠0->-(2^40)<=x/\x<2^40/\-(2^40)<=y/\y<2^40):n<=40:=by
 refine P8 λz=>?_;obtain⟨m,rfl⟩:∃m,n=m+1:=⟨n-1,by lia⟩
 refine BJ (SY e ok A0 t) λx y b a=>?_;have:=h x y a;have p:2^40<=2^m:=O7 A6 A0;have d:=N1 2 m;lia
def aDs(Κ:KTy)(r:AB)(φ:D_)(k:Nat):Prop:=∀(j l:Nat)(G:Gv)(f:Nat),k/2^j%2=1->j<=l->l<=41->GOk G->Al G f ((l+1+1:Nat):Int)->(∀x y,fieldF G (l+1) f x y=sFN r (k%2^j) φ x y)->Κ l j (CJ G (l+2) f)
theorem aEJ{T k t:Nat}(m:φ∈F)(h:k+t<=T):aDs (Kg r F T) r (sFN r t φ) k:=λj l G f e g b ok c a=>by
 refine aD7 (t:=k%2^j+t) ok A0 c m ?_ λx y=>by rw[a,<-Lo]
 have d:=N9 k (2^j);have p:2^j*1<=2^j*(k/2^j):=N4 _ A0;lia
def Yb(H:Hp)(G:Gv)(ψ:D_)(ts:H_):Prop:=∃(t:R_)(sq e res l:Nat),ts.getLast?=o3 t/\H t=o3 (.tup [.int sq,.int e,.int res])/\l<=41/\Al G res ((l+1:Nat):Int)/\∀x y,fieldF G l res x y=ψ x y
section
variable{P:N_}{w:Q_}{K:O_}{mg:C_}{n9:T_}{a:Ad}
inductive aDO(a:Ad)(vs:List V)(H:Hp)(Q:VK):Prop
|mk (p dx mem pr:R_) (g:GA) (G:Gv) (Κ:KTy) (φ:D_) (N b:Nat) (r:AB) (m:MA) (f n k:Nat) (_:vs=[.ref p,.int f,.int (k:Int)]) (_:ZS a H g G Κ N b p dx mem pr r m) (_:Na Κ N) (_:ClK r Κ) (_:aDs Κ r φ k) (_:Al G f ((n+1:Nat):Int)) (_:n<=40) (_:Lm G n f) (_:∀x y,fieldF G n f x y=φ x y) (_:SS φ k) (_:b+12000+10*N<7900000) (_:∀(L:R_)(ts:H_)(G':Gv)(H':Hp)(i:Nat),FrZ g m H H'->ZS a H' g G' Κ N (b+12000) p dx mem pr r m->AK G G' i->H L=o4->H' L=o3 (.lst (ts.map V.ref))->((ts=[]/\∀x y,sFN r k φ x y=φ x y)\/Yb H' G' (sFN r k φ) ts)->Q (.ref L) H'):aDO a vs H Q
def Zu(a:Ad):Sp:=λvs H Q _=>aDO a vs H Q
theorem aEk(F:Fun K "road" "road" Va f fd)(T:Top K mg a)(cH:Cal P w K mg n9 CX0 103 "check_leap" Jc (ZH a))(aY:Cal P w K mg n9 CX0 1 "bare_field" Si (OD a))(cN:Cal P w K mg n9 CX0 5 "level_for" JQ (Zz a))(cF:Cal P w K mg n9 CX0 5 "widened_to" IZ (aG5 a))(bZ:BR P w K mg n9 CX0 149 a.M3 "after" QG (GT a 46))(aX:Cal P w K mg n9 CX0 4 "trimmed" Lr (OW a)):AL P w K mg n9 CX0 150 f fd Ve (Zu a):=by
 refine F.ok Eg (λvs H Q E h=>?_) (λcp A cc s H vs Q E hr h=>?_)
 .apply AT;intro G_ I;obtain⟨p,dx,mem,pr,g,G,Κ,φ,N,b,r,m,f',n,k,rfl,_⟩:=h;apply I;clear I G_;rfl
 .apply AT;intro G_ I;obtain⟨p,dx,mem,pr,g,G,Κ,φ,N,b,r,m,f',n,k,rfl,zs,fin,cl,bc,lf,ca,tr,hf,nr,few,kn⟩:=h;apply I;clear I G_;refine⟨_,(Ac (Ao (i:=3) Eg.nd Z O_9 (AC (pv 0) Z)) (Ac (Bp (Ar cH (rm hr) Z Am (Aa (pv 3) (Aa (pv 1) (Aa (pv 2) Ab))))) (Ac (Ao (i:=4) Eg.nd Z O_9 (Cp Ab)) (Ac (Ao (i:=5) Eg.nd Z O_9 (pv 1)) (Ac (Ao (i:=6) Eg.nd Z O_9 (pv 2)) (Ac (Ao (i:=7) Eg.nd Z O_9 Ae) (Ac (JM A1c (PW.pt (Mb (AA TM (pv 6) Ae (AF _)) (IW (AA GM (pv 5) (Ar aY (rm hr) Z Am (Aa (pv 3) Ab)) (AF _))))) (Ac (AO (AA Dj (AG Bm (pv 6) Ae) Ae (AF _)) (Ac (Ao (i:=8) Eg.nd Z O_9 (Ar cF (rm hr) Z Am (Aa (pv 3) (Aa (pv 5) (Aa (Ar cN (rm hr) Z Am (Aa (pv 3) (Aa (pv 5) (Aa (pv 7) Ab)))) Ab))))) (Ac (Ao (i:=9) Eg.nd Z O_9 (AD (pv 0) bZ (rm hr) Am (Aa (pv 8) (Aa (pv 7) Ab)))) (Ac (Bp (DJ A1g A1h A2a Cb (pv 4) (AZ (Aa (pv 8) (Aa (pv 7) (Aa (pv 9) Ab))) Ab))) (Ag (Ao (i:=5) Eg.nd Z O_9 (Ar aX (rm hr) Z Am (Aa (pv 3) (Aa (pv 9) Ab)))))))) Az) (Ac (Ao (i:=6) Eg.nd Z O_9 (AG CP (pv 6) Ae)) (Ag (Ao (i:=7) Eg.nd Z O_9 (AG AQ (pv 7) Ae)))))) (Ag (Aw (pv 4)))))))))),?_⟩
  try dsimp only[cxK]
  have sz:=zs.jz.sz fin;have re:=zs.jz.jw.rest;have ro:=zs.jz.jw.rok;refine Bj ?_;intro r1 s1 k1 bq E1;refine xwf Z Z zs.jz.jw.hp T.Q1 T.Q2 (Ew _ _ _ _ _) (bq ?_);refine Bj ?_;intro r2 s2 k2 br E2;refine xw3 Z Z Z ⟨g,G,f',n,k,Z,zs.fu,lf,by lia,by lia,(λx y h=>nr x y (by rw[<-hf];exact h)),λH1 fq bf=>?_⟩;have au:=zs.frQ fq bf;have bg:FrZ g m H H1:=FrQ.z fq;refine br (Bj ?_);intro r3 s3 k3 bt E3;refine⟨by show 0<=sizeLine;decide,λL nL=>?_⟩;generalize eH:upd H1 L _=H2;have a7:=eH▸AM nL;have bm:=eH▸Af;clear eH;have cj:=au.same a7;obtain⟨a6,cu⟩:=au.new nL;have O:=au.ap nL;refine bt (Bj ?_);intro r4 s4 k4 bu E4;refine xq1 Z (bu ?_);refine Bj ?_;intro r5 s5 k5 bv E5;refine xq1 Z (bv ?_);refine Bj ?_;intro r6 s6 k6 bw E6;refine bw (Bj ?_);intro r7 s7 k7 bx E7;have ax:H L=o4:=by
   cases e:H L with
   |none=>rfl
   |some o =>
    have h1:=fq L o e (λz=>a6 (by simp[z])) (λz=>a6 (by simp[z]));rw[nL]at h1;cases h1
  have bh:=bg.trans (Ay.z a7);have bp:k/2^0=k:=by rw[Nat.pow_zero,Nat.div_one]
  have a2:k%2^0=0:=by rw[Nat.pow_zero,Nat.mod_one]
  refine⟨fun μ σ H3=>∃(j:Nat)(C:Gv)(B:H_)(h c:Nat)(u8 u9:Option V)(i:Nat),σ=[o3 (.ref p),o3 (.int f'),o3 (.int (k:Int)),o3 (.ref g.p),o3 (.ref L),o3 (.int h),o3 (.int ((k/2^j:Nat):Int)),o3 (.int (j:Int)),u8,u9]/\j+μ=41/\FrZ g m H H3/\ZS a H3 g C Κ N (b+270*B.length) p dx mem pr r m/\AK G C i/\H3 L=o3 (.lst (B.map V.ref))/\B.length<=j/\(c<=40/\Al C h ((c+1:Nat):Int)/\Lm C c h/\∀x y,fieldF C c h x y=sFN r (k%2^j) φ x y)/\((B=[]/\∀x y,sFN r (k%2^j) φ x y=φ x y)\/Yb H3 C (sFN r (k%2^j) φ) B),⟨41,0,G,[],f',n,o4,o4,0,(by rw[bp];rfl),Z,bh,cj,AK.refl zs.fu.ok,bm,C0 _,⟨ca,lf,tr,by rw[a2];exact hf⟩,.inl ⟨Z,by rw[a2];exact λ_ _=>Z⟩⟩,?_⟩;rintro μ σ H3 ci;apply AT;intro G_ I;obtain⟨j,C,B,h,c,u8,u9,i,rfl,jm,am,D,an,ao,tl,⟨ak,lh,th,fh⟩,la⟩:=ci;apply I;clear I G_;have c0:=D.jz.sz fin;obtain⟨cx,e3⟩:=D.fu.g0;have aj:(k/2^j=0\/h=bareN 1)->k7 [o3 (.ref p),o3 (.int f'),o3 (.int (k:Int)),o3 (.ref g.p),o3 (.ref L),o3 (.int h),o3 (.int ((k/2^j:Nat):Int)),o3 (.int (j:Int)),u8,u9] H3:=λex=>by
   have eq:sFN r k φ=sFN r (k%2^j) φ:=by
    rcases ex with ex|rfl
    .have:k%2^j=k:=by
      have:=N9 k (2^j);rw[ex,Nat.mul_zero,O2]at this;exact this
     rw[this]
    .refine xa2 (aDU e3 D.fu.ok) λb1 b2 b3=>?_;have n0:c=0:=by
      have:=lh.one b1;lia
     subst n0;have z:sFN r (k%2^j) φ=λ_ _=>0:=by
      funext x y
      rw[<-fh,b3]
     have:=Lo r φ (k%2^j) (2^j*(k/2^j));rw[N9]at this;rw[this,z,JK re]
   refine bx (xq1 Z (kn L B C H3 i am (D.mono A0) an ax ao ?_));rw[eq];exact la
  refine xwb Z Z Z (xq1 Z (Jl (λY=>?_) (λY=>?_)))
  .have Y:=A2b Y;have kj:k/2^j≠0:=by lia
   refine xw2 Z Z ⟨g,C,Z,D.fu,Z,(xq1 Z ?_)⟩;by_cases hb:h=bareN 1
   .subst hb;rw[A0d rfl];exact Bc (aj (.inr Z))
   .rw[A0f (λz=>hb (by injection z with z;exact A1f z))];refine Cr ?_;obtain⟨x0,y0,h0⟩:∃x y,φ x y≠0:=by
     refine A2e λno=>hb ?_;have z:φ=λ_ _=>0:=by
      funext x y
      exact A2e λz=>no ⟨x,y,z⟩
     refine xa2 (aDU e3 D.fu.ok) λb1 b2 b3=>(Qh e3 D.fu.ok A0 A6 lh b1 th b2 λx y=>?_).2;rw[b3,fh,z,JK re]
    have b5:=aCQ nr h0;have cq:j<40:=by
     refine W8 λz=>kj (O6 (F9 b5 (O7 A6 z)))
    refine⟨fun σ' S=>∃(j:Nat)(C:Gv)(B:H_)(h c:Nat)(u8 u9:Option V)(i:Nat),σ'=[o3 (.ref p),o3 (.int f'),o3 (.int (k:Int)),o3 (.ref g.p),o3 (.ref L),o3 (.int h),o3 (.int ((k/2^j:Nat):Int)),o3 (.int (j:Int)),u8,u9]/\j+(μ-1)=41/\FrZ g m H S/\ZS a S g C Κ N (b+270*B.length) p dx mem pr r m/\AK G C i/\S L=o3 (.lst (B.map V.ref))/\B.length<=j/\(c<=40/\Al C h ((c+1:Nat):Int)/\Lm C c h/\∀x y,fieldF C c h x y=sFN r (k%2^j) φ x y)/\((B=[]/\∀x y,sFN r (k%2^j) φ x y=φ x y)\/Yb S C (sFN r (k%2^j) φ) B),fun σ' S z=>⟨μ-1,by lia,z⟩,?_⟩;have dv:k/2^(j+1)=k/2^j/2:=by rw[L9,Nat.div_div_eq_div_mul]
    have md:k%2^(j+1)=k%2^j+2^j*(k/2^j%2):=Nat.mod_pow_succ;refine Bj ?_;intro r8 s8 k8 bz E8;apply Rb (T:=k8) (fun σ' S=>∃(C:Gv)(B:H_)(h c:Nat)(u8 u9:Option V)(i:Nat),σ'=[o3 (.ref p),o3 (.int f'),o3 (.int (k:Int)),o3 (.ref g.p),o3 (.ref L),o3 (.int h),o3 (.int ((k/2^j:Nat):Int)),o3 (.int (j:Int)),u8,u9]/\FrZ g m H S/\ZS a S g C Κ N (b+270*B.length) p dx mem pr r m/\AK G C i/\S L=o3 (.lst (B.map V.ref))/\B.length<=j+1/\(c<=40/\Al C h ((c+1:Nat):Int)/\Lm C c h/\∀x y,fieldF C c h x y=sFN r (k%2^(j+1)) φ x y)/\((B=[]/\∀x y,sFN r (k%2^(j+1)) φ x y=φ x y)\/Yb S C (sFN r (k%2^(j+1)) φ) B))
    .intro aa;refine xwb Z Z Z ⟨(by show(0:Int)<2;decide),Z,(xq1 Z (Jl (λY=>?_) (λY=>?_)))⟩
     .have Y:((k/2^j:Nat):Int)%2=1:=by
       have:=A2b Y;injection this
      have od:k/2^j%2=1:=by lia
      have tk:2^j+k%2^j<=k:=by
       have d:=N9 k (2^j);have p:2^j*1<=2^j*(k/2^j):=N4 _ A0;lia
      refine Bj ?_;intro r9 s9 k9 ar E9;refine xw3 Z Z Z (xw2 Z Z ⟨g,C,h,c,j,Z,D.fu.at',lh,ak,by lia,λl a4 nl jl le=>?_⟩);have el:c+(l+1-c)+1=l+2:=by lia
      refine⟨g,C,h,c,l+1-c,by rw[el];rfl,D.fu,lh,by lia,by lia,λv G2 S al U W wn lv=>?_⟩;have R:=D.fr al U W;have c1:=R.jz.sz fin;obtain⟨r4,e4⟩:=U.g0;have wf:∀x y,fieldF G2 (l+1) v x y=sFN r (k%2^j) φ x y:=λx y=>by
       have:=LP e4 U.ok (k:=l+1-c) (w:=v) A0 wn x y;rw[show c+(l+1-c)=l+1 by lia]at this;rw[this,Iz D.fu.ok W lh,fh]
      have af:Al G2 v ((l+1+1:Nat):Int):=by rw[show l+1+1=c+(l+1-c)+1 by lia];exact lv
      have aw:=an.trans W;refine ar (Bj ?_);intro cv cy cr a0 cn;refine xwn Z Z R.jz.jw.hp (Yx _ _ _ _ _) Z (xq1 Z ⟨p,dx,mem,pr,g,G2,Κ,N,_,r,m,v,l,j,Z,R.jz,fin,cl,af,by lia,jl,bc j l G2 v od jl a4 U.ok af wf,by lia,λM G3 H5 i5 fj b4 ad jr up=>?_⟩);have ah:=R.aft fj b4 ad;have c2:=ah.jz.sz fin;have bj:=(am.trans (Fr.z al)).trans (FrJ.z fj);have ch:∀x y,fieldF G3 (l+1) v x y=sFN r (k%2^j) φ x y:=λx y=>by rw[Iz U.ok ad af];exact wf x y
      obtain⟨lr,rs⟩:=aD6 ah.fu.ok ro re (ad.lev af) jr ch (λx y ae=>by
       rw[<-fh]at ae;have a5:(2:Int)^c+2^j<=2^l:=by exact_mod_cast le
       refine xa3 (A2e λz:¬(-(2^c)<=x/\x<2^c/\-(2^c)<=y/\y<2^c)=>ae (by unfold fieldF;rw[A0c z])) λh1 h2 h3 h4=>?_;have q:=nar h1 h2 a5;exact⟨q.1,q.2,nar h3 h4 a5⟩)
      have rs:∀x y,fieldF G3 l M x y=sFN r (k%2^(j+1)) φ x y:=λx y=>by rw[rs,<-Lo,md,od,Nat.mul_one,Nat.add_comm]
      have ay:=FrJ.z fj _ _ (Fr.z (m:=m) al _ _ ao O.n0 O.n1) O.n0 O.n1;refine a0 (Bj ?_);intro cw cz cs a1 co;refine xq1 Z ⟨.inl ⟨Z,_,SqL.of ay⟩,(xw3 Z Z Z ⟨by show 3<=sizeLine;decide,λt nt=>?_⟩)⟩;have ag:=AM (o:=.tup [.int (v:Int),.int (j:Int),.int (M:Int)]) nt;have as:upd H5 t (.tup [.int (v:Int),.int (j:Int),.int (M:Int)]) t=o3 (.tup [.int (v:Int),.int (j:Int),.int (M:Int)]):=Af;generalize upd H5 t (.tup [.int (v:Int),.int (j:Int),.int (M:Int)])=H6 at ag as⊢;have ck:=ah.same ag;have aq:=ag _ _ ay;refine⟨L,(xq2 Z Z ⟨aq,by rw[B8];exact Fe A0,?_⟩)⟩;have ai:=ck.putL (o:=.lst (B.map V.ref++[.ref t])) aq O;have a3:upd H6 L (.lst (B.map V.ref++[.ref t])) t=o3 (.tup [.int (v:Int),.int (j:Int),.int (M:Int)]):=by rw[Av (AE as aq A4)];exact as
      have av:FrZ g m H (upd H6 L (.lst (B.map V.ref++[.ref t]))):=λb' o e n1 n2=>by
       rw[Av (As e ax)];exact ag _ _ (bj _ _ e n1 n2)
      have az:upd H6 L (.lst (B.map V.ref++[.ref t])) L=o3 (.lst ((B++[t]).map V.ref)):=by rw[Af,C7];rfl
      generalize upd H6 L (.lst (B.map V.ref++[.ref t]))=H7 at ai a3 av az⊢;refine a1 (xw2 Z Z ⟨g,G3,M,l,Z,ai.fu,lr,by lia,λnw G8 H8 ab ac X cf=>?_⟩);have cm:=ai.fr ab ac X;obtain⟨r8,e8⟩:=ac.g0;refine Dh (IF e8 ac.ok A0 (X.lev lr) cf) λm8 ct b7 a8 be=>?_;have fa:∀x y,fieldF G8 l M x y=sFN r (k%2^(j+1)) φ x y:=λx y=>by rw[Iz ah.fu.ok X lr];exact rs x y
      have fe:∀x y,fieldF G8 m8 nw x y=sFN r (k%2^(j+1)) φ x y:=λx y=>by rw[be,fa]
      have cd:k%2^(j+1)<=k:=Nat.mod_le _ _;have b8:=VW e8 ac.ok A0 a8 (λx y ae=>Wy re nr cd (by rw[<-fe];exact ae));have b0:=ai.keep (Fr.z ab) a3 (by intro xs z;cases z) (by intro xs z;cases z) (by intro xs z;cases z);have bo:=Fr.z (m:=m) ab _ _ az O.n0 O.n1;have bl:=(aw.trans ad).trans X;refine aa _ _ ⟨G8,B++[t],nw,m8,_,_,_,Z,av.trans (Fr.z ab),cm.mono ?_,bl,bo,by rw[C6];show B.length+1<=_;lia,⟨b8,b7,a8,fe⟩,.inr ⟨t,v,j,M,l,by rw[List.getLast?_append];rfl,b0,a4,X.lev lr,fa⟩⟩;rw[C6];show _<=b+270*(B.length+1)
      lia
     .have Y:¬((k/2^j:Nat):Int)%2=1:=λz=>Y (A0d (A2f V.int z));have ev:k/2^j%2=0:=by lia
      have md:k%2^(j+1)=k%2^j:=by rw[md,ev,Nat.mul_zero,K8]
      exact aa _ _ ⟨C,B,h,c,u8,u9,i,Z,am,D,an,ao,by lia,by rw[md];exact⟨ak,lh,th,fh⟩,by rw[md];exact la⟩
    .rintro σ' S bb;apply AT;intro G_ I;refine xe5 bb λG2 cg h2 cb v8 a9=>?_;refine CB a9 λv9 i2 bd bi R W ba=>?_;refine xa3 ba λbn ce b9 b6=>?_;clear a9 ba;clear bb;subst bd;apply I;clear I G_;refine bz (Bj ?_);intro r9 s9 k9 ar E9;refine xwb Z Z Z ⟨⟨by decide,by decide⟩,?_⟩;refine ar ?_;have ed:((k/2^j:Nat):Int)/2=((k/2^(j+1):Nat):Int):=by rw[dv];lia
     have ej:(j:Int)+1=((j+1:Nat):Int):=by lia
     refine xwb Z Z Z ⟨j+1,G2,cg,h2,cb,v8,v9,i2,?_,by lia,bi,R,W,bn,ce,b9,b6⟩;exact(A2f (λu:Int=>[o3 (V.ref p),o3 (V.int f'),o3 (V.int (k:Int)),o3 (V.ref g.p),o3 (V.ref L),o3 (V.int h2),o3 (V.int u),o3 (V.int ((j:Int)+1)),v8,v9]) ed).trans (A2f (λv:Int=>[o3 (V.ref p),o3 (V.int f'),o3 (V.int (k:Int)),o3 (V.ref g.p),o3 (V.ref L),o3 (V.int h2),o3 (V.int ((k/2^(j+1):Nat):Int)),o3 (V.int v),v8,v9]) ej)
  .have Y:¬((k/2^j:Nat):Int) > 0:=λz=>Y (A0d z);exact Bc (aj (.inl A0))
end
theorem ifT{b:Bool}{A B:Prop}(h:b=o5)(x:A):if b=o5 then A else B:=by rw[h];exact Cr x
theorem ifF{b:Bool}{A B:Prop}(h:b=o6)(x:B):if b=o5 then A else B:=by rw[h];exact Bc x
structure Fv(G:Gv)(f:Nat)(φ:D_):Prop where
ex:∃n:Nat,n<=40/\Al G f ((n+1:Nat):Int)/\Lm G n f/\∀x y,fieldF G n f x y=φ x y
theorem Fv.app{k f:Nat}(ok:GOk G)(a:AK G b k)(h:Fv G f φ):Fv b f φ:=by
 exact Dh h.ex λn d c e g=>⟨n,d,a.lev c,e.app a,λx y=>by rw[Iz ok a c];exact g x y⟩
theorem Fv.eq(b:G=G0++r)(ok:GOk G)(h:Fv G f φ)(h':Fv G a ψ)(e:∀x y,φ x y=ψ x y):f=a:=by
 exact Dh h.ex λn o i j k=>Dh h'.ex λm l c d g=>(Qh b ok A0 A0 i c j d λx y=>by rw[k,g,e]).2
theorem Fv.to(h:Fv G f φ)(e:∀x y,φ x y=ψ x y):Fv G f ψ:=by
 exact Dh h.ex λn a b c d=>⟨n,a,b,c,λx y=>by rw[d,e]⟩
section
variable{P:N_}{w:Q_}{K:O_}{mg:C_}{n9:T_}{a:Ad}
inductive aAg(a:Ad)(vs:List V)(H:Hp)(Q:VK):Prop
|mk (p dx mem pr:R_) (g:GA) (G:Gv) (Κ:KTy) (φ:D_) (N b:Nat) (r:AB) (m:MA) (f k:Nat) (_:vs=[.ref p,.int f,.int (k:Int)]) (_:ZS a H g G Κ N b p dx mem pr r m) (_:Na Κ N) (_:ClK r Κ) (_:aDs Κ r φ k) (_:Fv G f φ) (_:SS φ k) (_:b+12000+10*N<7900000) (_:∀(d:Nat)(G':Gv)(H':Hp)(i:Nat),FrZ g m H H'->ZS a H' g G' Κ N (b+12048) p dx mem pr r m->AK G G' i->Fv G' d (sFN r k φ)->Q (.int d) H'):aAg a vs H Q
def ZC(a:Ad):Sp:=λvs H Q _=>aAg a vs H Q
theorem aEY(F:Fun K "jump" "jump" Vb f fd)(T:Top K mg a)(dL:Cal P w K mg n9 CX0 150 "road" Ve (Zu a))(aX:Cal P w K mg n9 CX0 4 "trimmed" Lr (OW a)):AL P w K mg n9 CX0 151 f fd Ve (ZC a):=by
 refine F.ok Wn D_9 λag A ad s H vs Q E hr h=>?_
 obtain⟨p,dx,mem,pr,g,G,Κ,φ,N,b,r,m,f',k,rfl,zs,fin,cl,I,fv,nr,few,kn⟩:=h;refine Dh (id fv.ex) λn ac lf tr hf=>?_;have re:=zs.jz.jw.rest;refine⟨_,(Ac (Ao (i:=3) Wn.nd Z O_9 (Ar dL (rm hr) Z Am (Aa (pv 0) (Aa (pv 1) (Aa (pv 2) Ab))))) (Ac (AO (AA Dj (AH Bh Z T.j_ A2g (Aa (pv 3) Ab)) Ae (AF _)) (Ag (Aw (pv 1))) Az) (Ag (Aw (Ar aX (rm hr) Z Am (Aa (AC (pv 0) Z) (Aa (Aj An (Aj Ax (pv 3) (Fc Dm Ae) R_9) Ae R_9) Ab))))))),?_⟩
 try dsimp only[cxK]
 refine Bj ?_;intro r1 s1 k1 S E1;refine xw3 Z Z Z (.mk p dx mem pr g G Κ φ N b r m f' n k Z zs fin cl I lf ac tr hf nr few (λL u G1 H1 i1 B c q nL hL M=>?_));refine S (Bj ?_);intro r2 s2 k2 U E2;refine⟨_,Z,L,_,Z,.inl (SqL.of hL),Z,_,Z,?_⟩;rcases M with ⟨rfl,M⟩|⟨t,sq,e,C,l,X,ht,ah,Y,rs⟩
 .exact ifT Z ⟨_,Z,kn f' G1 H1 i1 B (c.mono A0) q ((fv.app zs.fu.ok q).to λx y=>(M x y).symm)⟩
 .have ne:u≠[]:=λz=>by rw[z]at X;cases X
  have tl:=V1.mpr ne;refine ifF (A0f (λz=>by injection z with z;rw[B8]at z;lia)) (U ?_);have li:atI (u.map V.ref) (-1)=o3 (.ref t):=by
   unfold atI;have:ixN (u.map V.ref).length (-1)=o3 (u.length-1):=by
    unfold ixN;rw[B8,A0c A6,A0e A0];congr 1;lia
   rw[this];show(u.map V.ref)[u.length-1]?=_;rw[C1,<-List.getLast?_eq_getElem?,X];rfl
  refine xwf Z Z c.jz.jw.hp T.Q1 T.Q2 (Ew _ _ _ _ _) ⟨_,Z,1,Z,L,_,-1,.ref t,Z,Z,SqL.of hL,li,t,_,2,.int (C:Int),Z,Z,SqT.of ht,Ai (j:=2) Z,?_⟩;have aj:=c.jz.sz fin;refine⟨g,G1,C,l,Z,c.fu,Y,by lia,λnh G8 H8 v d o ae=>?_⟩;have af:=c.fr v d o;obtain⟨r8,e8⟩:=d.g0;refine Dh (IF e8 d.ok A0 (o.lev Y) ae) λm8 ai aa D O=>?_;have R:=q.trans o;have fe:∀x y,fieldF G8 m8 nh x y=sFN r k φ x y:=λx y=>by rw[O,Iz c.fu.ok o Y];exact rs x y
  have ab:=VW e8 d.ok A0 D (λx y W=>Wy re nr (C0 k) (by rw[<-fe];exact W));exact kn nh G8 H8 _ (B.trans (Fr.z v)) (af.mono A0) R ⟨m8,ab,aa,D,fe⟩
end
end J
namespace J
open PySem L2
noncomputable def EM(G:Gv):Nat->Nat->Int->Int->List (List Int)
|0,i,x,y=>if i=0 then []else [[y,x,(i:Int)]]
|n+1,i,x,y=>match G[i]? with
 |some q=>(List.range 4).flatMap λk=>EM G n (q.parts.getD k 0).toNat (x+((k%2:Nat):Int)*2^n) (y+((k/2:Nat):Int)*2^n)
 |none=>[]
noncomputable def Ie(G:Gv)(n:Nat)(f:L_)(x y:Int)(k:Nat):List (List Int):=EM G n (f k) (x+((k%2:Nat):Int)*2^n) (y+((k/2:Nat):Int)*2^n)
theorem Qg{α β:Type}{f g:α->List β}:∀{l:List α},(∀x∈l,f x=g x)->l.flatMap f=l.flatMap g
|[],_=>rfl
|x::l,h=>by rw[T8,T8,h x (C8 ..),Qg λy a=>h y (C9 _ a)]
theorem Jo{G:Gv}{n i:Nat}{q:Sq}{a b c d:Nat}(h:IC G n i q a b c d)(x y:Int):EM G (n+1) i x y=(List.range 4).flatMap (Ie G n (f4 a b c d) x y):=by
 rw[show EM G (n+1) i x y=(match G[i]? with|some q=>(List.range 4).flatMap λk=>EM G n (q.parts.getD k 0).toNat (x+((k%2:Nat):Int)*2^n) (y+((k/2:Nat):Int)*2^n)|none=>[])from rfl,h.g];refine Qg λk e=>?_;have:=(h.nat (by simpa using e)).1;unfold Ie;rw[D3,this];rfl
theorem Eb(ok:GOk G):∀{n i:Nat}{x y:Int},Al G i (n:Int)->((EM G n i x y).length:Int)=Cd G n i
|0,i,x,y,_=>by
 show(((if i=0 then []else [[y,x,(i:Int)]]:List (List Int)).length:Nat):Int)=if i=0 then 0 else 1;split<;>rfl
|n+1,i,x,y,h=>by
 refine xe5 (BC ok h) λq a b c d e=>?_;rw[Jo e,FM e];show(((Ie G n (f4 a b c d) x y 0++(Ie G n (f4 a b c d) x y 1++(Ie G n (f4 a b c d) x y 2++(Ie G n (f4 a b c d) x y 3++[])))).length:Nat):Int)=Cd G n a+(Cd G n b+(Cd G n c+(Cd G n d+0)))
 have f:=Eb ok (x:=x+((0%2:Nat):Int)*2^n) (y:=y+((0/2:Nat):Int)*2^n) e.hx;have g:=Eb ok (x:=x+((1%2:Nat):Int)*2^n) (y:=y+((1/2:Nat):Int)*2^n) e.hy;have j:=Eb ok (x:=x+((2%2:Nat):Int)*2^n) (y:=y+((2/2:Nat):Int)*2^n) e.hz;have k:=Eb ok (x:=x+((3%2:Nat):Int)*2^n) (y:=y+((3/2:Nat):Int)*2^n) e.hw;rw[<-f,<-g,<-j,<-k];simp only[C6,R8,O1];rfl
theorem aF5(v h:Nat):(v:Int)=((v/h:Nat):Int)*(h:Int)+((v%h:Nat):Int):=by
 have:=N9 v h;rw[<-O5,<-O1,Z2,this]
theorem FK(ok:GOk G):∀{n i:Nat}{x y:Int}{r:I_},Al G i (n:Int)->(r∈EM G n i x y ↔ ∃u v:Nat,u<2^n/\v<2^n/\cellF G n i u v≠0/\r=[y+v,x+u,(cellF G n i u v:Int)])
|0,i,x,y,r,_=>by
 show r∈(if i=0 then []else [[y,x,(i:Int)]]:List (List Int))↔_;constructor
 .intro h;by_cases z:i=0
  .rw[A0e z]at h;cases h
  .rw[A0c z]at h;refine⟨0,0,by decide,by decide,z,?_⟩;rw[D4.mp h];show [y,x,(i:Int)]=[y+0,x+0,(i:Int)]
   rw[T9,T9]
 .intro o;refine CC o λu v g j l f=>?_;clear o;subst f;have g:=T7.mp g;have j:=T7.mp j;subst g j;have l:i≠0:=l;rw[A0c l];show [y+0,x+0,(i:Int)]∈_;rw[T9,T9];exact D4.mpr Z
|n+1,i,x,y,r,h=>by
 refine xe5 (BC ok h) λq a b c d m=>?_;have w:=FB n;rw[Jo m,U4];constructor
 .intro t;refine xea t λk s K=>?_;have s:k<4:=by simpa using s
  refine CC ((FK ok (m.nat s).2).mp K) λu v g j l f=>?_;subst f;refine xa4 (Gx s g j) λC D F H I=>?_;have e:=BF m C D;rw[F,H,I]at e;refine⟨_,_,C,D,by rw[e];exact l,?_⟩;rw[e,<-w,O1,O5,O1,O5,K9 ((k/2:Nat):Int),K9 ((k%2:Nat):Int),K1,K1,Int.add_comm (v:Int),Int.add_comm (u:Int)]
 .intro p;refine CC p λu v g j l f=>?_;clear p;subst f;rw[BF m g j]at l⊢;have E:=Dy g j;refine⟨quad n u v,by simpa using E,(FK ok (m.nat E).2).mpr ⟨u%2^n,v%2^n,M8 _ (Bo n),M8 _ (Bo n),l,?_⟩⟩;have L:quad n u v/2=v/2^n:=by
   have:=EY g;unfold quad;generalize u/2^n=A at *
   generalize v/2^n=B at *
   lia
  have M:quad n u v%2=u/2^n:=by
   have:=EY g;unfold quad;generalize u/2^n=A at *
   generalize v/2^n=B at *
   lia
  rw[L,M,<-w,K1,K1,<-aF5,<-aF5]
theorem Og(ok:GOk G):∀{n i:Nat}{x y:Int},Al G i (n:Int)->(EM G n i x y).Nodup
|0,i,x,y,_=>by
 show(if i=0 then []else [[y,x,(i:Int)]]:List (List Int)).Nodup;split
 .exact R6
 .simp
|n+1,i,x,y,h=>by
 refine xe5 (BC ok h) λq a b c d o=>?_;rw[Jo o,N6,List.pairwise_flatMap];refine⟨λk g=>?_,?_⟩
 .have g:k<4:=by simpa using g
  exact N6.mp (Og ok (o.nat g).2)
 .refine List.Pairwise.imp_of_mem (λ{k j} g s K r H P t e=>K ?_) (N6.mp (List.nodup_range (n:=4)));subst e;have g:k<4:=by simpa using g
  have s:j<4:=by simpa using s
  refine CC ((FK ok (o.nat g).2).mp H) λu v D I O F=>CC ((FK ok (o.nat s).2).mp t) λp Q m w L l=>?_;rw[F]at l;injection l with f1 l
  injection l with f2 l
  have E:=FB n;rw[<-E]at f1 f2;have f:∀{A B h u p:Nat},A<2->B<2->u<h->p<h->(A:Int)*(h:Int)+u=(B:Int)*(h:Int)+p->A=B:=by
   intro A B h u p z C D m e;have z:A=0\/A=1:=by lia
   have C:B=0\/B=1:=by lia
   rcases z with rfl|rfl<;>rcases C with rfl|rfl<;>simp at e<;>first|rfl|lia
  have M:=f (A:=k/2) (B:=j/2) A0 A0 I w A0;have N:=f (A:=k%2) (B:=j%2) A0 A0 D m A0;lia
noncomputable def stC:List Cl->Int->Int->Nat
|[],_,_=>0
|c::cs,x,y=>if x=c.x/\y=c.y then c.s else stC cs x y
theorem YS(a:G=G0++v)(ok:GOk G)(h:ST G cs n f):(∀c∈cs,c.s<8)->Lm G n f/\∀x y,fieldF G n f x y=stC cs x y:=by
 induction h with
 |nil =>
  intro _;refine⟨.inl Z,λx y=>?_⟩;unfold fieldF;split
  .rename_i z;exact FN a ok A6 (GE z.1 z.2.1) (GE z.2.2.1 z.2.2.2)
  .rfl
 |@cons cs c n f r k w i m h l p o j =>
  intro b;obtain⟨t,e⟩:=j λc g=>b c (C9 _ g);refine Dh (TF a ok (b c (C8 ..)) p) λu _ q A d=>?_;have:u=m:=by
   have:=A1f (q.uniq o);lia
  subst this;refine⟨A,λx y=>?_⟩;rw[d x y,e x y];rfl
noncomputable def kvC(ds:List Cl):List (List Key×V):=ds.map λc=>(kOf [c.x,c.y],V.int (c.s:Int))
theorem MK:∀{ds:List Cl},(ds.map λc=>(c.x,c.y)).Nodup->∀{c:Cl},c∈ds->BK (kvC ds) (kOf [c.x,c.y])=o3 (.int (c.s:Int))
|d::ds,nd,c,a=>by
 rw[F5,O0]at nd;show BK ((kOf [d.x,d.y],V.int (d.s:Int))::kvC ds) (kOf [c.x,c.y])=_;rcases C4.mp a with rfl|a
 .exact BW Z
 .rw[BD λz=>?_]
  .exact MK nd.2 a
  .have z:=Lx z;injection z with z1 z
   injection z with z2 z
   exact nd.1 (F1.mpr ⟨c,a,by rw[z1,z2]⟩)
noncomputable def aE7(c:Cl):List Int:=[c.y,c.x,(c.s:Int)]
noncomputable def Mc(ds:List Cl)(c:Cl):List Cl:=if ds.any (λd=>decide (d.x=c.x/\d.y=c.y))=o5 then ds.map (λd=>if d.x=c.x/\d.y=c.y then c else d)else ds++[c]
theorem Ue{c d:Cl}:d∈Mc ds c↔d=c\/(d∈ds/\¬(d.x=c.x/\d.y=c.y)):=by
 unfold Mc;by_cases h:ds.any (λd=>decide (d.x=c.x/\d.y=c.y))=o5
 .rw[A0e h,F1];refine xea (Z1.mp h) λz j g=>?_;have g:=A2b g;constructor
  .intro b;refine xea b λe i f=>?_;clear b;subst f;by_cases q:e.x=c.x/\e.y=c.y
   .rw[A0e q];exact .inl Z
   .rw[A0c q];exact .inr ⟨i,q⟩
  .rintro(rfl|⟨a,q⟩)
   .exact⟨z,j,A0e g⟩
   .exact⟨d,a,A0c q⟩
 .rw[A0c h,J7,D4];have no:∀e∈ds,¬(e.x=c.x/\e.y=c.y):=λe i q=>h (Z1.mpr ⟨e,i,A0d q⟩);constructor
  .rintro(a|rfl)
   .exact .inr ⟨a,no d a⟩
   .exact .inl Z
  .rintro(rfl|⟨a,_⟩)
   .exact .inr Z
   .exact .inl a
theorem Uh(ds:List Cl)(c:Cl):(Mc ds c).length<=ds.length+1:=by
 unfold Mc;split
 .rw[B8];lia
 .rw[C6];exact C0 _
theorem Wz  {c:Cl} (h:(ds.map λc=>(c.x,c.y)).Nodup):((Mc ds c).map λc=>(c.x,c.y)).Nodup:=by
 unfold Mc;by_cases q:ds.any (λd=>decide (d.x=c.x/\d.y=c.y))=o5
 .rw[A0e q,M9];have:((λc:Cl=>(c.x,c.y)) ∘ λd=>if d.x=c.x/\d.y=c.y then c else d)=λd=>(d.x,d.y):=by
   funext d
   show((if d.x=c.x/\d.y=c.y then c else d).x,(if d.x=c.x/\d.y=c.y then c else d).y)=(d.x,d.y)
   split
   .rename_i z;rw[z.1,z.2]
   .rfl
  rw[this];exact h
 .rw[A0c q,C7,S5];refine⟨h,by simp,λa i b g e=>q ?_⟩;refine xea (F1.mp i) λd j f=>?_;subst f;rw[F5,Z3,D4]at g;rw[g]at e;injection e with e1 e2
  exact Z1.mpr ⟨d,j,A0d ⟨e1,e2⟩⟩
theorem aCH(ds:List Cl)(c:Cl):EG (kvC ds) (kOf [c.x,c.y]) (.int (c.s:Int))=kvC (Mc ds c):=by
 have a:∀d:Cl,(kOf [d.x,d.y]=kOf [c.x,c.y])↔(d.x=c.x/\d.y=c.y):=λd=>⟨λz=>by
  have z:=Lx z;injection z with z1 z
  injection z with z2 z
  exact⟨z1,z2⟩,λz=>by rw[z.1,z.2]⟩
 unfold EG Mc kvC;rw[List.any_map];have:((λb:List Key×V=>decide (b.1=kOf [c.x,c.y])) ∘ λc:Cl=>(kOf [c.x,c.y],V.int (c.s:Int)))=λd=>decide (d.x=c.x/\d.y=c.y):=by
  funext d
  exact decide_eq_decide.mpr (a d)
 rw[this];split
 .rw[M9,M9];congr 1
  funext d
  show(if kOf [d.x,d.y]=kOf [c.x,c.y]then(kOf [d.x,d.y],V.int (c.s:Int))else(kOf [d.x,d.y],V.int (d.s:Int)))=(kOf [(if d.x=c.x/\d.y=c.y then c else d).x,(if d.x=c.x/\d.y=c.y then c else d).y],V.int ((if d.x=c.x/\d.y=c.y then c else d).s:Int))
  by_cases q:d.x=c.x/\d.y=c.y
  .rw[A0e ((a d).mpr q),A0e q,q.1,q.2]
  .rw[A0c λz=>q ((a d).mp z),A0c q]
 .rw[C7];rfl
structure Of(G:Gv)(n f:Nat)(ds:List Cl):Prop where
nd:(ds.map λc=>(c.x,c.y)).Nodup
mem:∀c:Cl,c∈ds↔(1<=c.s/\fieldF G n f c.x c.y=c.s)
theorem YE(ok:GOk G)(l:Al G f ((n+1:Nat):Int)):r∈EM G (n+1) f (-(2^n)) (-(2^n)) ↔ ∃x y:Int,fieldF G n f x y≠0/\r=[y,x,(fieldF G n f x y:Int)]:=by
 have c:=FB n;have e:=QW n;rw[FK ok l];constructor
 .intro b;refine CC b λu v q s i h=>?_;clear b;subst h;have j:fieldF G n f (-(2^n)+u) (-(2^n)+v)=cellF G (n+1) f u v:=by
   unfold fieldF;rw[A0e ⟨by lia,by lia,by lia,by lia⟩];congr 1<;>lia
  refine⟨-(2^n)+u,-(2^n)+v,by rw[j];exact i,by rw[j]⟩
 .intro d;refine BJ d λx y i g=>?_;clear d;subst g;have a:=i;unfold fieldF at a;split at a
  .rename_i z;refine xa3 z λk m o p=>⟨(x+2^n).toNat,(y+2^n).toNat,GE k m,GE o p,a,?_⟩
   unfold fieldF;rw[A0e ⟨k,m,o,p⟩,show -(2^n)+(((y+2^n).toNat:Nat):Int)=y by lia,show -(2^n)+(((x+2^n).toNat:Nat):Int)=x by lia]
  .exact absurd Z a
theorem Of.perm(ok:GOk G)(l:Al G f ((n+1:Nat):Int))(h:Of G n f ds):(EM G (n+1) f (-(2^n)) (-(2^n))).Perm (ds.map aE7):=by
 refine(List.perm_ext_iff_of_nodup (Og ok l) ?_).mpr λr=>?_
 .rw[N6,P1];have k:=h.nd;rw[N6,P1]at k;refine k.imp λ{c d} j e=>j ?_;injection e with e1 e
  injection e with e2 e
  rw[e1,e2]
 .rw[YE ok l,F1];constructor
  .intro a;refine BJ a λx y p i=>?_;clear a;subst i;exact⟨⟨x,y,fieldF G n f x y⟩,(h.mem _).mpr ⟨K3 p,Z⟩,Z⟩
  .intro b;refine xea b λc o g=>?_;clear b;subst g;obtain⟨q,m⟩:=(h.mem c).mp o;exact⟨c.x,c.y,by lia,by rw[m];rfl⟩
theorem Of.cnt(ok:GOk G)(l:Al G f ((n+1:Nat):Int))(h:Of G n f ds):Cd G (n+1) f=(ds.length:Int):=by
 rw[<-Eb ok (x:=-(2^n)) (y:=-(2^n)) l,(h.perm ok l).length_eq,B8]
theorem aF6{D t:R_}{c:Cl}(e:H D=o3 (.dT (kvC ds)))(a:H t=o3 (.tup [.int c.x,.int c.y]))(b:ds.length<1000):Mm H D (.ref t) (.int (c.s:Int)) (upd H D (.dT (kvC (Mc ds c)))):=by
 rw[<-aCH];exact Mm.t (k:=kOf [c.x,c.y]) e a (Fe (by rw[show(kvC ds).length=ds.length from B8 _];lia))
theorem Tw:∀{l m:List (List Int)},l.Pairwise (λp q=>Da q p=o6)->m.Pairwise (λp q=>Da q p=o6)->l.Perm m->l=m
|[],m,_,_,h=>(List.nil_perm.mp h).symm
|a::l,[],_,_,h=>absurd h.length_eq B0
|a::l,b::m,h1,h2,h=>by
 rw[K4]at h1 h2;have e:a=b:=by
  have c:=h.mem_iff.mp (C8 ..);have d:=h.mem_iff.mpr (C8 ..);rcases C4.mp c with z|z
  .exact z
  .rcases C4.mp d with y|y
   .exact y.symm
   .exact Ug (h2.1 a z) (h1.1 b y)
 subst e;rw[Tw h1.2 h2.2 h.cons_inv]
structure NY(ds:List Cl)(φ:D_):Prop where
nd:(ds.map λc=>(c.x,c.y)).Nodup
mem:∀c:Cl,c∈ds↔(1<=c.s/\φ c.x c.y=c.s)
theorem aFD(h:NY ds φ)(x y:Int):stC ds.reverse x y=φ x y:=by
 have g:∀{a:List Cl},(∀c∈a,1<=c.s/\φ c.x c.y=c.s)->(∃c∈a,c.x=x/\c.y=y)->stC a x y=φ x y:=by
  intro a;induction a with
  |nil=>intro _ j;refine xea j λc b _=>?_;cases b
  |cons d a f =>
   intro e ⟨c,b,k,l⟩;show(if x=d.x/\y=d.y then d.s else stC a x y)=_;by_cases q:x=d.x/\y=d.y
   .rw[A0e q,q.1,q.2];exact(e d (C8 ..)).2.symm
   .rw[A0c q];refine f (λc b=>e c (C9 _ b)) ?_;rcases C4.mp b with rfl|b
    .exact absurd ⟨k.symm,l.symm⟩ q
    .exact⟨c,b,k,l⟩
 have i:∀{a:List Cl},(∀c∈a,¬(c.x=x/\c.y=y))->stC a x y=0:=by
  intro a;induction a with
  |nil=>intro _;rfl
  |cons d a f =>
   intro e;show(if x=d.x/\y=d.y then d.s else stC a x y)=_;rw[A0c λq=>e d (C8 ..) ⟨q.1.symm,q.2.symm⟩];exact f λc b=>e c (C9 _ b)
 by_cases z:φ x y=0
 .rw[z];refine i λc b q=>?_;obtain⟨n,m⟩:=(h.mem c).mp (Y5.mp b);rw[q.1,q.2,z]at m;lia
 .refine g (λc b=>(h.mem c).mp (Y5.mp b)) ⟨⟨x,y,φ x y⟩,Y5.mpr ((h.mem _).mpr ⟨by show 1<=φ x y;lia,Z⟩),Z,Z⟩
seal L2.PA L2.PE L2.PS L2.PSs L2.PT L2.PW
noncomputable def ZO(q:It3):List Int:=q.y::q.x::q.r
theorem aCK{α:Type}{f:Nat->List α}{j:Nat}(a:j<=4):((List.range j).flatMap f).length<=((List.range 4).flatMap f).length:=by
 match j,a with
 |0,_=>simp
 |1,_=>simp[P2]
 |2,_=>simp[P2]
 |3,_=>simp[P2]
 |4,_=>exact C0 _
section
variable{P:N_}{w:Q_}{K:O_}{mg:C_}{n9:T_}{a:Ad}
theorem aCi(F:Fun K "by_rows" "by_rows" Nl f fd)(T:Top K mg a):AL P w K mg n9 CX0 1 f fd YB LG:=by
 refine F.ok UY (λvs H Q E h=>?_) (λg A d s H vs Q E l h=>?_)
 .refine xe4 h λt x y r b=>?_;refine xa b λc _=>?_;clear b;clear h;subst c;rfl
 .refine xe4 h λt x y r b=>?_;refine xa2 b λc e k=>?_;clear b;clear h;subst c;refine⟨_,(Ag (Aw (Dr (Aa (Aj An (pv 0) Ae R_9) (Aa (Aj An (pv 0) Ae R_9) Ab))))),?_⟩
  try dsimp only[cxK]
  exact⟨_,Z,t,_,1,.int y,Z,Z,SqT.of e,Ai (j:=1) Z,_,Z,t,_,0,.int x,Z,Z,SqT.of e,Ai (j:=0) Z,S_2,λu i=>k u i⟩
inductive aFg(a:Ad)(n:Nat)(vs:List V)(H:Hp)(Q:VK):Prop
|mk (g:GA) (G:Gv) (i l:Nat) (x y:Int) (L:R_) (it0:List It3) (_:vs=[.ref g.p,.int i,.int x,.int y,.ref L]) (_:AX a H g G) (_:Al G i (l:Int)) (_:l<n) (_:H L=o3 (.lst (it0.map λq=>V.ref q.a))) (_:L∉Dl g) (_:(it0.length:Int)+Cd G l i<=5000) (_:∀(items:List It3)(H':Hp),Fx [L] H H'->H' L=o3 (.lst ((it0++items).map λq=>V.ref q.a))->(∀q∈items,H' q.a=o3 (.tup (q.ns.map V.int)))->items.map ZO=EM G l i x y->Q .non H'):aFg a n vs H Q
def aFA(a:Ad)(n:Nat):Sp:=λvs H Q _=>aFg a n vs H Q
theorem aDf(F:Fun K "gather_cells" "gather_cells" FU f fd)(T:Top K mg a)(hm:mg "gather_cells" = o3 (.ref f))(Bi:CM K fd Ds [])(aJ:BR P w K mg n9 CX0 4 a.J5 "state_of" Lg (Wf a)):∀n,AL P w K mg n9 CX0 (n+5) f fd Ds (aFA a n)
|0=>by
 refine F.ok Cs (λvs H Q E h=>?_) (λaj A ac s H vs Q E hr h=>?_)
 .obtain⟨g,G,i,l,x,y,L,C,rfl,_,_,h0,_⟩:=h;exact absurd h0 (N5 _)
 .obtain⟨g,G,i,l,x,y,L,C,rfl,_,_,h0,_⟩:=h;exact absurd h0 (N5 _)
|n+1=>by
 have aW:Cal P w K mg n9 CX0 (n+5) "gather_cells" Ds (aFA a n):=⟨f,fd,aDf F T hm Bi aJ n,hm,F.kp,Bi⟩
 refine F.ok Cs (λvs H Q E h=>?_) (λaj A ac s H vs Q E hr h=>?_)
 .obtain⟨g,G,i,l,x,y,L,C,rfl,_⟩:=h;rfl
 .obtain⟨g,G,i,l,x,y,L,C,rfl,c,hl,ln,hL,nL,cn,k⟩:=h;refine xea (id hl) λq0 O l0=>?_;have ao:l<=48:=by have:=(c.ok.lev O).2;lia
  obtain⟨r0,e0⟩:=c.g0;have aq:∀z∈Dl g,z∉[L]:=λz hz m=>nL (by rw[D4]at m;rw[<-m];exact hz);refine⟨_,(Ac (Ao (i:=5) Cs.nd Z O_9 (Aj Ax (AC (pv 0) Z) (pv 1) R_9)) (Ac (AO (AA Dj (pv 1) (Aj Ax (AC (pv 0) Z) (pv 5) R_9) (AF _)) (Ag Wt) Az) (Ac (AO (AA Dj (pv 5) Ae (AF _)) (Ac (Bp (DJ A1g A1h A2a Cb (pv 4) (AZ (Aa (pv 2) (Aa (pv 3) (Aa (AD (pv 0) aJ (rm hr) Am (Aa (pv 1) Ab)) Ab))) Ab))) (Ag Wt)) Az) (Ac (Ao (i:=6) Cs.nd Z O_9 (AG NA Ae (AG Cg (pv 5) Ae))) (Ag (BN A1c Z (Mx o5 Z T.i_ (Aa (Aj Ax (AC (pv 0) Z) (pv 1) R_9) Ab)) (Nr Z (CW (AU (i:=7) Cs.nd Z O_9) (CW (AU (i:=8) Cs.nd Z O_9) Lp))) (Ag (Bp (Ar aW (rm hr) Z Am (Aa (pv 0) (Aa (pv 8) (AV AQ (pv 2) (AG EK (pv 6) (AG Bm (pv 7) Ae)) (AV AQ (pv 3) (AG EK (pv 6) (AG CP (pv 7) Ae)) (Aa (pv 4) Ab)))))))))))))),?_⟩
  try dsimp only[cxK]
  refine⟨_,Z,g.p,_,g.dx,_,_,Z,c.at'.hp,T.J4,T.Q3,Fy g,_,Z,g.lv,_,(i:Int),.int q0.lev,Z,Z,SqL.of c.at'.lv,Ai (by rw[C1,O];rfl),?_⟩;refine⟨_,Z,_,Z,g.p,_,g.dx,_,_,Z,c.at'.hp,T.J4,T.U_,Jm g,_,Z,g.br,_,q0.lev,.int (bareN l:Int),Z,Z,SqL.of c.br,by rw[l0];exact Ai (aAD A0),Z,_,Z,?_⟩;by_cases z:i=bareN l
  .rw[A0d (by rw[z])];refine Cr (k [] H (Fx.refl _ _) (by rw[S0];exact hL) (λq B=>nomatch B) ?_);refine(List.eq_nil_iff_forall_not_mem.mpr λr hr=>?_).symm;refine CC ((FK c.ok hl).mp hr) λu v hu hv ne _=>?_;rw[z]at ne;exact ne (FN e0 c.ok ao hu hv)
  rw[A0f (by intro e;injection e with e;exact z A0)];refine Bc ⟨_,Z,Z,_,Z,?_⟩;cases l with
  |zero =>
   rw[A0d (by rw[l0];rfl)];have i0:i≠0:=λq=>z (by rw[q];rfl);have d:=EZ G 0 i;refine Cr ⟨_,Z,.inl ⟨Z,_,SqL.of hL⟩,_,Z,_,Z,_,Z,g.p,g.dx,_,Z,c.at'.hp,Px g,_,Z,g,G,i,q0,Z,c.at',O,l0,S_3,λt ht=>?_⟩;have s1:=AM (o:=.tup [.int x,.int y,.int i]) ht;have Y:=s1 _ _ hL;refine⟨L,_,.ref t,Z,Z,Y,Fe (by rw[B8];lia),k [⟨t,x,y,[(i:Int)]⟩] _ ((Ay.fx s1).trans (aGD Y (λz=>z))) ?_ (λq B=>?_) ?_⟩
   .rw[C7];exact Af
   .rw[D4.mp B,Av (AE Af Y A4)];exact Af
   .show _=if i=0 then []else [[y,x,(i:Int)]];rw[A0c i0];rfl
  |succ m =>
   rw[A0f (by rw[l0];intro z;injection z with z;lia)];refine xe5 (BC c.ok hl) λq d D I M U=>?_;have eq:=A1d (O.symm.trans U.g);subst eq;refine AN (GK c.at' U) λts t h3 et ht=>?_;have ar:=OG m;have as:=Wu (l:=m) A0;refine Bc ⟨_,Z,_,_,Z,Z,_,_,Z,Z,⟨by lia,by lia,by decide⟩,?_⟩;rw[show(λ(i j:Int)=>V.int (i*2^j.toNat)) 1 (q0.lev-1)=V.int (2^m)from A2f V.int (by show(1:Int)*2^(q0.lev-1).toNat=2^m;rw[show(q0.lev-1).toNat=m by lia];lia)];refine⟨_,Z,g.p,_,g.dx,_,_,Z,c.at'.hp,T.J4,T.L0,Cz g,_,Z,g.pt,_,(i:Int),.ref t,Z,Z,SqL.of h3,Ai et,t,Z,⟨_,SqT.of ht⟩,?_⟩;have whole:=Jo U x y;have ag:=Eb c.ok (x:=x) (y:=y) hl;rw[whole]at ag;refine Lj (b:=o5) (xs:=[.int (d:Int),.int (D:Int),.int (I:Int),.int (M:Int)]) (λj σ S=>∃(items:List It3)(u7 u8:Option V),σ=[o3 (.ref g.p),o3 (.int i),o3 (.int x),o3 (.int y),o3 (.ref L),o3 (.int q0.lev),o3 (.int (2^m)),u7,u8]/\Fx [L] H S/\S L=o3 (.lst ((C++items).map λq=>V.ref q.a))/\(∀q∈items,S q.a=o3 (.tup (q.ns.map V.int)))/\items.map ZO=(List.range j).flatMap (Ie G m (f4 d D I M) x y)) ⟨[],o4,o4,Z,Fx.refl _ _,(by rw[S0];exact hL),(λq B=>nomatch B),Z⟩ (λj σ S _ z=>SqT.of (by refine CL z λ_ _ _ _ fx _=>?_;exact fx.tup ht)) ?_ ?_
   .intro j v σ S T' N ah nT;refine BV ah λitems u7 u8 W X aa ab ei=>?_;clear ah;subst W;have hj:=(B9.mp N).1;have ak:v=.int (f4 d D I M j:Int):=by
     match j,hj,N with
     |0,_,N=>cases N;rfl
     |1,_,N=>cases N;rfl
     |2,_,N=>cases N;rfl
     |3,_,N=>cases N;rfl
    subst ak;have s4:=AM (o:=.tup [.int j,.int (f4 d D I M j)]) nT;refine Qb Af ?_;generalize upd S T' (.tup [.int j,.int (f4 d D I M j)])=H4 at s4⊢;have ae:=X.trans (Ay.fx s4);have al:=c.fx ae aq;have lj:=(U.nat hj).2;have next:(List.range (j+1)).flatMap (Ie G m (f4 d D I M) x y)=(List.range j).flatMap (Ie G m (f4 d D I M) x y)++EM G m (f4 d D I M j) (x+((j%2:Nat):Int)*2^m) (y+((j/2:Nat):Int)*2^m):=by
     rw[P2,List.flatMap_append];simp only[T8,List.flatMap_nil,S0];rfl
    have bd:=aCK (f:=Ie G m (f4 d D I M) x y) (j:=j+1) hj;rw[next,C6,<-ei,B8]at bd;have lc:=Eb c.ok (x:=x+((j%2:Nat):Int)*2^m) (y:=y+((j/2:Nat):Int)*2^m) lj;have ex:x+2^m*((j:Int)%2)=x+((j%2:Nat):Int)*2^m:=by rw[K9];rfl
    have ey:y+2^m*((j:Int)/2)=y+((j/2:Nat):Int)*2^m:=by rw[K9];rfl
    refine⟨_,Z,_,Z,_,Z,_,Z,_,Z,_,_,Z,Z,(by show(0:Int)<2;decide),_,_,Z,Z,.inl ⟨by lia,by lia⟩,_,_,Z,Z,?_⟩;refine⟨_,Z,_,Z,_,Z,_,_,Z,Z,⟨by decide,by decide⟩,_,_,Z,Z,.inl ⟨by lia,by lia⟩,_,_,Z,Z,_,Z,?_⟩;refine⟨g,G,f4 d D I M j,m,x+2^m*((j:Int)%2),y+2^m*((j:Int)/2),L,C++items,Z,al,lj,by lia,s4 _ _ aa,nL,by rw[C6];lia,λR H5 af am an ad=>?_⟩;refine⟨items++R,_,_,Z,ae.trans af,by rw[<-N7];exact am,λq B=>?_,?_⟩
    .rcases J7.mp B with B|B
     .exact af.tup (s4 _ _ (ab q B))
     .exact an q B
    .rw[ex,ey]at ad;rw[next,C7,ei,ad]
   .intro σ S ai;refine BV ai λitems u7 u8 W X aa ab ei=>?_;clear ai;subst W;exact k items S X aa ab (by rw[ei,whole];rfl)
theorem VU {out:List It3} (h:Qr out) (e:(out.map λq=>(q.x,q.y)).Nodup):(out.map ZO).Pairwise (λp q=>Da q p=o6):=by
 rw[N6,P1]at e;rw[P1];refine(h.and e).imp λ{p q} ⟨b,f⟩=>?_;show(if q.y=p.y then(if q.x=p.x then Da q.r p.r else decide (q.x<p.x))else decide (q.y<p.y))=o6;have b:(if q.y=p.y then(if q.x=p.x then Da [] []else decide (q.x<p.x))else decide (q.y<p.y))=o6:=b;by_cases c:q.y=p.y
 .rw[A0e c]at b⊢;by_cases d:q.x=p.x
  .exact absurd (by rw[c,d]) f
  .rw[A0c d]at b⊢;exact b
 .rw[A0c c]at b⊢;exact b
theorem Fx.fresh{H c d:Hp}(s:Ay H c)(f:Fx (x::l) c d)(n:H x=o4):Fx l H d:=λb o e z=>f b o (s _ _ e) λm=>by
 rcases C4.mp m with rfl|m
 .rw[n]at e;cases e
 .exact z m
noncomputable def frL(g:GA):List Addr:=[g.am,g.bx]
inductive WY(a:Ad)(vs:List V)(H:Hp)(Q:VK):Prop
|mk (g:GA) (G:Gv) (f n:Nat) (_:vs=[.ref g.p,.int f]) (_:AX a H g G) (_:Al G f ((n+1:Nat):Int)) (_:n<48) (_:G.length<9000000) (_:Cd G (n+1) f<=4096) (_:∀(L:R_)(out:List It3)(H':Hp),Fx (frL g) H H'->AX a H' g G->H L=o4->H' L=o3 (.lst (out.map λq=>V.ref q.a))->(∀q∈out,H' q.a=o3 (.tup (q.ns.map V.int)))->(out.map ZO).Perm (EM G (n+1) f (-(2^n)) (-(2^n)))->Qr out->Q (.ref L) H'):WY a vs H Q
def ZF(a:Ad):Sp:=λvs H Q _=>WY a vs H Q
theorem aEV(F:Fun K "cells_of" "cells_of" LY f fd)(T:Top K mg a)(bN:BR P w K mg n9 CX0 51 a.J5 "living" Lg (ZB a))(aC:Cal P w K mg n9 CX0 4 "reach_of" Vj (IG a))(aW:Cal P w K mg n9 CX0 55 "gather_cells" Ds (aFA a 50))(cW:Cal P w K mg n9 CX0 1 "by_rows" YB LG):AL P w K mg n9 CX0 56 f fd Vj (ZF a):=by
 refine F.ok JG D_9 λaa A S s H vs Q E D h=>?_
 obtain⟨g,G,f,n,rfl,C,I,R,few,cn,k⟩:=h;refine⟨_,(Ac (AO (AA TM (AD (pv 0) bN (rm D) Am (Aa (pv 1) Ab)) (BZ Z T.aAP) (AF _)) (Ag Bk) Az) (Ac (Ao (i:=2) JG.nd Z O_9 (Ar aC (rm D) Z Am (Aa (pv 0) (Aa (pv 1) Ab)))) (Ac (Ao (i:=3) JG.nd Z O_9 (Cp Ab)) (Ac (Bp (Ar aW (rm D) Z Am (Aa (pv 0) (Aa (pv 1) (Aa (Fc Dm (pv 2)) (Aa (Fc Dm (pv 2)) (Aa (pv 3) Ab))))))) (Ag (Aw (Pq cW (rm D) Z T.aAQ Z (Aa (pv 3) Ab)))))))),?_⟩
 try dsimp only[cxK]
 refine⟨_,Z,g.p,g.dx,_,Z,C.at'.hp,Yu g,_,Z,g,G,f,n+1,Z,C,I,few,λM N b=>?_⟩;refine⟨_,_,Z,Z,_,Z,?_⟩;rw[A0f A0];refine Bc ⟨_,Z,_,Z,g,G,f,n,Z,b.at',I,R,S_0,λL O=>?_⟩;have U:=AM (o:=.lst []) O;have t:upd M L (.lst []) L=o3 (.lst (([]:List It3).map λq=>V.ref q.a)):=Af;generalize upd M L (.lst [])=H2 at U t⊢;have j:=b.same U;have Y:L∉Dl g:=λz=>by
  obtain⟨o,e⟩:=b.nw.s L z;rw[O]at e;cases e
 have x1:=FrQ.fx N C;refine⟨_,Z,_,Z,_,Z,_,Z,_,Z,_,Z,_,Z,g,G,f,n+1,-(2^n),-(2^n),L,[],Z,j,I,by lia,t,Y,(by show(0:Int)+_<=5000;lia),λitems H3 r u v X=>?_⟩;have x3:Fx (frL g) M H3:=Fx.fresh U (r.mono B0) O;have l:=j.fx r λz hz m=>Y (by rw[D4]at m;rw[<-m];exact hz);have li:items.length<=4096:=by
  have:=Eb C.ok (x:=-(2^n)) (y:=-(2^n)) I;rw[<-X,B8]at this;lia
 refine⟨_,Z,L,items,Z,SqL.of (by rw[List.nil_append]at u;exact u),by lia,v,λB out H4 W c pm ru=>?_⟩;have s5:=AM (o:=.lst (out.map λq=>V.ref q.a)) c;have d:=Ay.trans W s5;refine k B out _ ((x1.trans x3).trans (Ay.fx d)) (l.same d) ?_ Af (λq hq=>d _ _ (v q (pm.mem_iff.mp hq))) (by rw[<-X];exact pm.map _) ru;cases e:H B with
 |none=>rfl
 |some o =>
  exfalso;by_cases m:B∈Dl g
  .obtain⟨o2,e2⟩:=l.nw.s B m;have:=W _ _ e2;rw[c]at this;cases this
  .have:=W _ _ ((x1.trans x3).get (λz=>m (by simp[frL,Dl]at *;lia)) e);rw[c]at this;cases this
end
def FrO(d:R_)(H H':Hp):Prop:=∀b o,H b=o3 o->b≠d->H' b=o3 o
theorem Mn:∀(cs:List Cl)(x y:Int),(∃c∈cs,c.x=x/\c.y=y/\stC cs x y=c.s)\/((∀c∈cs,¬(c.x=x/\c.y=y))/\stC cs x y=0)
|[],_,_=>.inr ⟨(λc g=>nomatch g),Z⟩
|c::cs,x,y=>by
 by_cases z:x=c.x/\y=c.y
 .exact .inl ⟨c,C8,z.1.symm,z.2.symm,A0e z⟩
 .have e:stC (c::cs) x y=stC cs x y:=A0c z;rw[e];rcases Mn cs x y with ⟨d,a,h⟩|⟨b,f⟩
  .exact .inl ⟨d,C9 _ a,h⟩
  .refine .inr ⟨λd a=>?_,f⟩;rcases C4.mp a with rfl|a
   .exact λq=>z ⟨q.1.symm,q.2.symm⟩
   .exact b d a
def ByC(es:List Cl):Prop:=es.Pairwise λp q=>Da [q.y,q.x] [p.y,p.x]=o6
noncomputable def clI(q:It3):Cl:=⟨q.x,q.y,(q.r.headD 0).toNat⟩
theorem Wq:∀{e:H_}{ds:List Cl},Paired (LF H) e ds->∃items:List It3,(items.map λq=>V.ref q.a)=e.map V.ref/\items.map clI=ds/\∀q∈items,LF H q.a (clI q)/\H q.a=o3 (.tup (q.ns.map V.int))
|_,_,.nil=>⟨[],Z,Z,λq b=>by cases b⟩
|t::e,c::ds,.cons h pr=>by
 refine AS (Wq pr) λitems g i d=>?_;have f:clI ⟨t,c.x,c.y,[(c.s:Int)]⟩=c:=rfl;refine⟨⟨t,c.x,c.y,[(c.s:Int)]⟩::items,by rw[F5,g];rfl,by rw[F5,i,f],λq b=>?_⟩;rcases C4.mp b with rfl|b
 .exact⟨by rw[f];exact h,h⟩
 .exact d q b
theorem Ps:∀{out:List It3},(∀q∈out,LF H q.a (clI q))->Paired (LF H) (out.map (·.a)) (out.map clI)
|[],_=>.nil
|q::out,h=>.cons (h q (C8 ..)) (Ps λq b=>h q (C9 _ b))
theorem NY.perm(h:NY ds φ)(p:a.Perm ds):NY a φ:=⟨(p.map _).nodup_iff.mpr h.nd,λc=>by rw[p.mem_iff];exact h.mem c⟩
structure Dd(ds:List Cl)(n:Nat)(x y:Int):Prop where
nd:(ds.map λc=>(c.x,c.y)).Nodup
ok:∀c∈ds,(UM c/\1<=c.s)/\x<=c.x/\c.x<x+5/\y<=c.y/\c.y<y+4
len:ds.length<=n
theorem Dd.nil(x y:Int):Dd [] 0 x y:=⟨by simp,(λc a=>by cases a),C0 _⟩
theorem Dd.put{c:Cl}(h:Dd ds n x y)(f:UM c)(b:1<=c.s)(e:x<=c.x/\c.x<x+5/\y<=c.y/\c.y<y+4):Dd (Mc ds c) (n+1) x y:=by
 refine⟨Wz h.nd,λd a=>?_,D0 (Uh ds c) (P5 h.len)⟩;rcases Ue.mp a with rfl|⟨a,_⟩
 .exact⟨⟨f,b⟩,e⟩
 .exact h.ok d a
theorem aE8 {ds:List Cl} (b:(ds.map λc=>(c.x,c.y)).Nodup) {c d:Cl} (h:c∈ds) (i:d∈ds) (e:d.x=c.x) (f:d.y=c.y):d.s=c.s:=by
 have g:=MK b h;have a:=MK b i;rw[e,f,g]at a;injection a with a
 injection a with a
 lia
theorem Dd.dk{ds:List Cl}{n:Nat}{x y:Int}(h:Dd ds n x y):NY ds (stC ds):=by
 refine⟨h.nd,λc=>⟨λf=>⟨(h.ok c f).1.2,?_⟩,λ⟨j,i⟩=>?_⟩⟩
 .rcases Mn ds c.x c.y with ⟨d,g,a,b,e⟩|⟨no,_⟩
  .rw[e];exact aE8 h.nd f g a b
  .exact absurd ⟨Z,Z⟩ (no c f)
 .rcases Mn ds c.x c.y with ⟨d,g,a,b,e⟩|⟨_,e⟩
  .rw[e]at i;have:d=c:=by
    cases d;cases c;cases a;cases b;cases i;rfl
   exact this▸g
  .lia
section
variable{P:N_}{w:Q_}{K:O_}{mg:C_}{n9:T_}{a:Ad}
theorem aEl(F:Fun K "_law_by_rows" "_law_by_rows" FX f fd)(T:Top K mg a):AL P w K mg n9 CX0 1 f fd PN LG:=by
 refine F.ok Op (λvs H Q E h=>?_) (λg A d s H vs Q E i h=>?_)
 .refine xe4 h λt x y r b=>?_;refine xa b λc _=>?_;clear b;clear h;subst c;rfl
 .refine xe4 h λt x y r b=>?_;refine xa2 b λc e k=>?_;clear b;clear h;subst c;exact⟨_,(Ag (Aw (Dr (Aa (Aj An (pv 0) Ae R_9) (Aa (Aj An (pv 0) Ae R_9) Ab))))),(xwi Z Z Z (SqT.of e) (Ai (j:=1) Z) (xwi Z Z Z (SqT.of e) (Ai (j:=0) Z) ⟨S_2,k⟩))⟩
inductive aDG(vs:List V)(H:Hp)(Q:VK):Prop
|mk (D:R_) (ds:List Cl) (_:vs=[.ref D]) (_:Rd H D (.dT (kvC ds))) (_:(ds.map λc=>(c.x,c.y)).Nodup) (_:ds.length<=5000) (_:∀(o:Obj)(L:R_)(ts:H_)(cs:List Cl)(H':Hp),FrO D H H'->H' D=o3 (.frz o (.dT (kvC ds)))->H L=o4->H' L=o3 (.lst (ts.map V.ref))->Paired (LF H') ts cs->cs.Perm ds->ByC cs->Q (.ref L) H'):aDG vs H Q
def ZA:Sp:=λvs H Q _=>aDG vs H Q
theorem aEd(F:Fun K "_law_listed" "_law_listed" GZ f fd)(T:Top K mg a)(bX:Cal P w K mg n9 CX0 1 "_law_by_rows" PN LG):AL P w K mg n9 CX0 5 f fd Ii ZA:=by
 refine F.ok FQ D_9 λae A ac s H vs Q E hr h=>?_
 obtain⟨D,ds,rfl,rd,nd,af,k⟩:=h;refine⟨_,(Ac (Ao (i:=1) FQ.nd Z O_9 (Cp Ab)) (Ac (BN A1c Z (Pp (pv 0)) (AU (i:=2) FQ.nd Z O_9) (Ag (Bp (DJ A1g A1h A2a Cb (pv 1) (AZ (Aa (Aj An (pv 2) Ae R_9) (Aa (Aj An (pv 2) Ae R_9) (Aa (RY (Ed hr) (pv 0) (pv 2) R_9) Ab))) Ab))))) (Ag (Aw (Pq bX (rm hr) Z T.aAQ Z (Aa (pv 1) Ab)))))),?_⟩
 try dsimp only[cxK]
 have nD:∀{x:R_},H x=o4->x≠D:=λ{x} n z=>by
  rw[z]at n;rcases rd with y|⟨o,y⟩
  .rw[y]at n;cases n
  .rw[y]at n;cases n
 refine⟨S_0,λS p=>?_⟩;have s1:=AM (o:=.lst []) p;have h1:upd H S (.lst []) S=o3 (.lst []):=Af;generalize upd H S (.lst [])=H1 at s1 h1⊢;have ad:Rd H1 D (.dT (kvC ds)):=by
  rcases rd with y|⟨o,y⟩
  .exact .inl (s1 _ _ y)
  .exact .inr ⟨o,s1 _ _ y⟩
 refine xq1 Z ⟨D,kvC ds,Z,ad,λo H2 m G=>?_⟩;have h2:=G _ _ h1 (nD p);have g:FrO D H H2:=λb u e n=>G _ _ (s1 _ _ e) n;have ab:(kvC ds).length=ds.length:=B8 _;refine aD8 (kvs:=kvC ds) (λj σ d=>∃(B:H_)(u2:Option V),σ=[o3 (.ref D),o3 (.ref S),u2]/\(∀b u,H2 b=o3 u->b≠S->d b=o3 u)/\d S=o3 (.lst (B.map V.ref))/\Paired (LF d) B (ds.take j)) ⟨[],o4,Z,λb u e _=>e,h2,.nil⟩ (λj σ d _ z=>by refine AN z λ_ _ _ z _=>?_;exact z _ _ m (A1b (nD p))) ?_ ?_
 .intro j kb kv v σ d ev hb W;refine CC W λB u2 l r Y U=>?_;clear W;subst l;obtain⟨c,C,ee⟩:∃c,ds[j]?=o3 c/\(kOf [c.x,c.y],V.int (c.s:Int))=(kv,v):=by
   unfold kvC at ev;rw[C1]at ev;exact xea (D7.mp ev) λc C e=>⟨c,C,e⟩
  cases ee;have jl:j<ds.length:=(B9.mp C).1;have M:d kb=o3 (.tup [.int c.x,.int c.y]):=hb;have aa:=r _ _ m (A1b (nD p));have lt:=A1e U;rw[J3]at lt;refine xq1 Z ⟨.inl ⟨Z,_,SqL.of Y⟩,(xwi Z Z Z (SqT.of M) (Ai (j:=0) Z) (xwi Z Z Z (SqT.of M) (Ai (j:=1) Z) (xw2 Z Z ⟨D,.int (c.s:Int),Z,?_,?_⟩)))⟩
  .exact .inr ⟨kvC ds,kOf [c.x,c.y],kb,.inr ⟨o,aa⟩,Z,hb,(MK nd (D5 C)).symm⟩
  refine⟨S_3,λt ht=>?_⟩;have s6:=AM (o:=.tup [.int c.x,.int c.y,.int (c.s:Int)]) ht;have O:LF (upd d t (.tup [.int c.x,.int c.y,.int (c.s:Int)])) t c:=Af;generalize upd d t (.tup [.int c.x,.int c.y,.int (c.s:Int)])=H6 at s6 O⊢;have h6:=s6 _ _ Y;refine⟨S,(xq2 Z Z ⟨h6,by rw[B8];exact Fe A0,?_⟩)⟩;have tp:∀{b:R_}{ys:List V},H6 b=o3 (.tup ys)->upd H6 S (.lst (B.map V.ref++[.ref t])) b=o3 (.tup ys):=λ{b ys} e=>by rw[Av (AE e h6 A4)];exact e
  refine⟨B++[t],(xq1 Z ⟨λb u e n=>?_,by rw[Af,C7];rfl,?_⟩)⟩
  .rw[Av n];exact s6 _ _ (r _ _ e n)
  .rw[F4,C,Q4];exact A4g (PairedM.imp (λb c z=>tp (s6 _ _ z)) U) (tp O)
 .intro σ d X;refine CC X λB u2 l r Y U=>?_;clear X;subst l;rw[ab,F8]at U;refine AS (Wq U) λitems e1 e2 N=>?_;have li:items.length=ds.length:=by rw[<-e2,B8]
  refine xq1 Z ⟨S,items,Z,by rw[e1];exact SqL.of Y,by lia,λq hq=>(N q hq).2,λL out H4 kp R pm ru=>?_⟩;have I:=kp _ _ (r _ _ m (A1b (nD p)));have s5:=AM (o:=.lst (out.map λq=>V.ref q.a)) R;have h5:upd H4 L (.lst (out.map λq=>V.ref q.a)) L=o3 (.lst ((out.map (·.a)).map V.ref)):=by rw[Af,M9];rfl
  generalize upd H4 L (.lst (out.map λq=>V.ref q.a))=H5 at s5 h5⊢;refine k o L (out.map (·.a)) (out.map clI) H5 (λb u e n=>s5 _ _ (kp _ _ (r _ _ (g _ _ e n) (As e p)))) (s5 _ _ I) ?_ h5 (Ps λq hq=>s5 _ _ (kp _ _ (N q (pm.mem_iff.mp hq)).1)) (by rw[<-e2];exact pm.map _) (P1.mpr ru);cases e:H L with
  |none=>rfl
  |some u =>
   by_cases z:L=D
   .rw[z,I]at R;cases R
   .rw[kp _ _ (r _ _ (g _ _ e z) (As e p))]at R;cases R
theorem aDX(h:0<=n)(l:n<=100):aDt 2 n:=⟨h,by lia,by decide⟩
inductive aAb(vs:List V)(H:Hp)(Q:VK):Prop
|mk (c:Int) (_:vs=[.int c]) (_:∀v:Int,-(2^38)<=v->v<2^38->Q (.int v) H):aAb vs H Q
def UW:Sp:=λvs H Q _=>aAb vs H Q
theorem aCY(F:Fun K "_law_base" "_law_base" JJ f fd)(T:Top K mg a):AL P w K mg n9 CX0 1 f fd PN UW:=by
 refine F.ok RQ D_9 λd A b s H vs Q E e h=>?_
 obtain⟨c,rfl,k⟩:=h;refine⟨_,(Ac (AO (AA Dj (AG Bm (pv 0) Ae) Ae (AF _)) (Ag (Aw (AG Cg (AG Bm (AG CP (pv 0) Ae) (AG ZW Ae Ae)) (AG ZW Ae Ae)))) Az) (Ag (Aw (AG Cg (AG Bm (AG CP (pv 0) Ae) Ae) Ae)))),?_⟩
 try dsimp only[cxK]
 refine xwb Z Z Z ⟨B6,Z,(xq1 Z (Jl (λ_=>?_) (λ_=>?_)))⟩
 .refine xwb Z Z Z ⟨⟨by decide,by decide⟩,(xq2 Z Z ⟨aDX A6 A6,(xq2 Z Z ⟨(by show(0:Int)<2^39;decide),(xq2 Z Z ⟨aDX A6 A6,(xq2 Z Z (k _ ?_ ?_))⟩)⟩)⟩)⟩
  .show -(2^38)<=c/4%2^39-2^38;lia
  .show c/4%2^39-2^38<2^38;lia
 .refine xwb Z Z Z ⟨⟨by decide,by decide⟩,(xq2 Z Z ⟨(by show(0:Int)<12;decide),(xq2 Z Z (k _ ?_ ?_))⟩)⟩
  .show -(2^38)<=c/4%12-8;lia
  .show c/4%12-8<2^38;lia
inductive aC6(K:O_)(vs:List V)(H:Hp)(Q:VK):Prop
|mk (l:R_) (ns:I_) (fi x y:Int) (m:Nat) (_:vs=[.ref l,.int fi,.int (m:Int),.int x,.int y]) (_:SqL K H l (ns.map V.int)) (_:0<=fi) (_:m<=100) (_:-(2^38)<=x) (_:x<2^38) (_:-(2^38)<=y) (_:y<2^38) (_:∀(D:R_)(ds:List Cl)(H':Hp),Ay H H'->H D=o4->H' D=o3 (.dT (kvC ds))->Dd ds m x y->Q (.ref D) H'):aC6 K vs H Q
def ZI(K:O_):Sp:=λvs H Q _=>aC6 K vs H Q
theorem aER(F:Fun K "_law_cells_by" "_law_cells_by" Fp f fd)(T:Top K mg a)(R:Cal P w K mg n9 CX0 1 "_law_at" YD (ZJ K))(aE:Cal P w K mg n9 CX0 1 "_law_mix" Gk Tl)(aA:Cal P w K mg n9 CX0 1 "_law_state_by" Ou Zt):AL P w K mg n9 CX0 2 f fd Ft (ZI K):=by
 refine F.ok CI D_9 λab A aa s H vs Q E r h=>?_
 obtain⟨l,ns,S,x,y,m,rfl,X,f0,m1,x1,x2,y1,y2,k⟩:=h;refine⟨_,(Ac (Ao (i:=5) CI.nd Z O_9 (Dr (AV Bm (Ar R (rm r) Z Am (Aa (pv 0) (AI Ab))) Ae (AV Bm (Ar R (rm r) Z Am (Aa (pv 0) (AI Ab))) Ae Ab)))) (Ac (Ao (i:=6) CI.nd Z O_9 Mz) (Ac (BN A1c Z (Ca Z T.Y_ (Aa (pv 2) Ab)) (AU (i:=7) CI.nd Z O_9) (Ac (Ao (i:=8) CI.nd Z O_9 (Ar aE (rm r) Z Am (Aa (Ar R (rm r) Z Am (Aa (pv 0) (AV AQ (pv 1) (pv 7) Ab))) (AV AQ Ae (pv 7) Ab)))) (Ag (FH (Ed r) (pv 6) (Dr (AV AQ (pv 3) (AG Bm (pv 8) Ae) (AV AQ (pv 4) (AG Bm (AG CP (pv 8) Ae) Ae) Ab))) (AH (Rt Z) Z T.aAN A4e (AI (Aa (Ar aA (rm r) Z Am (Aa (pv 5) (AV CP (pv 8) Ae Ab))) Ab))) Z)))) (Ag (Aw (pv 6)))))),?_⟩
 try dsimp only[cxK]
 refine xq1 Z ⟨l,ns,0,Z,X,by decide,(xq2 Z Z ⟨B5,(xq1 Z ⟨l,ns,1,Z,X,by decide,?_⟩)⟩)⟩;refine⟨_,_,Z,Z,B5,S_2,λu Y=>?_⟩;have N:=AM (o:=.tup [.int (atN ns 0%8),.int (atN ns 1%8)]) Y;have hM:VS (upd H u (.tup [.int (atN ns 0%8),.int (atN ns 1%8)])) u:=⟨_,_,Af,⟨by lia,by lia⟩,⟨by lia,by lia⟩⟩
 show(Zo _ _) _ _ (upd H u (.tup [.int (atN ns 0%8),.int (atN ns 1%8)]));generalize upd H u (.tup [.int (atN ns 0%8),.int (atN ns 1%8)])=O at N hM⊢;refine λD U=>?_;have s1:=AM (o:=.dT []) U;have z:upd O D (.dT []) D=o3 (.dT (kvC [])):=Af;generalize upd O D (.dT [])=H1 at s1 z⊢;refine xw2 Z Z ⟨by lia,by lia,?_⟩;rw[L8];refine Cc (n:=m) (λj σ q=>∃(ds:List Cl)(u7 u8:Option V),σ=[o3 (.ref l),o3 (.int S),o3 (.int (m:Int)),o3 (.int x),o3 (.int y),o3 (.ref u),o3 (.ref D),u7,u8]/\Ay O q/\q D=o3 (.dT (kvC ds))/\Dd ds j x y) ⟨[],o4,o4,Z,s1,z,Dd.nil x y⟩ ?_ ?_
 .intro j σ q hj I;refine Fz I λds u7 u8 g C p M=>?_;clear I;subst g;refine xq1 Z (xq1 Z (xq1 Z (xq2 Z Z ⟨l,ns,_,Z,(N.trans C).seq X,by show 0<=S+(0+(j:Int));lia,?_⟩)));generalize atN ns (S+(0+(j:Int)))=c;refine xq1 Z (xq2 Z Z ⟨c,_,Z,by lia,by lia,λv v0=>?_⟩);refine AN (hM.same C) λmx my hm hx hy=>xw2 Z Z (xq2 Z Z ⟨⟨by decide,by decide⟩,u,mx,my,v/20,Z,hm,hx,hy,λd hd=>⟨_,_,Z,?_⟩⟩);obtain⟨st,B⟩:=J6 (show 0<=(if d > 1 then d else 1) by split<;>lia);have G:1<=st/\st<8:=by
   obtain⟨d0,d8⟩:=hd;split at B<;>lia
  rw[show V.int (if d > 1 then d else 1)=V.int (st:Int)from A2f V.int B];refine xw3 Z Z Z (xq2 Z Z ⟨(by show(0:Int)<5;decide),(xq2 Z Z (xw2 Z Z (xq2 Z Z ⟨⟨by decide,by decide⟩,(xq2 Z Z ⟨B6,(xq2 Z Z ⟨S_2,λt ht=>?_⟩)⟩)⟩)))⟩);have s6:=AM (o:=.tup [.int (x+v%5),.int (y+v/5%4)]) ht;have h6:upd q t (.tup [.int (x+v%5),.int (y+v/5%4)]) t=o3 (.tup [.int (x+v%5),.int (y+v/5%4)]):=Af;have W:=s6 _ _ p;have dl:=M.len;refine⟨D,(xq1 Z ⟨aF6 (c:=⟨x+v%5,y+v/5%4,st⟩) W h6 A0,?_⟩)⟩;refine⟨Mc ds ⟨x+v%5,y+v/5%4,st⟩,_,_,Z,λb o e=>?_,Af,M.put ⟨?_,G.2⟩ G.1 ?_⟩
  .rw[Av (As e U)];exact s6 _ _ (C _ _ e)
  .unfold JD;dsimp only;refine⟨by lia,by lia,by lia,by lia⟩
  .dsimp only;refine⟨by lia,by lia,by lia,by lia⟩
 .intro σ q L;refine Fz L λds u7 u8 g C p M=>?_;clear L;subst g;exact xq1 Z (k D ds q (N.trans C) (Ay.noneN N U) p M)
theorem VI(D:AX a H g G)(E:H L=o3 (.lst (B.map V.ref)))(ap:Ap g L)(I:Paired (LF H) B cs)(A:cs.Perm ds)(dk:NY ds φ)(ok:∀c∈ds,UM c)(l:ds.length<=40)(few:G.length<6000000)(k:∀(r:Nat)(o:Gv)(t:Hp),Fr g H t->AX a t g o->AK G o 16000->Fv o r φ->Q (.int r) t):aAe a [.ref g.p,.ref L] H Q:=by
 have N:=A.length_eq;have m:∀c∈cs,UM c:=λc z=>ok c (A.mem_iff.mp z);refine⟨g,G,L,B,cs,Z,D,E,ap.1,ap.2.1,I,m,by lia,λC F q x f b h j i e=>?_⟩;obtain⟨M,y⟩:=b.g0;obtain⟨n,d⟩:=YS y b.ok e (λc z=>(m c (Y5.mp z)).s);exact k C q x f b (h.mono A0) ⟨F,j,i,n,λu v=>by rw[d,aFD (dk.perm A)]⟩
end
end J
namespace J
open PySem L2
theorem LE.new(c:AJ a H g G)(nl:H m.l=o4)(nk:H m.kc=o4)(j:b m.tp=o3 (.tup [.ref m.l,.ref m.kc]))(k:b m.l=o3 (.lst (m.ds.map V.ref)))(o:b m.kc=o3 (.dT []))(q:∀d∈m.ds,b d=o3 (.dK []))(s:m.ds.length=47)(t:m.ds.Nodup):LE b g G N M r m:=by
 exact xea c.pt λw i _=>⟨j,k,⟨A1b (As c.lv nl),A1b (As i nl),A1b (As c.nm nk)⟩,s,t,λe d h=>⟨[],q d (D5 h),J9 _,λp u=>(nomatch u),λn v f=>by cases f⟩,⟨[],o,J9 _,λks v f=>by cases f⟩⟩
noncomputable def zL(g:GA)(m:MA):List Addr:=[g.lv,g.pt,g.nm,g.am,g.bx,m.kc]++m.ds
section
variable{a:Ad}{H H':Hp}{g:GA}{G G':Gv}{Κ:KTy}{N b i:Nat}{p dx mem pr:R_}{r:AB}{m:MA}
theorem FrZ.fx(h:ZS a H g G Κ N b p dx mem pr r m)(f:FrZ g m H H'):Fx (zL g m) H H':=λx o e z=>by
 refine xea h.fu.at'.pt λA q _=>xea h.fu.am λt d _=>xea h.fu.bx λu k _=>xea h.jz.jw.me.ce λv l _=>f x o e (λy=>?_) (λy=>?_)
 .have c:=z (J7.mpr (.inl y));clear z;simp only[C4,F6,A2h]at y;rcases y with y|y|y|y|y|y<;>subst y
  .rw[h.fu.at'.lv]at e;cases e;exact c
  .rw[q]at e;cases e;exact c
  .rw[h.fu.at'.nm]at e;cases e;exact c
  .rw[d]at e;cases e;exact c
  .rw[k]at e;cases e;exact c
  .rw[l]at e;cases e;exact c
 .have c:=z (J7.mpr (.inr y));obtain⟨j,s⟩:=L7 y;refine xea (h.jz.jw.me.sq j x s) λw n _=>?_;rw[n]at e;cases e;exact c
theorem aGJ{c:Hp}(v:AX a c g G)(ro:Gz r)(rz:CK r 0 BL=0)(V:CS a c pr (Ea r) r)(W:c p=o4)(P:c dx=o4)(S:dx≠p)(few:G.length<=b)(k:∀(n:Hp)(mem:R_)(m:MA),Ay c n->ZS a n g G Κ N b p dx mem pr r m->(∀y∈m.l::m.kc::m.ds,c y=o4)->n mem=o3 (.dK (mK [(Ea r,m)]))->c mem=o4->mem∉m.ds->Q .non n):SR a [.ref p,.ref g.p,.ref pr] (upd (upd c dx (.own p)) p (.ins a.M3 dx [])) Q:=by
 have nq:upd c dx (.own p) p=o4:=by rw[Av (A1b S)];exact W
 have U:Ay c (upd (upd c dx (.own p)) p (.ins a.M3 dx [])):=(show Ay c _ from Aq P).trans (Aq nq);refine⟨p,dx,g.p,pr,Ea r,r,Z,Af,V.same U,λn mem m F D K q f L hl B A O R T=>?_⟩;have s:Ay c n:=λb o e=>F b o (U b o e) (As e W);have t:∀{y:R_},upd (upd c dx (.own p)) p (.ins a.M3 dx []) y=o4->c y=o4:=λ{y} e=>Ay.noneN U e;have d:=v.same s;have hw:LE n g G N (b+10*N) r m:=(LE.new (N:=0) (M:=0) v.at' (t f.2.1) (t f.2.2.1) L hl B A O R).mono (J9 _) (J9 _);have h:∀u∈m.ds,c u=o4:=λu I=>t (f.2.2.2 u I);obtain⟨aa,X⟩:=v.g0;have E:Bs G:=λj hj=>by
  have:=OO j hj;rw[X];exact MN this
 refine xea v.am λka w _=>xea v.bx λkb x _=>k n mem m s ⟨⟨⟨d.at',d.ok,E,d.br,⟨d.n1,d.n2⟩,K,V.same s,ro,rz,hw⟩,λ_=>0,λe u Y=>⟨[],A u (D5 Y),Z,R6,λk hk=>nomatch hk⟩,D0 few (W9 _ _),[],B,J9 _⟩,d,λz=>?_,λz=>?_⟩ (λy C=>?_) q (t D) (λz=>T mem z Z)
 .rw[h _ z]at w;cases w
 .rw[h _ z]at x;cases x
 .rcases C4.mp C with rfl|C
  .exact t f.2.1
  .rcases C4.mp C with rfl|C
   .exact t f.2.2.1
   .exact h y C
end
theorem Qf{lo:Int}{n:Nat}{g:TG}{h:TS}{D:IE}{σ:St}{H:Hp}(c:Nat->St->Hp->Prop)(j:c 0 σ H)
  (l:∀i (e:IE),(∀{σ H},c (i+1) σ H->e.nx σ H)->∀σ H,i<n->c i σ H->g (.int (lo+i)) σ H fun a d=>h e a d) (k:∀σ H,c n σ H->D.nx σ H) :
  ∃W:Nat->Nat->St->Hp->Prop,(∃m,W 0 m σ H)/\∀i m σ H,W i m σ H ->
   ((Itr lo n).stop i H/\D.nx σ H)\/((Itr lo n).go i H/\∃N:St->Hp->Prop,(∀σ' b,N σ' b->∃f,f<m/\W (i+1) f σ' b)/\∀x b,(Itr lo n).yld i H x b->g x σ b fun a d=>h {D with nx:=N,ct:=N,bk:=D.nx} a d) :=
 Cc c j (λi σ H hi p=>l i _ (λz=>z) σ H hi p) k
theorem aGC       (h:∀(a:TS) R,(∀{D:IE}{σ:St}{H:Hp},b D σ H->a D σ H)->(∀{J c},aFK (λ_ _ R=>R J c) g a D σ H->R J c)->I σ H R):aFK I g b D σ H:=h b _ (λz=>z) λz=>z
theorem gnm(h:Q (σ.set i (o3 v)) H):LM i v σ H Q:=h
theorem aE5{D t:R_}(b:Rd H D (.dT a))(e:H t=o3 (.tup ys)):t≠D:=λz=>by
 rw[z]at e;rcases b with h|⟨o,h⟩<;>rw[h]at e<;>cases e
theorem aGm(b:Rd H D (.dT a))(n:H x=o4):x≠D:=λz=>by
 rw[z]at n;rcases b with h|⟨o,h⟩<;>rw[h]at n<;>cases n
theorem aGn(c:Rd H D (.dT b))(s:Ay H a):Rd a D (.dT b):=by
 rcases c with h|⟨o,h⟩
 .exact .inl (s _ _ h)
 .exact .inr ⟨o,s _ _ h⟩
noncomputable def TQ:List (Int×Int):=[(-1,-1),(0,-1),(1,-1),(-1,0),(1,0),(-1,1),(0,1),(1,1)]
def UJ(H:Hp)(t:R_)(p:Int×Int):Prop:=H t=o3 (.tup [.int p.1,.int p.2])
noncomputable def arF(φ:D_)(x y:Int):List Int:=TQ.map λo=>((φ (x+o.1) (y+o.2):Nat):Int)
theorem aDl(a:Gz r)(φ:D_)(x y:Int):CK r (φ x y:Nat) (arF φ x y)=((sF r φ x y:Nat):Int):=by
 unfold sF;rw[R5 (aAv a (K6 _) _)];unfold arF TQ;simp only[F5,Z3,T9];rfl
theorem aBD{D t:R_}(a:H D=o3 (.frz o (.dT (kvC cs))))(b:H t=o3 (.tup [.int x,.int y])):GC H D (.ref t) (BK (kvC cs) (kOf [x,y])):=.inr ⟨kvC cs,kOf [x,y],t,.inr ⟨o,a⟩,Z,b,Z⟩
theorem Zj:∀{e:List Cl},(∀c∈e,¬(c.x=x/\c.y=y))->BK (kvC e) (kOf [x,y])=o4
|[],_=>rfl
|c::e,h=>by
 show BK ((kOf [c.x,c.y],V.int (c.s:Int))::kvC e) (kOf [x,y])=o4;rw[BD (λz=>h c (C8 ..) (by have z:=z;have:=Lx z;injection this with a b;injection b with b;exact⟨a,b⟩))];exact Zj λd f=>h d (C9 _ f)
theorem Zk(dk:NY ds φ):(BK (kvC ds) (kOf [x,y])).getD (V.int 0)=V.int (φ x y:Nat):=by
 by_cases z:φ x y=0
 .rw[Zj λc d ⟨a,b⟩=>by
   have:=(dk.mem c).mp d;rw[a,b,z]at this;lia,z]
  rfl
 .rw[MK dk.nd (c:=⟨x,y,φ x y⟩) ((dk.mem _).mpr ⟨K3 z,rfl⟩)];rfl
structure UK(ψ:D_)(P:Int->Int->Prop)(ds:List Cl)(n:Nat):Prop where
nd:(ds.map λc=>(c.x,c.y)).Nodup
mem:∀c:Cl,c∈ds↔((1<=c.s/\ψ c.x c.y=c.s)/\P c.x c.y)
len:ds.length<=n
theorem UK.imp(h:UK ψ P ds n)(i:∀u v,ψ u v≠0->(P u v↔a u v))(l:n<=b):UK ψ a ds b:=⟨h.nd,λc=>by
 rw[h.mem];exact and_congr_right λ⟨e,d⟩=>i _ _ (by rw[d];lia),D0 h.len l⟩
theorem UK.put(h:UK ψ P ds n)(e:ψ x y=s)(p:1<=s)(j:¬P x y)(i:∀u v,f u v↔(P u v\/(u=x/\v=y))):UK ψ f (Mc ds ⟨x,y,s⟩) (n+1):=by
 refine⟨Wz h.nd,λc=>?_,D0 (Uh ds _) (P5 h.len)⟩;rw[Ue,h.mem,i];dsimp only;constructor
 .rintro(rfl|⟨⟨d,a⟩,_⟩)
  .exact⟨⟨p,e⟩,.inr ⟨Z,Z⟩⟩
  .exact⟨d,.inl a⟩
 .rintro⟨⟨d,a⟩,b|⟨b,g⟩⟩
  .exact .inr ⟨⟨⟨d,a⟩,b⟩,λ⟨k,l⟩=>j (by rw[<-k,<-l];exact b)⟩
  .refine .inl ?_;obtain⟨m,o,cs⟩:=c;cases b;cases g;cases e.symm.trans a;rfl
noncomputable def coC(k:Nat)(c:Cl):Int:=if k=0 then c.x else c.y
theorem aAz{K:O_}{fin:List V->Hp->Prop}(k:Nat)(A:k<2)(kk:Int)(t:kk=(k:Int))(w:H D=o3 (.frz o (.dT (kvC ds))))(C:ds.length<=1000)(q:∀(n:Hp),Ay H n->fin ((ds.map (coC k)).map V.int) n):Fk 1 [] (LM 0) aFO (tOp (JL K) (GS 0) (tC (V.int kk))) (Itd D o (kvC ds)) σ H fin:=by
 have i:(kvC ds).length=ds.length:=B8 _;refine aDy (kvs:=kvC ds) (λj a b=>Ay H b/\a=((ds.take j).map (coC k)).map V.int) ⟨Ay.refl H,Z⟩ (λj a b _ z=>by obtain⟨d,_⟩:=z;exact d _ _ w) ?_ ?_
 .intro j p B v a b g u l;obtain⟨d,rfl⟩:=l;obtain⟨c,f,r⟩:∃c,ds[j]?=o3 c/\(kOf [c.x,c.y],V.int (c.s:Int))=(B,v):=by
   unfold kvC at g;rw[C1]at g;exact xea (D7.mp g) λc f e=>⟨c,f,e⟩
  cases r;have jl:=(B9.mp f).1;have h:=u;refine⟨⟨[o3 (.ref p)],Z,Z⟩,by rw[B8,B8,J3];exact Fe A0,FP ?_⟩;refine⟨_,Z,p,_,(k:Int),.int (coC k c),Z,by rw[t],SqT.of h,Ai ?_,d,?_⟩
  .match k,A with
   |0,_=>rfl
   |1,_=>rfl
  .rw[F4,f,Q4,C7,C7];rfl
 .intro a b m;obtain⟨d,rfl⟩:=m;rw[i,F8];exact q b d
seal L2.PA L2.PE L2.PS L2.PSs L2.PT L2.PW
theorem ptsn{c:List (Int×Int)}{t:R_}(f:Ay b H)(d:Paired (UJ H) us c)(n:H t=o4)(e:upd H t (.tup [.int x,.int y])=a):Ay b a/\Paired (UJ a) (us++[t]) (c++[(x,y)]):=by
 subst e;have s:=AM (o:=.tup [.int x,.int y]) n;exact⟨Ay.trans f s,A4g (PairedM.imp (λ_ _ z=>s _ _ z) d) Af⟩
theorem alst      (h:b σ H λxs a=>xs.length<=sizeLine/\∀p,a p=o4->D.nx (σ.set i (o3 (.ref p))) (upd a p (.lst xs))):aFF (aC0 b) (LM i) D σ H:=h
theorem ng1{q:VK}(z:q (.int (-1)) H):tUn (rU λi=>V.int (-i)) (tC (V.int 1)) σ H q:=⟨_,Z,z⟩
theorem tc0{q:VK}(z:q v H):tC v σ H q:=z
theorem pt2        {c:List (Int×Int)} (e:∀{H:Hp}{q:VK},q (.int x) H->X σ H q) (f:∀{H:Hp}{q:VK},q (.int y) H->Y σ H q) (h:Ay b H) (g:Paired (UJ H) us c) (k:∀(t:R_)(a:Hp),Ay b a->Paired (UJ a) (us++[t]) (c++[(x,y)])->R σ a λxs d=>Q (.ref t::xs) d):CD (Yj (CD X (CD Y OV))) R σ H Q :=
 e (f ⟨S_2,λt n=>by
  obtain⟨s,p⟩:=ptsn h g n Z;exact k t _ s p⟩)
def InW(ψ:D_)(X Y:Int)(W D:Nat):Prop:=∀u v,ψ u v≠0->X<=u/\u<X+W/\Y<=v/\v<Y+D
section
variable{P:N_}{w:Q_}{K:O_}{mg:C_}{n9:T_}{a:Ad}
inductive aDR(vs:List V)(H:Hp)(Q:VK):Prop
|mk (H0:Hp) (q D:R_) (r:AB) (ds:List Cl) (φ:D_) (X Y:Int) (W B:Nat) (_:vs=[.ref q,.ref D]) (_:LO H0 q r) (_:Gz r) (_:CK r 0 BL=0) (_:Ay H0 H) (_:H0 D=o4) (_:Rd H D (.dT (kvC ds))) (_:NY ds φ) (_:InW φ X Y W B) (_:ds.length<=500) (_:W<=19/\B<=18) (_:-(2^41)<=X/\X<=2^41/\-(2^41)<=Y/\Y<=2^41) (_:∀(D':R_)(ds':List Cl)(H':Hp),FrO D H H'->H D'=o4->H' D'=o3 (.dT (kvC ds'))->NY ds' (sF r φ)->ds'.length<=500->Q (.ref D') H'):aDR vs H Q
def Zs:Sp:=λvs H Q _=>aDR vs H Q
theorem aEo(F:Fun K "_law_step" "_law_step" DZ f fd)(T:Top K mg a)(aQ:Cal P w K mg n9 CX0 3 "_law_becomes" Gm aE9):AL P w K mg n9 CX0 4 f fd JU Zs:=by
 refine F.ok BX D_9 λct A cn s H vs Q E hr h=>?_
 obtain⟨H0,q,D,r,ds,φ,X,Y,W,B,rfl,hq,ro,re,s0,n0,rd,dk,ck,ld,⟨cr,cq⟩,⟨X1,X2,Y1,Y2⟩,k⟩:=h;refine⟨_,(Ac (Ao (i:=2) BX.nd rfl O_9 (Cp (AZ (Aa (Fc Dm Ae) (Aa (Fc Dm Ae) Ab)) (AZ (AI (Aa (Fc Dm Ae) Ab)) (AZ (AI (Aa (Fc Dm Ae) Ab)) (AZ (Aa (Fc Dm Ae) (AI Ab)) (AZ (AI (AI Ab)) (AZ (Aa (Fc Dm Ae) (AI Ab)) (AZ (AI (AI Ab)) (AZ (AI (AI Ab)) Ab)))))))))) (Ac (Ao (i:=3) BX.nd rfl O_9 Mz) (Ac (AO (AA Dj (AH YZ rfl T.j_ A2g (Aa (pv 1) Ab)) Ae (AF _)) (Ag (Aw (pv 3))) Az) (Ac (DS (i:=4) rfl BX.nd rfl rfl (Bn.of (So:=Ah DZ) (No:=GO) (N:=["_law_place"]) (k:=1) (cs:=[]) rfl rfl A3) (Pp (pv 1)) (λ_ _ _=>(AY (i:=0) A3 rfl rfl)) (λ_ _ _=>BB) (λ_ _ _=>(Aj (GQ (K:=K) rfl) (pv 0) Ae R_9))) (Ac (DS (i:=5) rfl BX.nd rfl rfl (Bn.of (So:=Ah DZ) (No:=GO) (N:=["_law_place"]) (k:=1) (cs:=[]) rfl rfl A3) (Pp (pv 1)) (λ_ _ _=>(AY (i:=0) A3 rfl rfl)) (λ_ _ _=>BB) (λ_ _ _=>(Aj (GQ (K:=K) rfl) (pv 0) Ae R_9))) (Ac (BN A1c rfl (Nq rfl T.Y_ (AV Cg (AH (LA rfl) rfl T.aAK A3g (Aa (pv 5) Ab)) Ae (AV AQ (AH (LB rfl) rfl T.aAN A4e (Aa (pv 5) Ab)) Ae Ab))) (AU (i:=6) BX.nd rfl (Or.inr rfl)) (Ag (BN A1c rfl (Nq rfl T.Y_ (AV Cg (AH (LA rfl) rfl T.aAK A3g (Aa (pv 4) Ab)) Ae (AV AQ (AH (LB rfl) rfl T.aAN A4e (Aa (pv 4) Ab)) Ae Ab))) (AU (i:=7) BX.nd rfl (Or.inr rfl)) (Ac (DS (i:=8) rfl BX.nd rfl rfl (Bn.of (So:=Ah DZ) (No:=GO) (N:=["_law_dx","_law_dy","_law_states","_law_y","_law_x"]) (k:=2) (cs:=[1,6,7]) rfl rfl A3) (BY (pv 2)) (λ_ _ _=>(TH (i:=0) (j:=1) rfl A3 rfl rfl rfl rfl)) (λ_ _ _=>BB) (λ_ _ _=>(TK (Ed hr) (pv 2) (Dr (AV AQ (pv 4) (pv 0) (AV AQ (pv 3) (pv 1) Ab))) Ae ⟨rfl,rfl,rfl,rfl⟩))) (Ac (Ao (i:=9) BX.nd rfl O_9 (Ar aQ (rm hr) rfl Am (Aa (pv 0) (Aa (TK (Ed hr) (pv 1) (Dr (Aa (pv 7) (Aa (pv 6) Ab))) Ae ⟨rfl,rfl,rfl,rfl⟩) (Aa (pv 8) Ab))))) (Ag (AO (AA GM (pv 9) Ae (AF _)) (Ag (FH (Ed hr) (pv 3) (Dr (Aa (pv 7) (Aa (pv 6) Ab))) (pv 9) rfl)) Az))))))) (Ag (Aw (pv 3))))))))),?_⟩
 try dsimp only[cxK]
 refine Bj ?_;intro r1 s1 k1 b8 E1;refine alst ?_;obtain⟨bq,be⟩:Ay H H/\Paired (UJ H) [] []:=⟨Ay.refl H,.nil⟩
 refine pt2 (x:=-1) (y:=-1) ng1 ng1 bq be λt1 H1 br bf=>?_;clear bq be;refine pt2 (x:=0) (y:=-1) tc0 ng1 br bf λt2 H2 bt bg=>?_;clear br bf;refine pt2 (x:=1) (y:=-1) tc0 ng1 bt bg λt3 H3 bu bh=>?_;clear bt bg;refine pt2 (x:=-1) (y:=0) ng1 tc0 bu bh λt4 H4 bv bi=>?_;clear bu bh;refine pt2 (x:=1) (y:=0) tc0 tc0 bv bi λt5 H5 bw bj=>?_;clear bv bi;refine pt2 (x:=-1) (y:=1) ng1 tc0 bw bj λt6 H6 bx bl=>?_;clear bw bj;refine pt2 (x:=0) (y:=1) tc0 tc0 bx bl λt7 H7 bz bm=>?_;clear bx bl;refine pt2 (x:=1) (y:=1) tc0 tc0 bz bm λt8 H8 au bn=>?_;clear bz bm;refine⟨(by show 8<=sizeLine;decide),λO hO=>?_⟩;have sO:=Ay.trans au (AM (o:=.lst [.ref t1,.ref t2,.ref t3,.ref t4,.ref t5,.ref t6,.ref t7,.ref t8]) hO);have eO:upd H8 O (.lst [.ref t1,.ref t2,.ref t3,.ref t4,.ref t5,.ref t6,.ref t7,.ref t8]) O=o3 (.lst (([t1,t2,t3,t4,t5,t6,t7,t8]:H_).map V.ref)):=Af;have L:Paired (UJ (upd H8 O (.lst [.ref t1,.ref t2,.ref t3,.ref t4,.ref t5,.ref t6,.ref t7,.ref t8]))) [t1,t2,t3,t4,t5,t6,t7,t8] TQ:=PairedM.imp (λ_ _ z=>AM hO _ _ z) bn;have nO:H O=o4:=Ay.noneOf au hO;show E1.nx _ (upd H8 O (.lst [.ref t1,.ref t2,.ref t3,.ref t4,.ref t5,.ref t6,.ref t7,.ref t8]));generalize upd H8 O (.lst [.ref t1,.ref t2,.ref t3,.ref t4,.ref t5,.ref t6,.ref t7,.ref t8])=H9 at sO eO L⊢;generalize ([t1,t2,t3,t4,t5,t6,t7,t8]:H_)=us at eO L;clear au bn hO;refine b8 (Bj ?_);intro r2 s2 k2 b9 E2;refine λZ hZ=>?_;have nZ:H Z=o4:=Ay.noneOf sO hZ;have cm:Z≠O:=A1b (As eO hZ);have sZ:=AM (o:=.dT []) hZ;have eZ:upd H9 Z (.dT []) Z=o3 (.dT (kvC [])):=Af;generalize upd H9 Z (.dT [])=aa at sZ eZ⊢;have sm:Ay H aa:=Ay.trans sO sZ;have ag:=sZ _ _ eO;have ah:Paired (UJ aa) us TQ:=PairedM.imp (λ_ _ z=>sZ _ _ z) L;have R:=aGn rd sm;have nD:∀{x:R_},H x=o4->x≠D:=λn=>aGm rd n;clear sO eO L sZ hZ;refine b9 (Bj ?_);intro r3 s3 k3 ca E3;refine xq1 rfl ⟨D,kvC ds,rfl,R,rfl,(xq1 rfl ?_)⟩;have cl:(kvC ds).length=ds.length:=B8 _;have ao:∀u v,sF r φ u v≠0->∃c∈ds,u-1<=c.x/\c.x<=u+1/\v-1<=c.y/\c.y<=v+1:=λu v z=>by
  exact CB (Iw (k:=1) re (show sFN r 1 φ u v≠0 from z)) λx' y' S h2 h3 h4 nz=>⟨⟨x',y',φ x' y'⟩,(dk.mem _).mpr ⟨K3 nz,rfl⟩,by show u-1<=x';lia,by show x'<=u+1;lia,by show v-1<=y';lia,by show y'<=v+1;lia⟩
 by_cases z0:ds=[]
 .rw[A0d (by rw[z0];rfl)];refine Cr (xq1 rfl (k Z [] aa (λb u e _=>sm _ _ e) nZ eZ ⟨by simp,λc=>⟨(λz=>nomatch z),λ⟨S,h2⟩=>?_⟩⟩ A6));refine xea (ao c.x c.y A0) λc' ba _=>?_;rw[z0]at ba;cases ba
 rw[A0f (by intro z;injection z with z;rw[cl]at z;exact z0 (List.length_eq_zero_iff.mp A0))];refine Bc (ca ?_);refine Bj ?_;intro r4 s4 k4 cb E4;refine xq1 rfl ⟨D,kvC ds,rfl,R,λo1 G1 am a2=>aAz 0 A6 0 rfl am A0 λJ1 aq L1 a6=>?_⟩;generalize e5:upd J1 L1 _=av;obtain⟨U,hX⟩:=alc a6 e5;have af:∀b u,aa b=o3 u->b≠D->av b=o3 u:=λb u e n=>U _ _ (aq _ _ (a2 b u e n));have ab:=U _ _ (aq _ _ am);clear e5 a6 U aq a2 am;refine cb (Bj ?_);intro r5 U k5 cc E5;refine xq1 rfl ⟨D,kvC ds,rfl,.inr ⟨_,ab⟩,λo2 G2 an a3=>aAz 1 A6 1 rfl an A0 λJ2 ar L2 a7=>?_⟩;generalize e6:upd J2 L2 _=G;obtain⟨s6,hY⟩:=alc a7 e6;have C:∀b u,av b=o3 u->b≠D->G b=o3 u:=λb u e n=>s6 _ _ (ar _ _ (a3 b u e n));have I:∀b u,aa b=o3 u->b≠D->G b=o3 u:=λb u e n=>C _ _ (af b u e n) n;have hD:=s6 _ _ (ar _ _ an);replace hX:=C _ _ hX (AE hX ab A4);have a4:∀b u,H b=o3 u->b≠D->G b=o3 u:=λb u e n=>I _ _ (sm _ _ e) n;have hZ:=I _ _ eZ (nD nZ);have hO:=I _ _ ag (nD nO);have L:Paired (UJ G) us TQ:=PairedM.imp (λt p z=>I _ _ z (aE5 R z)) ah;clear e6 a7 s6 ar a3 an C af I ab eZ ag ah R sm;refine cc (Bj ?_);intro r6 s6 k6 cd E6;refine aGC ?_;intro cw R1 ci b6;have ne:∀i,ds.map (coC i)≠[]:=λi z=>z0 (R3.mp z);have ae:∀c∈ds,(X<=c.x/\c.x<X+W)/\Y<=c.y/\c.y<Y+B:=λc hc=>by
  have h:=(dk.mem c).mp hc;exact xa3 (ck c.x c.y A0) λS h2 h3 h4=>⟨⟨S,h2⟩,h3,h4⟩
 refine xq1 rfl ⟨L2,ds.map (coC 1),rfl,SqL.of hY,ne 1,λy0 a0 b0=>(xq2 rfl rfl (xq1 rfl ⟨L2,ds.map (coC 1),rfl,SqL.of hY,ne 1,λy1 a1 b1=>?_⟩))⟩;refine xea (F1.mp a0) λc0 m0 l=>?_;subst l;refine xea (F1.mp a1) λc1 m1 l=>?_;subst l;have i0:Y<=coC 1 c0/\coC 1 c0<Y+B:=(ae c0 m0).2;have i1:Y<=coC 1 c1/\coC 1 c1<Y+B:=(ae c1 m1).2;obtain⟨y0,ay⟩:∃y,coC 1 c0-1=y:=⟨_,rfl⟩
 obtain⟨y1,az⟩:∃y,coC 1 c1+2=y:=⟨_,rfl⟩
 have yb:∀u v,sF r φ u v≠0->y0<=v/\v<y1:=λu v z=>by
  refine Dh (ao u v z) λc hc _ _ d=>?_;refine xa d λh3 h4=>?_;have g0:coC 1 c0<=c.y:=b0 _ (F1.mpr ⟨c,hc,rfl⟩);have g1:c.y<=coC 1 c1:=b1 _ (F1.mpr ⟨c,hc,rfl⟩);exact⟨by lia,by lia⟩
 refine xq2 rfl rfl ⟨y0,y1,by rw[<-ay,<-az],⟨by lia,by lia,by lia,by lia⟩,?_⟩;generalize en:(y1-y0).toNat=n;have cv:n<=20:=by lia
 clear b0 b1 a0 a1 m0 m1 i0 i1 ay az;refine b6 (Qf (n:=n) (λj σ H3=>∃(M:List Cl)(u6 u7 u8 u9:Option V),σ=[o3 (.ref q),o3 (.ref D),o3 (.ref O),o3 (.ref Z),o3 (.ref L1),o3 (.ref L2),u6,u7,u8,u9]/\(∀b u,G b=o3 u->b≠Z->H3 b=o3 u)/\H3 Z=o3 (.dT (kvC M))/\UK (sF r φ) (λ_ v=>v<y0+j) M (21*j)) ⟨[],o4,o4,o4,o4,rfl,λb u e _=>e,hZ,⟨by simp,λc=>⟨(λz=>nomatch z),λ⟨⟨S,h2⟩,h3⟩=>?_⟩,C0 _⟩⟩ ?_ ?_)
 .have:=(yb c.x c.y A0).1;lia
 .intro j D1 cg σ H3 hj b2;refine xe5 b2 λM u6 u7 u8 u9 d=>?_;refine xa3 d λaj f3 ak pt=>?_;clear d;clear b2;subst aj;have bc:=AE hX hZ A4;generalize ey:y0+(j:Int)=y;refine gnm (ci (aGC ?_));intro cx R2 cj b7;refine xq1 rfl ⟨L1,ds.map (coC 0),rfl,SqL.of (f3 _ _ hX bc),ne 0,λx0 a0 b0=>(xq2 rfl rfl (xq1 rfl ⟨L1,ds.map (coC 0),rfl,SqL.of (f3 _ _ hX bc),ne 0,λx1 a1 b1=>?_⟩))⟩;refine xea (F1.mp a0) λc0 m0 l=>?_;subst l;refine xea (F1.mp a1) λc1 m1 l=>?_;subst l;have i0:X<=coC 0 c0/\coC 0 c0<X+W:=(ae c0 m0).1;have i1:X<=coC 0 c1/\coC 0 c1<X+W:=(ae c1 m1).1;obtain⟨x0,aw⟩:∃y,coC 0 c0-1=y:=⟨_,rfl⟩
  obtain⟨x1,ax⟩:∃y,coC 0 c1+2=y:=⟨_,rfl⟩
  have xb:∀u v,sF r φ u v≠0->x0<=u/\u<x1:=λu v z=>by
   refine Dh (ao u v z) λc hc h3 h4 _=>?_;have g0:coC 0 c0<=c.x:=b0 _ (F1.mpr ⟨c,hc,rfl⟩);have g1:c.x<=coC 0 c1:=b1 _ (F1.mpr ⟨c,hc,rfl⟩);exact⟨by lia,by lia⟩
  refine xq2 rfl rfl ⟨x0,x1,by rw[<-aw,<-ax],⟨by lia,by lia,by lia,by lia⟩,?_⟩;generalize em:(x1-x0).toNat=m;have cu:m<=21:=by lia
  have x2:-(2^42)<=x0:=by lia
  clear b0 b1 a0 a1 m0 m1 i0 i1 aw ax;refine b7 (Qf (n:=m) (λi σ H4=>∃(M:List Cl)(u7 u8 u9:Option V),σ=[o3 (.ref q),o3 (.ref D),o3 (.ref O),o3 (.ref Z),o3 (.ref L1),o3 (.ref L2),o3 (.int y),u7,u8,u9]/\(∀b u,G b=o3 u->b≠Z->H4 b=o3 u)/\H4 Z=o3 (.dT (kvC M))/\UK (sF r φ) (λu v=>v<y\/(v=y/\u<x0+i)) M (21*j+i)) ⟨M,u7,u8,u9,rfl,f3,ak,pt.imp (λu v z=>?_) (C0 _)⟩ ?_ ?_)
  .have:=(xb u v z).1;constructor
   .exact λh=>.inl A0
   .rintro(h|⟨S,h2⟩)<;>lia
  .intro i D2 bb σ H4 hi b3;refine xe4 b3 λM u7 u8 u9 d=>?_;refine xa3 d λai f4 al pt=>?_;clear d;clear b3;subst ai;generalize ex:x0+(i:Int)=x at pt⊢;have a8:=f4 _ _ hO (A1b cm);have ad:=f4 _ _ hD (A1b (nD nZ));refine gnm (cj (Bj ?_));intro r7 s7 k7 ce E7;refine xq1 rfl ⟨O,rfl,⟨_,SqL.of a8⟩,?_⟩;refine Db (xs:=us.map V.ref) (λi ac H5=>Ay H4 H5/\ac=((TQ.take i).map λo=>((φ (x+o.1) (y+o.2):Nat):Int)).map V.int) ⟨Ay.refl _,rfl⟩ (λi ac H5 _ z=>SqL.of (z.1 _ _ a8)) ?_ ?_
   .intro i v ac H5 ev co;obtain⟨U,rfl⟩:=co;rw[C1]at ev;refine xea (D7.mp ev) λt et l=>?_;subst l;refine xea (PairedM.getL L et) λoo eo ho=>?_;have i8:=(B9.mp eo).1;have ch:=f4 _ _ ho (AE (show G t=o3 _ from ho) hZ A4);refine Qb (U _ _ ch) ⟨⟨[o3 (.int oo.1),o3 (.int oo.2)],rfl,rfl⟩,by rw[B8,B8,J3];exact Fe (by have:TQ.length=8:=rfl;lia),FP (xq1 rfl ⟨D,rfl,.inr ⟨_,.inr ⟨o2,U _ _ ad⟩⟩,(xw2 rfl rfl (xq2 rfl rfl (xw2 rfl rfl (xq2 rfl rfl ⟨S_2,λt6 h6=>?_⟩))))⟩)⟩;generalize e6:upd H5 t6 _=H6;obtain⟨s6,g6⟩:=alc h6 e6;refine⟨_,aBD (s6 _ _ (U _ _ ad)) g6,?_⟩;rw[Zk dk];refine⟨Ay.trans U s6,?_⟩;rw[F4,eo];show _=((TQ.take i++[oo]).map _).map _;rw[C7,C7];rfl
   .intro ac H5 cp A1 a5;obtain⟨U,rfl⟩:=cp;rw[B8,A1e L,F8];generalize e6:upd H5 A1 _=H6;obtain⟨s6,hA⟩:=alc a5 e6;replace hA:H6 A1=o3 (.lst ((arF φ x y).map V.int)):=hA;have as:=Ay.trans U s6;clear e6 a5 U s6;refine ce (Bj ?_);intro r8 s8 k8 cf E8;refine xw2 rfl rfl ⟨D,rfl,.inr ⟨_,.inr ⟨o2,as _ _ ad⟩⟩,(xw2 rfl rfl ⟨S_2,λt7 h7=>?_⟩)⟩;generalize e7:upd H6 t7 _=H7;obtain⟨s7,g7⟩:=alc h7 e7;have s47:=Ay.trans as s7;refine⟨_,aBD (s47 _ _ ad) g7,?_⟩;rw[Zk dk];have bd:Ay H0 H7:=λb u e=>s47 _ _ (f4 _ _ (a4 _ _ (s0 _ _ e) (As e n0)) (As (s0 _ _ e) nZ));refine xq1 rfl ⟨q,A1,r,_,arF φ x y,rfl,hq.same bd,ro,s7 _ _ hA,rfl,λH8 bp=>?_⟩;rw[aDl ro];obtain⟨v,ev⟩:∃v,sF r φ x y=v:=⟨_,rfl⟩
    rw[ev];have bo:=Ay.trans s47 bp;have a9:=bo _ _ al;have f8:∀b u,G b=o3 u->b≠Z->H8 b=o3 u:=λb u e n=>bo _ _ (f4 b u e n);clear e7 h7 s7 g7 s47 bp hA as bd;refine cf (xq1 rfl ⟨rfl,(xq1 rfl ?_)⟩);by_cases nz:v=0
    .refine ML (by rw[nz];rfl) (bb ⟨M,_,_,_,rfl,f8,a9,pt.imp (λu w z=>?_) A0⟩);by_cases h:u=x
     .by_cases h':w=y
      .rw[h,h',ev,nz]at z;exact absurd rfl z
      .exact or_congr_right (and_congr_right λe=>absurd e h')
     .exact or_congr_right (and_congr_right λ_=>⟨λg=>by lia,λg=>by lia⟩)
    .rw[A0f (by intro e;injection e with e;lia)];refine Cr (xw2 rfl rfl (xw2 rfl rfl ⟨S_2,λt9 h9=>?_⟩));generalize e9:upd H8 t9 _=H9;obtain⟨s9,g9⟩:=alc h9 e9;refine⟨Z,(xq1 rfl ⟨aF6 (c:=⟨x,y,v⟩) (s9 _ _ a9) g9 (by have:=pt.len;lia),bb ⟨Mc M ⟨x,y,v⟩,_,_,_,rfl,λb u e n=>?_,Af,pt.put ev A0 A0 λu w=>?_⟩⟩)⟩
     .rw[Av n];exact s9 _ _ (f8 b u e n)
     .constructor
      .rintro(h|⟨S,h2⟩)
       .exact .inl (.inl h)
       .by_cases e:u=x
        .exact .inr ⟨e,S⟩
        .exact .inl (.inr ⟨S,by lia⟩)
      .rintro((h|⟨S,h2⟩)|⟨S,h2⟩)
       .exact .inl h
       .exact .inr ⟨S,by lia⟩
       .exact .inr ⟨h2,by lia⟩
  .intro σ H4 b4;refine xe4 b4 λM u7 u8 u9 d=>?_;refine xa3 d λai f4 al pt=>?_;clear d;clear b4;subst ai;refine cg ⟨M,_,_,_,_,rfl,f4,al,pt.imp (λu v z=>?_) A0⟩;have:=(xb u v z).2;constructor
   .rintro(h|⟨S,h2⟩)<;>lia
   .intro h;rcases Int.lt_or_eq_of_le (show v<=y by lia)with h'|h'
    .exact .inl h'
    .exact .inr ⟨h',by lia⟩
 .intro σ H3 b5;refine xe5 b5 λM u6 u7 u8 u9 d=>?_;refine xa3 d λaj f3 ak pt=>?_;clear d;clear b5;subst aj;refine cd (xq1 rfl (k Z M H3 (λb u e n=>f3 _ _ (a4 b u e n) (As e nZ)) nZ ak ⟨pt.nd,λc=>?_⟩ (by have:=pt.len;lia)));rw[pt.mem];refine⟨λh=>h.1,λh=>⟨h,?_⟩⟩;have:=(yb c.x c.y A0).2;lia
end
theorem aEM(K:O_):kitOne K (.type "list") (.type "list")=o3 o5:=by kernel_rfl
theorem aEN(K:O_):kitOne K (.type "tuple") (.type "tuple")=o3 o5:=by kernel_rfl
section
variable{P:N_}{w:Q_}{K:O_}{mg:C_}{n9:T_}{a:Ad}
inductive aFq(vs:List V)(H:Hp)(Q:VK):Prop
|mk (L M:R_) (ts us:H_) (es:List Cl) (_:vs=[.ref L,.ref M]) (_:H L=o3 (.lst (ts.map V.ref))) (_:H M=o3 (.lst (us.map V.ref))) (_:Paired (LF H) ts es) (_:Paired (LF H) us es) (_:es.length<=500) (_:Q (.bl o5) H):aFq vs H Q
def aG2:Sp:=λvs H Q _=>aFq vs H Q
theorem aGd(F:Fun K "_law_right" "_law_right" IP f fd)(T:Top K mg a):AL P w K mg n9 CX0 1 f fd Jd aG2:=by
 refine F.ok GV (λvs H Q E h=>?_) (λaa A S s H vs Q E hr h=>?_)
 .apply AT;intro j b;obtain⟨L,M,ts,us,G,rfl,_⟩:=h;apply b;clear b j;rfl
 .apply AT;intro j b;obtain⟨L,M,ts,us,G,rfl,p,I,pt,pu,l1,k⟩:=h;apply b;clear b j;refine⟨_,(Ac (AO (PW.pt (Jv (Cy (Cf (AH DN Z T.V_ A2c (Aa (pv 0) (Aa (EV (v:=.ty "list") Z T.aAV A8h Z) Ab))))) (Gd (AA GM (AH Bh Z T.j_ A2g (Aa (pv 0) Ab)) (AH Bh Z T.j_ A2g (Aa (pv 1) Ab)) (AF _))))) (Ag (Aw Jw)) Az) (Ac (BN A1c Z (Ca Z T.Y_ (Aa (AH Bh Z T.j_ A2g (Aa (pv 1) Ab)) Ab)) (AU (i:=2) GV.nd Z O_9) (Ac (AO (PW.pt (Jv (Cy (Cf (AH DN Z T.V_ A2c (Aa (Aj Ax (pv 0) (pv 2) R_9) (Aa (EV (v:=.ty "tuple") Z T.m9 A3b Z) Ab))))) (Jv (AA GM (AH Bh Z T.j_ A2g (Aa (Aj Ax (pv 0) (pv 2) R_9) Ab)) Ae (AF _)) (Gd (AA (Yo hr.units) (Aj Ax (pv 0) (pv 2) R_9) (Aj Ax (pv 1) (pv 2) R_9) (AF _)))))) (Ag (Aw Jw)) Az) (Ag (BN A1c Z (Po (Aj Ax (pv 0) (pv 2) R_9)) (AU (i:=3) GV.nd Z O_9) (Ag (AO (PW.pt (Jv (Cy (Cf (AH DN Z T.V_ A2c (Aa (pv 3) (Aa (EV (v:=.ty "int") Z T.aAM A4d Z) Ab))))) (Gd (Cf (AH DN Z T.V_ A2c (Aa (pv 3) (Aa (EV (v:=.ty "bool") Z T.aAU A8g Z) Ab))))))) (Ag (Aw Jw)) Az)))))) (Ag (Aw Jw)))),?_⟩
  try dsimp only[cxK]
  have lt:=A1e pt;have Y:=A1e pu;refine xq1 Z ⟨_,_,_,.type "list",o5,Z,Z,.of (.lst p),aEM K,o5,Z,Bc (xq1 Z ⟨L,(xq1 Z ⟨.inl (SqL.of p),(xq1 Z ⟨M,(xq1 Z ⟨.inl (SqL.of I),Z,(xq1 Z ?_)⟩)⟩)⟩)⟩)⟩;rw[B8,B8,lt,Y];refine ML Z (xq1 Z ⟨M,(xq1 Z ⟨.inl (SqL.of I),(xq1 Z ⟨by rw[B8];lia,by rw[B8];lia,?_⟩)⟩)⟩);rw[B8,L8,Y];refine Cc (n:=G.length) (λi σ D=>H=D/\∃U q:Option V,σ=[o3 (.ref L),o3 (.ref M),U,q]) ⟨Z,o4,o4,Z⟩ ?_ ?_
  .rintro i σ D N W;apply AT;intro j b;obtain⟨rfl,U,q,rfl⟩:=W;apply b;clear b j;obtain⟨c,X⟩:∃c,G[i]?=o3 c:=⟨_,C5 N⟩
   refine xea (PairedM.get pt X) λt et o=>xea (PairedM.get pu X) λu eu O=>?_;have o:=o;have O:=O;have C:atI (ts.map V.ref) (0+(i:Int))=o3 (.ref t):=by
    rw[T0];exact Ai (by rw[C1,et];rfl)
   have R:atI (us.map V.ref) (0+(i:Int))=o3 (.ref u):=by
    rw[T0];exact Ai (by rw[C1,eu];rfl)
   refine xwj Z Z Z Z (SqL.of p) C ⟨_,_,_,.type "tuple",o5,Z,Z,.of (.tup o),aEN K,o5,Z,Bc ?_⟩;refine xwj Z Z Z Z (SqL.of p) C ⟨t,(xq1 Z ⟨.inr (SqT.of o),Z,(xq1 Z (ML Z ?_))⟩)⟩;refine xwj Z Z Z Z (SqL.of p) C (xwj Z Z Z Z (SqL.of I) R ⟨t,u,[c.x,c.y,(c.s:Int)],[c.x,c.y,(c.s:Int)],Z,Z,SqT.of o,SqT.of O,(xq1 Z (ML Z ?_))⟩);refine xwj Z Z Z Z (SqL.of p) C ⟨t,Z,⟨_,SqT.of o⟩,?_⟩;refine aCD (xs:=[.int c.x,.int c.y,.int (c.s:Int)]) (λn σ B=>H=B/\∃q:Option V,σ=[o3 (.ref L),o3 (.ref M),o3 (.int (0+(i:Int))),q]) ⟨Z,q,Z⟩ (λn σ B _ ⟨e,_⟩=>SqT.of (e▸o)) ?_ ?_
   .intro n v σ B ev r;refine xa r λl d=>?_;refine xe d λu4 m=>?_;clear d;clear r;subst l;subst m;obtain⟨z,rfl⟩:∃z:Int,v=.int z:=by
     have:=D5 ev;simp only[C4,F6,A2h]at this;rcases this with e|e|e<;>exact⟨_,e⟩
    exact xq1 Z ⟨_,_,_,.type "int",o5,Z,Z,.of (.int z),(Rg K).1,o5,Z,Bc (xq1 Z ⟨_,_,_,.type "int",o6,Z,Z,.of (.int z),(Rg K).2,o6,Z,Bc ⟨Z,_,Z⟩⟩)⟩
   .intro σ B g;refine xa g λl d=>?_;refine xe d λu4 m=>?_;clear d;clear g;subst l;subst m;exact⟨Z,_,_,Z⟩
  .rintro σ D g;apply AT;intro j b;obtain⟨rfl,U,q,rfl⟩:=g;apply b;clear b j;exact k
end
theorem WM:∀{out:List It3}{d:List Cl},out.map ZO=d.map aE7->(∀q∈out,H q.a=o3 (.tup (q.ns.map V.int)))->Paired (LF H) (out.map (·.a)) d
|[],[],_,_=>.nil
|[],_::_,e,_=>by cases e
|_::_,[],e,_=>by cases e
|q::out,c::d,e,h=>by
 rw[F5,F5]at e;injection e with b e2
 refine .cons ?_ (WM e2 λp g=>h p (C9 _ g));have f:=h q (C8 ..);have b:=b;injection b with y1 b
 injection b with x1 r1
 have:q.ns=[c.x,c.y,(c.s:Int)]:=by
  show q.x::q.y::q.r=_;rw[y1,x1,r1]
 rw[this]at f;exact f
noncomputable def itC(c:Cl):It3:=⟨0,c.x,c.y,[(c.s:Int)]⟩
theorem aB6 {a:List Cl} (h:ByC a) (b:(a.map λc=>(c.x,c.y)).Nodup):(a.map aE7).Pairwise (λp q=>Da q p=o6):=by
 have:=VU (out:=a.map itC) (P1.mpr h) (by rw[M9];exact b);rw[M9]at this;exact this
theorem aF2(j:AX a H g G)(v:Fv G f φ)(dk:NY d φ)(u:ByC d)(A:d.length<=500)(few:G.length<9000000)(k:∀(L:R_)(t:H_)(b:Hp),Fx (frL g) H b->AX a b g G->H L=o4->b L=o3 (.lst (t.map V.ref))->Paired (LF b) t d->Q (.ref L) b):WY a [.ref g.p,.int f] H Q:=by
 refine Dh v.ex λn B m F e=>?_;have o:Of G n f d:=⟨dk.nd,λc=>by rw[e];exact dk.mem c⟩
 refine⟨g,G,f,n,Z,j,m,by lia,few,by rw[o.cnt j.ok m];lia,λL out b x l C w z D E=>?_⟩;have h:=D.trans (o.perm j.ok m);have i:(out.map λq=>(q.x,q.y)).Nodup:=by
  have s:=h.map λr=>(r.getD 1 0,r.getD 0 0)
  rw[M9,M9]at s;exact s.nodup_iff.mpr dk.nd
 have eq:=Tw (VU E i) (aB6 u dk.nd) h;refine k L (out.map (·.a)) b x l C ?_ (WM eq z);rw[M9];exact w
end J
namespace J
open PySem L2
theorem Na.mono(h:Na Κ N)(e:N<=a):Na Κ a:=by
 exact xea h.ls λM b c=>⟨⟨M,D0 b e,c⟩,h.ext⟩
theorem ng55:ng 1 9 5 4<=90000:=by decide +kernel
theorem aDk(a:Gz r)(h:∀u v,φ u v<=7):∀n u v,sFN r n φ u v<=7
|0,u,v=>h u v
|n+1,u,v=>by
 have b:=aDk a h n u v;have:=VO a (cell:=((sFN r n φ u v:Nat):Int)) ⟨by lia,by lia⟩ (arF (sFN r n φ) u v);rw[aDl a]at this;have:=this.2;show sF r (sFN r n φ) u v<=7;lia
theorem InW.step(b:CK r 0 BL=0)(h:InW φ X Y W B)(n:Nat):InW (sFN r n φ) (X-n) (Y-n) (W+2*n) (B+2*n):=λu v z=>by
 exact CB (Iw b z) λx y g i j k a=>xa3 (h x y a) λc d e f=>⟨by lia,by lia,by lia,by lia⟩
theorem InW.near(h:InW φ X Y 5 4)(f:-(2^38)<=X)(g:X<2^38)(i:-(2^38)<=Y)(j:Y<2^38){k:Nat}(e:k<=9):SS φ k:=λu v z=>by
 exact xa3 (h u v z) λa b c d=>⟨by lia,by lia,by lia,by lia⟩
theorem aFE(h:Dd ds n x y):InW (stC ds) x y 5 4:=λu v z=>by
 rcases Mn ds u v with ⟨c,d,a,b,_⟩|⟨_,e⟩
 .subst a;subst b;exact(h.ok c d).2
 .exact absurd e z
theorem aG7(h:Dd ds n x y)(u v:Int):stC ds u v<=7:=by
 rcases Mn ds u v with ⟨c,a,_,_,e⟩|⟨_,e⟩
 .have:=(h.ok c a).1.1.s;lia
 .lia
theorem aCO(x q:Int):∃a:Nat,x%7+(if(if q-13<20 then q-13 else 20) > 0 then(if q-13<20 then q-13 else 20)else 0)=(a:Int)/\a<=26:=by
 by_cases z:q-13<20
 .rw[A0e z];by_cases y:q-13 > 0
  .rw[A0e y];exact⟨(x%7+(q-13)).toNat,by lia,by lia⟩
  .rw[A0c y];exact⟨(x%7).toNat,by lia,by lia⟩
 .rw[A0c z,A0e A6];exact⟨(x%7+20).toNat,by lia,by lia⟩
theorem aDe{H:Hp}{g:GA}{m:MA}(ng:∀y∈Dl g,H y=o4)(fr:∀y∈m.l::m.kc::m.ds,H y=o4):∀y∈zL g m,H y=o4:=λy a=>by
 simp only[zL,List.cons_append,List.nil_append,C4]at a;rcases a with rfl|rfl|rfl|rfl|rfl|rfl|a
 .exact ng _ (by simp[Dl])
 .exact ng _ (by simp[Dl])
 .exact ng _ (by simp[Dl])
 .exact ng _ (by simp[Dl])
 .exact ng _ (by simp[Dl])
 .exact fr _ B0
 .exact fr _ (by simp[a])
section
variable{a:Ad}{Hd H H':Hp}{g:GA}{G G':Gv}{Κ:KTy}{N b i:Nat}{p dx mem pr:R_}{r:AB}{m:MA}
structure Y8(a:Ad)(Hd H:Hp)(g:GA)(G:Gv)(Κ:KTy)(N b:Nat)(p dx mem pr:R_)(r:AB)(m:MA):Prop where
zs:ZS a H g G Κ N b p dx mem pr r m
sm:Ay Hd H
ng:∀y∈Dl g,Hd y=o4
nn:∀y∈zL g m,Hd y=o4
theorem Y8.fr(h:Y8 a Hd H g G Κ N b p dx mem pr r m)(f:Fr g H H')(c:AX a H' g G')(d:AK G G' i):Y8 a Hd H' g G' Κ N (b+i) p dx mem pr r m:=⟨h.zs.fr f c d,Ay.fxn h.sm ((Fr.z f).fx h.zs) h.nn,h.ng,h.nn⟩
theorem Y8.same(h:Y8 a Hd H g G Κ N b p dx mem pr r m)(s:Ay H H'):Y8 a Hd H' g G Κ N b p dx mem pr r m:=⟨h.zs.same s,h.sm.trans s,h.ng,h.nn⟩
theorem Y8.frz(h:Y8 a Hd H g G Κ N b p dx mem pr r m)(f:FrZ g m H H'){G':Gv}{b':Nat}(z:ZS a H' g G' Κ N b' p dx mem pr r m):Y8 a Hd H' g G' Κ N b' p dx mem pr r m:=⟨z,Ay.fxn h.sm (f.fx h.zs) h.nn,h.ng,h.nn⟩
theorem Y8.mono(h:Y8 a Hd H g G Κ N b p dx mem pr r m)(e:b<=b'):Y8 a Hd H g G Κ N b' p dx mem pr r m:=⟨h.zs.mono e,h.sm,h.ng,h.nn⟩
end
structure Bq(r:AB)(φ:D_)(X Y:Int):Prop where
ro:Gz r
re:CK r 0 BL=0
h7:∀u v,φ u v<=7
inb:InW φ X Y 5 4
x1:-(2^38)<=X/\X<2^38
y1:-(2^38)<=Y/\Y<2^38
theorem Bq.fin(h:Bq r φ X Y):Na (Kg r [φ] 9) 90000:=(aEL h.re (qs:=[(φ,X,Y)]) (W:=5) (D:=4) fun ψ a u v z=>by
 rw[D4.mp a]at z⊢;exact xa3 (h.inb u v z) λb c d e=>⟨X,Y,by simp,b,c,d,e⟩).mono ng55
theorem Bq.clo(h:Bq r φ X Y)(m:n<=8)(dk:NY ds (sFN r n φ)):∀c∈ds,UM c:=λc b=>by
 obtain⟨k,l⟩:=(dk.mem c).mp b;refine xa3 (h.inb.step h.re n c.x c.y A0) λf g i j=>?_;have d:=h.x1;have e:=h.y1;have a:=aDk h.ro h.h7 n c.x c.y;exact⟨⟨by lia,by lia,by lia,by lia⟩,by lia⟩
theorem Bq.jump{p j mem l:R_}{Q:VK}(h:Bq r φ X Y)(y:Y8 a n H g G (Kg r [φ] 9) 90000 b p j mem l r m){t k f:Nat}(tk:k+t<=9)(o:Fv G f (sFN r t φ))(few:b<=6000000)(u:∀(d:Nat)(c:Gv)(e:Hp)(i:Nat),Y8 a n e g c (Kg r [φ] 9) 90000 (b+12048) p j mem l r m->AK G c i->Fv c d (sFN r (k+t) φ)->Q (.int d) e):aAg a [.ref p,.int (f:Int),.int (k:Int)] H Q :=
 ⟨p,j,mem,l,g,G,_,_,90000,b,r,m,f,k,Z,y.zs,h.fin,aGK h.ro h.re _ _,aEJ B0 tk,o,aCR h.re (h.inb.near h.x1.1 h.x1.2 h.y1.1 h.y1.2 tk),F7 (U6 (U6 few _) _) A6,λd c e i q z s v=>u d c e i (y.frz q z) s (by rw[Lo];exact v)⟩
theorem Y8.fq{d H c:Hp}{p i mem j:R_}(h:Y8 a d H g G Κ N b p i mem j r m)(f:Fx (frL g) H c)(k:AX a c g G):Y8 a d c g G Κ N b p i mem j r m:=by
 have q:FrQ g H c:=λx o e l n=>f.get (λz=>by
  rcases C4.mp z with z|z
  .exact l z
  .exact n (D4.mp z)) e
 exact h.frz (FrQ.z q) (h.zs.frQ q k)
theorem Bq.told{j H:Hp}{p x mem A:R_}(h:Bq r φ X Y)(y:Y8 a j H g G (Kg r [φ] 9) 90000 b p x mem A r m)(few:b<=6000000)(v:Fv G f ψ)(dk:NY i ψ)(B:ByC i)(le:i.length<=500)(C:j w=o3 (.lst (d.map V.ref)))(s:Paired (LF j) d i)(k:∀(L:R_)(l:H_)(e:Hp),Y8 a j e g G (Kg r [φ] 9) 90000 b p x mem A r m->e L=o3 (.lst (l.map V.ref))->e w=o3 (.lst (d.map V.ref))->Paired (LF e) l i->Paired (LF e) d i->Q (.ref L) e):WY a [.ref g.p,.int (f:Int)] H Q :=
 aF2 y.zs.fu v dk B le (F7 (D0 (y.zs.jz.sz h.fin) (U6 few _)) A6) λL l e fx n _ o q=>by
  have u:=y.fq fx n;exact k L l e u o (u.sm _ _ C) q (PairedM.imp (λt c z=>u.sm _ _ z) s)
seal L2.PA L2.PE L2.PS L2.PSs L2.PT L2.PW
section
variable{P:N_}{w:Q_}{K:O_}{mg:C_}{n9:T_}{a:Ad}
theorem aEZ(F:Fun K "law" "law" ZM f fd)(T:Top K mg a)(dA:SU P w K mg n9 CX0 2 "Grove" a.J5 Jh (RM a))(aB:Cal P w K mg n9 CX0 1 "_law_at" YD (ZJ K))(aV:Cal P w K mg n9 CX0 4 "_law_clauses_by" Et (aGv K))(cP:Cal P w K mg n9 CX0 2 "_law_text" JT aG3)(cL:Cal P w K mg n9 CX0 8 "read_rule" Ih (aG1 a))(bY:Cal P w K mg n9 CX0 1 "_law_base" PN UW)(bH:Cal P w K mg n9 CX0 2 "_law_cells_by" Ft (ZI K))(bF:Cal P w K mg n9 CX0 5 "_law_listed" Ii ZA)(cQ:Cal P w K mg n9 CX0 4 "_law_step" JU Zs)(bT:Cal P w K mg n9 CX0 56 "field_of" Mf (ZD a))(cZ:SU P w K mg n9 CX0 3 "Jumps" a.M3 Sm (RK a))(cS:Cal P w K mg n9 CX0 151 "jump" Ve (ZC a))(bV:Cal P w K mg n9 CX0 56 "cells_of" Vj (ZF a))(b9:Cal P w K mg n9 CX0 1 "_law_right" Jd aG2)(cA:BR P w K mg n9 CX0 4 a.J5 "solid" Il (RF a)):AL P w K mg n9 CX0 152 f fd aDg (Wi K):=by
 refine F.ok Co (λvs H Q E h=>?_) (λgq A fe s H vs Q E k h=>?_)
 .apply AT;intro G_ B;obtain⟨l,ns,rfl,_⟩:=h;apply B;clear B G_;rfl
 .apply AT;intro G_ B;obtain⟨l,ns,rfl,hS,fp,kq⟩:=h;apply B;clear B G_;refine⟨_,(Ac (Ao (i:=1) Co.nd Z O_9 (Ar aV (rm k) Z Am (Aa (pv 0) (AI (AV Bm (Ar aB (rm k) Z Am (Aa (pv 0) (AI Ab))) Ae Ab))))) (Ac (Ao (i:=2) Co.nd Z O_9 (AG Bm (Ar aB (rm k) Z Am (Aa (pv 0) (AI Ab))) Ae)) (Ac (Ao (i:=3) Co.nd Z O_9 (AG AQ (AG Bm (Ar aB (rm k) Z Am (Aa (pv 0) (AI Ab))) Ae) (AH (Rt Z) Z T.aAN A4e (AI (Aa (AH (NU Z) Z T.aAK A3g (AI (AV Cg (AH Bh Z T.j_ A2g (Aa (pv 0) Ab)) Ae Ab))) Ab))))) (Ac (AO (AA Dj (AG Bm (AG CP (Ar aB (rm k) Z Am (Aa (pv 0) (AI Ab))) Ae) Ae) Ae (AF _)) (Ac (Ao (i:=2) Co.nd Z O_9 (AG AQ Ae (AG Bm (AG CP (Ar aB (rm k) Z Am (Aa (pv 0) (AI Ab))) Ae) Ae))) (Ac (Ao (i:=1) Co.nd Z O_9 (Ar aV (rm k) Z Am (Aa (pv 0) (AI (AV Bm (Ar aB (rm k) Z Am (Aa (pv 0) (AI Ab))) Ae Ab))))) (Ag (Ao (i:=3) Co.nd Z O_9 (AH (NU Z) Z T.aAK A3g (Aa (pv 3) (AI Ab))))))) Az) (Ac (Ao (i:=4) Co.nd Z O_9 (Ar bY (rm k) Z Am (Aa (Ar aB (rm k) Z Am (Aa (pv 0) (AI Ab))) Ab))) (Ac (Ao (i:=5) Co.nd Z O_9 (Ar bH (rm k) Z Am (Aa (pv 0) (AI (Aa (pv 3) (Aa (pv 4) (Aa (Ar bY (rm k) Z Am (Aa (Ar aB (rm k) Z Am (Aa (pv 0) (AI Ab))) Ab)) Ab))))))) (Ac (Ao (i:=6) Co.nd Z O_9 (Ar bF (rm k) Z Am (Aa (pv 5) Ab))) (Ac (BN A1c Z (Ca Z T.Y_ (Aa (pv 2) Ab)) (AU (i:=7) Co.nd Z O_9) (Ag (Ao (i:=5) Co.nd Z O_9 (Ar cQ (rm k) Z Am (Aa (pv 1) (Aa (pv 5) Ab)))))) (Ac (Ao (i:=8) Co.nd Z O_9 (Ar bF (rm k) Z Am (Aa (pv 5) Ab))) (Ac (Ao (i:=9) Co.nd Z O_9 (TL dA (rm k) Z Am)) (Ac (Ao (i:=10) Co.nd Z O_9 (Ar cL (rm k) Z Am (Aa (Ar cP (rm k) Z Am (Aa (pv 1) Ab)) Ab))) (Ac (Ao (i:=11) Co.nd Z O_9 (Lq cZ (rm k) Z Am (Aa (pv 9) (Aa (pv 10) Ab)))) (Ac (Ao (i:=12) Co.nd Z O_9 (Ar bT (rm k) Z Am (Aa (pv 9) (Aa (BH MV Z T.aAV A8h (Aa (pv 6) Ab)) Ab)))) (Ac (BN A1c Z (Ca Z T.Y_ (AV Bm (AG CP (Ar aB (rm k) Z Am (Aa (pv 0) (AI Ab))) Ae) Ae Ab)) (AU (i:=7) Co.nd Z O_9) (Ag (Bp (Ar cS (rm k) Z Am (Aa (pv 11) (Aa (pv 12) (AV AQ (AG CP (pv 2) Ae) (pv 7) Ab))))))) (Ac (Ao (i:=13) Co.nd Z O_9 (Ar cS (rm k) Z Am (Aa (pv 11) (Aa (pv 12) (Aa (pv 2) Ab))))) (Ac (AO (PW.pt (Jv (Cy (Cf (AH DN Z T.V_ A2c (Aa (pv 13) (Aa (EV (v:=.ty "int") Z T.aAM A4d Z) Ab))))) (Gd (Cf (AH DN Z T.V_ A2c (Aa (pv 13) (Aa (EV (v:=.ty "bool") Z T.aAU A8g Z) Ab))))))) (Ag (Aw Jw)) Az) (Ac (AO (PW.pt (Jv (Cy (Cf (Ar b9 (rm k) Z Am (Aa (Ar bV (rm k) Z Am (Aa (pv 9) (Aa (pv 13) Ab))) (Aa (pv 8) Ab))))) (Gd (Cy (Cf (Ar b9 (rm k) Z Am (Aa (Ar bV (rm k) Z Am (Aa (pv 9) (Aa (pv 12) Ab))) (Aa (pv 6) Ab)))))))) (Ag (Aw Jw)) Az) (Ac (Bp (Ar cS (rm k) Z Am (Aa (pv 11) (Aa (pv 13) (AI Ab))))) (Ac (AO (PW.pt (Mb (AA GN (AH Bh Z T.j_ A2g (Aa (pv 8) Ab)) Ae (AF _)) (IW (AA GM (Ar bT (rm k) Z Am (Aa (pv 9) (Aa (pv 8) Ab))) (pv 13) (AF _))))) (Ag (Aw Jw)) Az) (Ac (Ao (i:=14) Co.nd Z O_9 (TL dA (rm k) Z Am)) (Ac (Bp (AD (pv 14) cA (rm k) Am (AI (AI Ab)))) (Ac (Ao (i:=15) Co.nd Z O_9 (Lq cZ (rm k) Z Am (Aa (pv 14) (Aa (pv 10) Ab)))) (Ac (AO (AA GN (pv 2) Ae (AF _)) (Ac (Ao (i:=16) Co.nd Z O_9 (Ar cS (rm k) Z Am (Aa (pv 15) (Aa (Ar bT (rm k) Z Am (Aa (pv 14) (Aa (pv 6) Ab))) (Aa (pv 2) Ab))))) (Ag (AO (Cy (Cf (Ar b9 (rm k) Z Am (Aa (Ar bV (rm k) Z Am (Aa (pv 14) (Aa (pv 16) Ab))) (Aa (pv 8) Ab))))) (Ag (Aw Jw)) Az))) Az) (Ag (Aw (EU Dj (Ar cS (rm k) Z Am (Aa (pv 11) (Aa (pv 12) (Aa (pv 2) Ab)))) (pv 13) (AF _))))))))))))))))))))))))))),?_⟩
  try dsimp only[cxK]
  refine Bj ?_;intro r1 s1 k1 et E1;refine xq1 Z (xq1 Z ⟨l,ns,8,Z,hS,by decide,(xq2 Z Z ⟨(by show(0:Int)<7;decide),?_⟩)⟩);refine⟨l,ns,0,atN ns 8%7,Z,hS,by decide,by lia,by lia,λq1 r1 H1 bf dg dt dr _ _=>?_⟩;refine et (Bj ?_);intro r2 s2 k2 eu E2;have L:=bf.seq hS;obtain⟨n1,df⟩:=J6 (Int.emod_nonneg (atN ns 9) (by decide:(5:Int)≠0));have e8:n1<=4:=by have:=V8 (atN ns 9) (by decide:(0:Int)<5);lia
  refine xq1 Z ⟨l,ns,9,Z,L,by decide,(xq2 Z Z ⟨(by show(0:Int)<5;decide),?_⟩)⟩;rw[show(λi j:Int=>V.int (i%j)) _ _=V.int (n1:Int)from A2f V.int df];refine eu (Bj ?_);intro r3 s3 k3 ev E3;refine xea (aCO (atN ns 12) ((ns.map V.int).length:Int)) λm1 dc di=>xq1 Z ⟨l,ns,12,Z,L,by decide,(xq2 Z Z ⟨(by show(0:Int)<7;decide),(xq1 Z ⟨l,(xq1 Z ⟨.inl L,(xq2 Z Z ⟨_,_,Z,_,_,Z,(xq2 Z Z ?_)⟩)⟩)⟩)⟩)⟩;rw[show(λi j:Int=>V.int (i+j)) _ _=V.int (m1:Int)from A2f V.int dc];refine ev (Bj ?_);intro r4 s4 k4 ew E4;apply Rb (T:=k4) (fun σ' H5=>∃(q:R_)(r:AB)(n m:Nat),σ'=[o3 (.ref l),o3 (.ref q),o3 (.int (n:Int)),o3 (.int (m:Int)),o4,o4,o4,o4,o4,o4,o4,o4,o4,o4,o4,o4,o4]/\Ay H H5/\LO H5 q r/\Gz r/\CK r 0 BL=0/\n<=8/\m<=26)
  .intro C;refine xq1 Z ⟨l,ns,9,Z,L,by decide,(xq2 Z Z ⟨⟨by decide,by decide⟩,(xq2 Z Z ⟨(by show(0:Int)<5;decide),Z,(xq1 Z (Jl (λ_=>?_) (λ_=>C _ _ ⟨q1,r1,n1,m1,Z,bf,dg,dt,dr,by lia,di⟩)))⟩)⟩)⟩;refine Bj ?_;intro r5 s5 k5 b7 E5;obtain⟨n2,e1⟩:=J6 (show 0<=5+atN ns 9/25%4 by lia);have e9:n2<=8:=by lia
   refine xq1 Z ⟨l,ns,9,Z,L,by decide,(xq2 Z Z ⟨⟨by decide,by decide⟩,(xq2 Z Z ⟨B6,(xq2 Z Z ?_)⟩)⟩)⟩;rw[show(λi j:Int=>V.int (i+j)) _ _=V.int (n2:Int)from A2f V.int e1];refine b7 (Bj ?_);intro r6 s6 k6 b8 E6;refine xq1 Z (xq1 Z ⟨l,ns,8,Z,L,by decide,(xq2 Z Z ⟨B3,?_⟩)⟩);refine⟨l,ns,0,atN ns 8%3,Z,L,by decide,by lia,by lia,λq2 r2 H2 fj e2 fh fg _ _=>?_⟩;refine b8 (xq1 Z ⟨_,_,Z,?_⟩);obtain⟨m2,de⟩:=J6 (show 0<=(if(6:Int)<(m1:Int)then(6:Int)else(m1:Int)) by split<;>lia);have m3:m2<=26:=by split at de<;>lia
   rw[show V.int (if(6:Int)<(m1:Int)then(6:Int)else(m1:Int))=V.int (m2:Int)from A2f V.int de];exact C _ _ ⟨q2,r2,n2,m2,Z,bf.trans fj,e2,fh,fg,e9,m3⟩
  .rintro σ' H5 a2;apply AT;intro G_ B;refine Cm a2 λq r n my ei dz ca ro M=>?_;refine xa2 M λre n8 dl=>?_;clear M;clear a2;subst ei;apply B;clear B G_;refine ew ?_;have aq:=dz.seq hS;clear L bf hS dg dt dr e8 di df dc dz;refine Bj ?_;intro r5 s5 k5 b7 E5;refine xq1 Z ⟨l,ns,10,Z,aq,by decide,_,Z,λX X1 X2=>?_⟩;refine b7 (Bj ?_);intro r6 s6 k6 b8 E6;refine xw3 Z Z Z (xq1 Z ⟨l,ns,11,Z,aq,by decide,_,Z,λY Y1 Y2=>?_⟩);refine⟨l,ns,13,X,Y,my,Z,aq,by decide,by lia,X1,X2,Y1,Y2,λD ds H6 d0 nD hD dd=>?_⟩;refine b8 (Bj ?_);intro r7 s7 k7 ex E7;have dk:=dd.dk;have bq:Bq r (stC ds) X Y:=⟨ro,re,λu v=>aG7 dd u v,aFE dd,⟨X1,X2⟩,Y1,Y2⟩
   have bb:∀c∈ds,UM c:=λc hc=>(dd.ok c hc).1.1;have dh:=dd.len;generalize stC ds=φ at dk bq;refine xq1 Z ⟨D,ds,Z,.inl hD,dk.nd,by lia,λo1 L1 d1 b1 H7 cl a7 fa a8 dq bc ef=>?_⟩;refine ex (Bj ?_);intro r8 s8 k8 ey E8;have sD:∀{H':Hp},FrO D H7 H'->Ay H5 H':=λ{H'} f b u e=>f _ _ (cl _ _ (d0 _ _ e) (As e nD)) (As e nD);refine xw2 Z Z ⟨by lia,by lia,?_⟩;rw[L8];refine Cc (n:=n) (λj σ H8=>∃(R:R_)(es:List Cl)(u7:Option V),σ=[o3 (.ref l),o3 (.ref q),o3 (.int (n:Int)),o3 (.int (my:Int)),o3 (.int X),o3 (.ref R),o3 (.ref L1),u7,o4,o4,o4,o4,o4,o4,o4,o4,o4]/\FrO D H7 H8/\Rd H8 R (.dT (kvC es))/\(R=D\/H7 R=o4)/\NY es (sFN r j φ)/\es.length<=500) ⟨D,ds,o4,Z,λb u e _=>e,.inr ⟨_,a7⟩,.inl Z,dk,by lia⟩ ?_ ?_
   .rintro j σ H8 hj O;apply AT;intro G_ B;refine BV O λR es u7 S ad be av M=>?_;refine xa M λah ba=>?_;clear M;clear O;subst S;apply B;clear B G_;refine xw2 Z Z ⟨H5,q,R,r,es,sFN r j φ,X-j,Y-j,5+2*j,4+2*j,Z,ca,ro,re,sD ad,?_,be,ah,bq.inb.step re j,ba,⟨by lia,by lia⟩,⟨by lia,by lia,by lia,by lia⟩,λD2 ej H9 a6 dm ep eg e7=>?_⟩
    .rcases av with e|e
     .rw[e];exact nD
     .exact Ay.noneOf (sD (λb u e _=>e)) e
    .refine⟨D2,ej,_,Z,λb u e n=>a6 _ _ (ad _ _ e n) ?_,.inl ep,?_,eg,e7⟩
     .rcases av with e'|e'
      .rw[e'];exact n
      .exact As e e'
     .by_cases z:D2=D
      .exact .inl z
      .refine .inr ?_;cases e:H7 D2 with
       |none=>rfl
       |some u=>rw[ad _ _ e z]at dm;cases dm
   rintro σ H8 O;apply AT;intro G_ B;refine BV O λR es u7 S ad be av M=>?_;refine xa M λah ba=>?_;clear M;clear O;subst S;apply B;clear B G_;refine ey (Bj ?_);intro r9 s9 k9 ez E9;refine xq1 Z ⟨R,es,Z,be,ah.nd,by lia,λo2 L2 d4 a3 H9 a6 _ fb ao bd cd cg=>?_⟩;have U:FrO D H7 H9:=λb u e n=>a6 _ _ (ad _ _ e n) (by
    rcases av with e'|e'
    .rw[e'];exact n
    .exact As e e')
   have ce:=sD U;have br:L1≠D:=λz=>by rw[z,a7]at a8;cases a8
   have an:=U _ _ a8 br;have aw:=PairedM.imp (λt c z=>U _ _ z λy=>by
    have z:=z;rw[y,a7]at z;cases z) dq
   have b2:=dk.perm bc;have a4:=ah.perm cd;have fc:=bq.clo n8 a4;have a9:a3.length<=500:=by rw[cd.length_eq];exact ba
   have g7:b1.length<=26:=by rw[bc.length_eq];lia
   replace bb:∀c∈b1,UM c:=λc hc=>bb c (bc.mem_iff.mp hc);have er:=ce.seq aq;have e3:=ca.same ce;clear U a6 ad be av ah ba cd bc dq a8 br a7 fa fb cl sD hD nD dd dk dh d0 aq ca ce dl X1 X2 Y1 Y2;refine ez (Bj ?_);intro g8 du gr cw ft;have ch:du=[o3 (.ref l),o3 (.ref q),o3 (.int (n:Int)),o3 (.int (my:Int)),o3 (.int X),o3 (.ref R),o3 (.ref L1),u7,o3 (.ref L2),o4,o4,o4,o4,o4,o4,o4,o4]:=rfl
   clear_value du
   subst ch;refine λx' b3 nx as cc=>⟨x',b3,Z,Af,λg d9 am N=>⟨Z,?_⟩⟩
   have ax:Ay H9 d9:=λb o e=>N.kp b o (by rw[Av (As e nx),Av (As e as)];exact e) (am▸As e nx);subst am;have bl:=AX.new N;have ng:=N.none;clear N nx as cc;refine cw (Bj ?_);intro g9 hs gs cx fw;refine xq1 Z ⟨q,r,Z,e3.same ax,ro,λgf ay=>⟨r,Z,ro,re,λpr gg az hR=>?_⟩⟩;have a1:=(ax.trans ay).trans az;have bm:=bl.same (ay.trans az);clear ax ay az bl;refine cx (Bj ?_);intro ha ht gt cy fy;refine xw2 Z Z (λp b4 np ar au=>aGJ (Κ:=Kg r [φ] 9) (N:=90000) (b:=1000) bm ro re hR np ar au (by rw[NO];decide) λea mem m bu bx bh _ _ _=>⟨Z,?_⟩);have ab:=a1.trans bu;have ag:Y8 a H9 ea g G0 (Kg r [φ] 9) 90000 1000 p b4 mem pr r m:=⟨bx,ab,ng,aDe ng λy hy=>Ay.noneN a1 (bh y hy)⟩
   clear bx bu a1 bm hR np ar au bh ng;refine cy (Bj ?_);intro hb hu gu cz fz;refine xw2 Z Z ⟨L1,(xq1 Z ⟨.inl (SqL.of (ab _ _ an)),λL3 n3=>?_⟩)⟩;have a0:=AM (o:=.lst (d1.map V.ref)) n3;have cf:=ag.same a0;have bt:=PairedM.imp (λt c z=>a0 _ _ (ab _ _ z)) aw;refine VI cf.zs.fu Af (Ap.new ag.zs.fu.at' n3) bt (.refl _) b2 bb A0 (by rw[NO];decide) λf1 G1 gh bi bn bp fv=>?_;have y1:=(cf.fr bi bn bp).mono (b':=20000) A6;clear ag ab cf a0 bt n3 bi bn bp;refine cz (Bj ?_);intro hd hv gv c0 f0;obtain⟨k2,c6⟩:=J6 (Int.emod_nonneg (atN ns 12/7) (by decide:(3:Int)≠0));have g6:k2<=2:=by have:=V8 (atN ns 12/7) (by decide:(0:Int)<3);lia
   refine xq1 Z ⟨l,ns,12,Z,y1.sm.seq er,by decide,(xq2 Z Z ⟨⟨by decide,by decide⟩,(xq2 Z Z ⟨B3,(k2:Int),A2f (λz=>[V.int z]) c6,by lia,by lia,?_⟩)⟩)⟩;rw[L8];refine Cc (n:=k2) (λi σ b0=>∃(G2:Gv)(j:Nat)(u7:Option V),σ=[o3 (.ref l),o3 (.ref q),o3 (.int (n:Int)),o3 (.int (my:Int)),o3 (.int X),o3 (.ref R),o3 (.ref L1),u7,o3 (.ref L2),o3 (.ref g.p),o3 (.ref pr),o3 (.ref p),o3 (.int (f1:Int)),o4,o4,o4,o4]/\Y8 a H9 b0 g G2 (Kg r [φ] 9) 90000 (20000+12048*i) p b4 mem pr r m/\Fv G2 f1 φ) ⟨G1,0,u7,Z,y1,fv⟩ ?_ ?_
   .intro i σ b0 hi d7;refine CL d7 λG2 j af S y2 G=>?_;clear d7;subst S;refine xw3 Z Z Z (xq2 Z Z ⟨⟨by decide,by decide⟩,(xq1 Z (xq2 Z Z ?_))⟩);rw[show(λi j:Int=>V.int (i+j)) _ _=V.int ((n/2+i:Nat):Int)from A2f V.int (show(n:Int)/2+(0+(i:Int))=((n/2+i:Nat):Int) by lia)];exact bq.jump y2 (t:=0) A0 G A0 λd G' H' i' y' en _=>⟨G',0,_,Z,y',G.app y2.zs.fu.ok en⟩
   intro σ b0 a2;refine CL a2 λG2 j af S y2 G=>?_;clear a2;subst S;replace y2:=y2.mono (b':=50000) A0;refine c0 (Bj ?_);intro he hw gw c1 f5;refine xw3 Z Z Z (bq.jump y2 (t:=0) A0 G A6 λd G3 gi i3 y3 ct fd=>?_);replace G:=G.app y2.zs.fu.ok ct;replace y3:=y3.mono (b':=70000) A6;clear y2 ct y1 fv;refine c1 (Bj ?_);intro hf dv gx c2 f6;have ci:dv=[o3 (.ref l),o3 (.ref q),o3 (.int (n:Int)),o3 (.int (my:Int)),o3 (.int X),o3 (.ref R),o3 (.ref L1),af,o3 (.ref L2),o3 (.ref g.p),o3 (.ref pr),o3 (.ref p),o3 (.int (f1:Int)),o3 (.int (d:Int)),o4,o4,o4]:=rfl
   clear_value dv
   subst ci;refine xq1 Z ⟨_,_,_,.type "int",o5,Z,Z,.of (.int d),(Rg K).1,o5,Z,Bc (xq1 Z ⟨_,_,_,.type "int",o6,Z,Z,.of (.int d),(Rg K).2,o6,Z,Bc ?_⟩)⟩;refine c2 (Bj ?_);intro hg hz gy c3 f7;refine xw2 Z Z (bq.told y3 A6 fd a4 cg a9 ao bd λL4 fk gj y4 h4 cu p4 dn=>?_);refine xq1 Z ⟨L4,L2,fk,d4,a3,Z,h4,cu,p4,dn,a9,o5,Z,Bc ?_⟩;refine xw2 Z Z (bq.told y4 A6 G b2 ef A0 an aw λL5 fl gk y5 h5 cv p5 dp=>?_);refine xq1 Z ⟨L5,L1,fl,d1,b1,Z,h5,cv,p5,dp,by lia,o5,Z,Bc ?_⟩;clear y3 y4 h4 cu p4 dn h5 cv p5 dp;refine c3 (Bj ?_);intro hh h0 gz c4 f8;refine xw2 Z Z (bq.jump y5 (t:=n) A0 fd A6 λd' G4 gl i4 y6 b6 _=>?_);replace G:=G.app y5.zs.fu.ok b6;replace fd:=fd.app y5.zs.fu.ok b6;replace y6:=y6.mono (b':=90000) A6;clear y5 b6;refine c4 (Bj ?_);intro hk dw e4 c5 f9;have cj:dw=[o3 (.ref l),o3 (.ref q),o3 (.int (n:Int)),o3 (.int (my:Int)),o3 (.int X),o3 (.ref R),o3 (.ref L1),af,o3 (.ref L2),o3 (.ref g.p),o3 (.ref pr),o3 (.ref p),o3 (.int (f1:Int)),o3 (.int (d:Int)),o4,o4,o4]:=rfl
   clear_value dw
   subst cj;apply Rb (T:=e4) (fun σ' H'=>∃G5,σ'=[o3 (.ref l),o3 (.ref q),o3 (.int (n:Int)),o3 (.int (my:Int)),o3 (.int X),o3 (.ref R),o3 (.ref L1),af,o3 (.ref L2),o3 (.ref g.p),o3 (.ref pr),o3 (.ref p),o3 (.int (f1:Int)),o3 (.int (d:Int)),o4,o4,o4]/\Y8 a H9 H' g G5 (Kg r [φ] 9) 90000 110000 p b4 mem pr r m/\Fv G5 f1 φ/\Fv G5 d (sFN r n φ))
   .intro C;refine xq1 Z ⟨L2,(xq1 Z ⟨.inl (SqL.of (y6.sm _ _ ao)),(xq2 Z Z (xq1 Z (Jl (λhc=>?_) (λ_=>Bc (C _ _ ⟨G4,Z,y6.mono A6,G,fd⟩)))))⟩)⟩;have e6:a3.length<=40:=by
     have:=A2b hc;rw[B8,A1e bd]at this;lia
    have cb:∀x∈Dl g,L2≠x:=λx hx z=>by
     have:=y6.ng x hx;rw[<-z,ao]at this;cases this
    refine xw2 Z Z (VI y6.zs.fu (y6.sm _ _ ao) ⟨cb _ (by simp[Dl]),cb _ (by simp[Dl]),cb _ (by simp[Dl])⟩ (PairedM.imp (λt c z=>y6.sm _ _ z) bd) (.refl _) a4 fc e6 (F7 (y6.zs.jz.sz bq.fin) A6) λf2 G5 ac cm aj ak cp=>?_);obtain⟨r0,e0⟩:=aj.g0;have a5:=fd.app y6.zs.fu.ok ak;have e:=Fv.eq e0 aj.ok cp a5 λ_ _=>Z;subst e;exact xq1 Z ⟨Z,(xq1 Z (ML Z (C _ _ ⟨G5,Z,(y6.fr cm aj ak).mono A6,G.app y6.zs.fu.ok ak,a5⟩)))⟩
   .intro σ' ac O;refine Dh O λG5 b5 y7 em a5=>?_;clear O;subst b5;clear y6 G fd;refine c5 (Bj ?_);intro hl h1 g1 c7 ga;refine λx' b3 nx as cc=>⟨x',b3,Z,Af,λg2 eb am N=>⟨Z,?_⟩⟩
    have bv:Ay ac eb:=λb o e=>N.kp b o (by rw[Av (As e nx),Av (As e as)];exact e) (am▸As e nx);subst am;have I:=AX.new N;have ng:=N.none;clear N nx as cc;refine c7 (Bj ?_);intro hm h2 g3 c8 gb;refine xq1 Z ⟨g2.p,g2.dx,_,Z,I.at'.hp,aBj g2,g2,G0,3,5,Z,I.at',I.ok,by decide,by decide,by rw[NO];decide,λn3 G6 ec ai bg al _=>?_⟩;have bo:=I.fr ai bg al;have ae:∀{b:R_}{o:HO},ac b=o3 o->∀x∈Dl g2,b≠x:=λ{b o} e x hx z=>by
     have:=ng x hx;rw[<-z,e]at this;cases this
    have aa:Ay ac ec:=λb o e=>ai b o (bv b o e) (ae e _ (by simp[Dl])) (ae e _ (by simp[Dl])) (ae e _ (by simp[Dl]));have l6:G6.length<=1000:=by
     have:=al.few;rw[NO]at this;lia
    clear ai bg al I bv;refine c8 (Bj ?_);intro hn h3 g4 c9 gc;refine xw2 Z Z (λp2 eh np ar au=>aGJ (Κ:=Kg r [φ] 9) (N:=90000) (b:=1000) bo ro re (y7.zs.jz.jw.ru.same aa) np ar au l6 λed dj m2 bw bz bj _ _ _=>⟨Z,?_⟩);have y8:Y8 a ac ed g2 G6 (Kg r [φ] 9) 90000 1000 p2 eh dj pr r m2:=⟨bz,aa.trans bw,ng,aDe ng λy hy=>Ay.noneN aa (bj y hy)⟩
    clear bz aa bw bo np ar au bj ng l6;refine c9 (Bj ?_);intro ho dy e5 da gd;have ck:dy=[o3 (.ref l),o3 (.ref q),o3 (.int (n:Int)),o3 (.int (my:Int)),o3 (.int X),o3 (.ref R),o3 (.ref L1),af,o3 (.ref L2),o3 (.ref g.p),o3 (.ref pr),o3 (.ref p),o3 (.int (f1:Int)),o3 (.int (d:Int)),o3 (.ref g2.p),o3 (.ref p2),o4]:=rfl
    clear_value dy
    subst ck;apply Rb (T:=e5) (fun σ' H'=>∃d5,σ'=[o3 (.ref l),o3 (.ref q),o3 (.int (n:Int)),o3 (.int (my:Int)),o3 (.int X),o3 (.ref R),o3 (.ref L1),af,o3 (.ref L2),o3 (.ref g.p),o3 (.ref pr),o3 (.ref p),o3 (.int (f1:Int)),o3 (.int (d:Int)),o3 (.ref g2.p),o3 (.ref p2),d5]/\Ay ac H')
    .intro C;refine xq1 Z (xq2 Z Z (xq1 Z (Jl (λ_=>?_) (λ_=>C _ _ ⟨o4,Z,y8.sm⟩))));have W:=y7.sm _ _ an;refine Bj ?_;intro hq h7 g5 db ge;refine xw3 Z Z Z (VI y8.zs.fu (y8.sm _ _ W) ⟨ae W _ (by simp[Dl]),ae W _ (by simp[Dl]),ae W _ (by simp[Dl])⟩ (PairedM.imp (λt c z=>y8.sm _ _ (y7.sm _ _ z)) aw) (.refl _) b2 bb A0 (F7 (y8.zs.jz.sz bq.fin) A6) λf3 G7 gm cn co cs cq=>?_);have y9:=(y8.fr cn co cs).mono (b':=20000) A6;refine xq1 Z (bq.jump y9 (t:=0) A0 cq A6 λd2 G8 gn i5 fn _ ek=>?_);refine db (xw2 Z Z (bq.told fn A6 ek a4 cg a9 (y7.sm _ _ ao) (PairedM.imp (λt c z=>y7.sm _ _ z) bd) λL6 fm go fo h6 eo p6 ff=>?_));exact xq1 Z ⟨L6,L2,fm,d4,a3,Z,h6,eo,p6,ff,a9,o5,Z,Bc (C _ _ ⟨_,Z,fo.sm⟩)⟩
    .intro σ' gp d8;refine xea d8 λd5 b5 fi=>?_;clear d8;subst b5;refine da ?_;have d6:=y7.same fi;refine xw3 Z Z Z (bq.jump d6 (t:=0) A0 em A6 λd3 G9 ee i6 ag cr el=>?_);obtain⟨r0,e0⟩:=ag.zs.fu.g0;have e:=Fv.eq e0 ag.zs.fu.ok el (a5.app d6.zs.fu.ok cr) λ_ _=>Z;subst e;refine xq1 Z ⟨Z,?_⟩;rw[A0d rfl];exact kq ee
end
end J
namespace J
open PySem L2
theorem ar1{α:Type}:∀us:List α,us.length=1->∃a,us=[a]
|[a],_=>⟨a,Z⟩
theorem ar2{α:Type}:∀us:List α,us.length=2->∃a b,us=[a,b]
|[a,b],_=>⟨a,b,Z⟩
theorem ar3{α:Type}:∀us:List α,us.length=3->∃a b c,us=[a,b,c]
|[a,b,c],_=>⟨a,b,c,Z⟩
theorem ar4{α:Type}:∀us:List α,us.length=4->∃a b c d,us=[a,b,c,d]
|[a,b,c,d],_=>⟨a,b,c,d,Z⟩
theorem ar5{α:Type}:∀us:List α,us.length=5->∃a b c d e,us=[a,b,c,d,e]
|[a,b,c,d,e],_=>⟨a,b,c,d,e,Z⟩
structure Fg(K:O_)(x:Str)(st:Stmt)(f:R_)(fd:E_):Prop where
at_:W.nsIn K mainGlobals x=o3 (o3 (.ref f))
fn:Fun K x x st f fd
structure Fm(K:O_)(C:R_)(m q:Str)(st:Stmt)(f:R_)(fd:E_):Prop where
me:Qs K C m f
fn:Fun K m q st f fd
structure Fi(K:O_)(C:R_)(q:Str)(st:Stmt)(f:R_)(fd:E_):Prop where
mk_:Mk K C f
fn:Fun K "__init__" q st f fd
theorem bnd{K:O_}{x q:Str}{st:Stmt}{f:R_}{i:E_}{e:K_}(F:Fun K x q st f i)(h:∀(kV d m:S_)(k:Option Addr)(c l:S_)(us:F_),us.length=e.length->bindArgs (W.fnOf x q (MT st) (Ly st) (Ah st) .none kV d m k c l) ⟨us,[]⟩=pure (e.zip us):=by intro _ _ _ _ _ _ us a;first|(obtain⟨b,rfl⟩:=ar1 us a;exact rfl)|(obtain⟨b,g,rfl⟩:=ar2 us a;exact rfl)|(obtain⟨b,g,j,rfl⟩:=ar3 us a;exact rfl)|(obtain⟨b,g,j,n,rfl⟩:=ar4 us a;exact rfl)|(obtain⟨b,g,j,n,o,rfl⟩:=ar5 us a;exact rfl)):CM K i e []:=F.binds h
theorem fin{l:W.OpenLaw}{w:Q_}{K:O_}{h:T_}{mg:C_}{fa:R_}(X:K.In h)(G:h.Ns mainGlobals mg)(jq:mg "law" = o3 (.ref fa))
  {j:R_} {r:R_} {n:R_} {a:R_} {O:R_} {g:R_} {f0:R_} {d0:E_} {f1:R_} {d1:E_} {f2:R_} {d2:E_} {f3:R_} {d3:E_} {f4:R_} {d4:E_} {f5:R_} {d5:E_} {f6:R_} {d6:E_} {f7:R_} {d7:E_} {f8:R_} {d8:E_} {f9:R_} {d9:E_} {hh:R_} {ek:E_} {hi:R_} {el:E_} {hj:R_} {em:E_} {hk:R_} {en:E_} {hl:R_} {eo:E_} {hm:R_} {ep:E_} {hn:R_} {er:E_} {ho:R_} {es:E_} {hp:R_} {et:E_} {hq:R_} {eu:E_} {hr:R_} {ev:E_} {hs:R_} {ew:E_} {ht:R_} {ey:E_} {hu:R_} {ez:E_} {hv:R_} {e0:E_} {hw:R_} {e1:E_} {hx:R_} {e2:E_} {hy:R_} {e3:E_} {hz:R_} {e4:E_} {h0:R_} {e5:E_} {h1:R_} {e6:E_} {h2:R_} {e7:E_} {h3:R_} {e8:E_} {h4:R_} {e9:E_} {h5:R_} {fb:E_} {h6:R_} {fc:E_} {h7:R_} {fe:E_} {h8:R_} {ff:E_} {h9:R_} {fg:E_} {ia:R_} {fh:E_} {ib:R_} {fi:E_} {ic:R_} {fj:E_} {ie:R_} {fk:E_} {ig:R_} {fl:E_} {ih:R_} {fm:E_} {ii:R_} {fo:E_} {ij:R_} {fp:E_} {ik:R_} {ft:E_} {il:R_} {fu:E_} {im:R_} {fv:E_} {io:R_} {fw:E_} {ip:R_} {fy:E_} {iq:R_} {fz:E_} {ir:R_} {ga:E_} {is:R_} {gb:E_} {it:R_} {gc:E_} {iu:R_} {gd:E_} {iv:R_} {ej:E_} {ix:R_} {gf:E_} {iz:R_} {gh:E_} {i1:R_} {gj:E_} {i3:R_} {gl:E_} {i4:R_} {gm:E_} {i5:R_} {gn:E_} {i6:R_} {go:E_} {i7:R_} {gp:E_} {i8:R_} {gq:E_} {i9:R_} {gr:E_} {ja:R_} {gs:E_} {jb:R_} {gt:E_} {jc:R_} {gu:E_} {jd:R_} {gv:E_} {je:R_} {gw:E_} {jh:R_} {gz:E_} {ji:R_} {ha:E_} {jj:R_} {hb:E_} {jk:R_} {hc:E_} {jm:R_} {hd:E_} {jn:R_} {he:E_} {jo:R_} {hf:E_} {jp:R_} {hg:E_} {iw:R_} {ge:E_} {iy:R_} {gg:E_} {i0:R_} {gi:E_} {i2:R_} {gk:E_} {jf:R_} {gx:E_} {jg:R_} {gy:E_} {a8:Tok} {S:Tok} {B:Tok} {D:Str} {u:Tok} {y:Str} {al:Tok} {am:Str} {af:Tok} {be:Tok} {M:Tok} {R:Tok} {L:Tok} {N:Str} {E:Tok}
  (dG:W.nsIn K mainGlobals "Amounts" = o3 (o3 (.ref j)))
  (dH:W.nsIn K mainGlobals "Places" = o3 (o3 (.ref r)))
  (dJ:W.nsIn K mainGlobals "Clause" = o3 (o3 (.ref n)))
  (dO:W.nsIn K mainGlobals "Grove" = o3 (o3 (.ref a)))
  (dP:W.nsIn K mainGlobals "Rule" = o3 (o3 (.ref O)))
  (dN:W.nsIn K mainGlobals "Jumps" = o3 (o3 (.ref g)))
  (az:Cls K j)
  (a5:Cls K r)
  (a4:Cls K n)
  (i:Cls K a)
  (bq:Cls K O)
  (t:Cls K g)
  (ab:findIn K (.ref j) "state" = o3 o4)
  (P:findIn K (.ref j) "numbers" = o3 o4)
  (ae:findIn K (.ref r) "wanted" = o3 o4)
  (aq:findIn K (.ref n) "cell" = o3 o4)
  (H:findIn K (.ref n) "conditions" = o3 o4)
  (ai:findIn K (.ref n) "makes" = o3 o4)
  (aj:findIn K (.ref a) "levels" = o3 o4)
  (au:findIn K (.ref a) "parts" = o3 o4)
  (ad:findIn K (.ref a) "numbers" = o3 o4)
  (ar:findIn K (.ref a) "bares" = o3 o4)
  (ac:findIn K (.ref a) "amounts" = o3 o4)
  (as:findIn K (.ref a) "boxes" = o3 o4)
  (a2:findIn K (.ref O) "text" = o3 o4)
  (ak:findIn K (.ref O) "clauses" = o3 o4)
  (av:findIn K (.ref g) "grove" = o3 o4)
  (V:findIn K (.ref g) "memories" = o3 o4)
  (ay:findIn K (.ref g) "rule" = o3 o4)
  (A:findIn K (.ref g) "known_squares" = o3 o4)
  (I:findIn K (.ref g) "known_cells" = o3 o4)
  (g0:Fg K "is_whole" LT f0 d0)
  (g1:Fg K "is_state" LU f1 d1)
  (g2:Fg K "takes" RT f2 d2)
  (g3:Fg K "read_clause" ER f3 d3)
  (g4:Fg K "read_state" IL f4 d4)
  (g5:Fg K "read_wanted" GX f5 d5)
  (g6:Fg K "read_condition" EB f6 d6)
  (g7:Fg K "read_amounts" FT f7 d7)
  (g8:Fg K "read_numbers" FS f8 d8)
  (g9:Fg K "read_places" EQ f9 d9)
  (bu:Fg K "shifted_box" GW hh ek)
  (bv:Fg K "least_box" Do hi el)
  (bw:Fg K "lies_within" GY hj em)
  (bx:Fg K "reach_of" LS hk en)
  (bz:Fg K "bare_field" IO hl eo)
  (b0:Fg K "widened" Ni hm ep)
  (b1:Fg K "trimmed" Nj hn er)
  (b2:Fg K "middle_of" GH ho es)
  (b3:Fg K "is_bare_around" EC hp et)
  (b4:Fg K "widened_over" FR hq eu)
  (b5:Fg K "widened_to" IJ hr ev)
  (ca:Fg K "planted" Nk hs ew)
  (bh:Fg K "replaced" LR ht ey)
  (cb:Fg K "field_of" LW hu ez)
  (cc:Fg K "by_rows" Nl hv e0)
  (cd:Fg K "cells_of" LY hw e1)
  (bi:Fg K "gather_cells" FU hx e2)
  (ce:Fg K "box_of" Pl hy e3)
  (cf:Fg K "jump" Vb hz e4)
  (cg:Fg K "road" Va h0 e5)
  (ch:Fg K "check_leap" IN h1 e6)
  (ci:Fg K "level_for" JI h2 e7)
  (cj:Fg K "clause_texts" FV h3 e8)
  (ck:Fg K "read_rule" JH h4 e9)
  (cl:Fg K "deciding" LX h5 fb)
  (cm:Fg K "becomes" Nm h6 fc)
  (cn:Fg K "shown_rule" IK h7 fe)
  (co:Fg K "nine_parts" IM h8 ff)
  (cp:Fg K "fours_of" LV h9 fg)
  (cq:Fg K "met_in_the_middle" DD ia fh)
  (cr:Fg K "_law_at" Nn ib fi)
  (cs:Fg K "_law_mix" LZ ic fj)
  (ct:Fg K "_law_state_by" Fo ie fk)
  (cu:Fg K "_law_condition_by" CG ig fl)
  (cv:Fg K "_law_clause_by" ED ih fm)
  (cw:Fg K "_law_holds" IQ ii fo)
  (cx:Fg K "_law_decides" FW ij fp)
  (cy:Fg K "_law_becomes" FY ik ft)
  (cz:Fg K "_law_clauses_by" En il fu)
  (c0:Fg K "_law_word" Fb im fv)
  (c1:Fg K "_law_text" GI io fw)
  (c2:Fg K "_law_by_rows" FX ip fy)
  (c3:Fg K "_law_listed" GZ iq fz)
  (c4:Fg K "_law_step" DZ ir ga)
  (c5:Fg K "_law_cells_by" Fp is gb)
  (c6:Fg K "_law_base" JJ it gc)
  (c7:Fg K "_law_right" IP iu gd)
  (c8:Fg K "law" ZM iv ej)
  (da:Fm K j "holds" "Amounts.holds" Fq ix gf)
  (dc:Fm K r "holds" "Places.holds" Eo iz gh)
  (de:Fm K n "fits" "Clause.fits" ET i1 gj)
  (dg:Fm K a "kept" "Grove.kept" IU i3 gl)
  (dh:Fm K a "linked" "Grove.linked" Ga i4 gm)
  (di:Fm K a "check_square" "Grove.check_square" Dq i5 gn)
  (dj:Fm K a "leaf" "Grove.leaf" IT i6 go)
  (dl:Fm K a "solid" "Grove.solid" Ic i7 gp)
  (dm:Fm K a "level_of" "Grove.level_of" EF i8 gq)
  (dn:Fm K a "state_of" "Grove.state_of" EE i9 gr)
  (dp:Fm K a "living" "Grove.living" FZ ja gs)
  (bj:Fm K a "counted" "Grove.counted" DO jb gt)
  (dq:Fm K a "span" "Grove.span" IS jc gu)
  (bl:Fm K a "boxed" "Grove.boxed" ES jd gv)
  (dr:Fm K a "measured" "Grove.measured" Dx je gw)
  (du:Fm K g "change" "Jumps.change" Ep jh gz)
  (dv:Fm K g "after" "Jumps.after" Ib ji ha)
  (dw:Fm K g "check_jump" "Jumps.check_jump" DR jj hb)
  (bm:Fm K g "reckoned" "Jumps.reckoned" Dw jk hc)
  (dx:Fm K g "fresh" "Jumps.fresh" Cw jm hd)
  (dy:Fm K g "four_halfway" "Jumps.four_halfway" Bv jn he)
  (dz:Fm K g "middle_after" "Jumps.middle_after" Dp jo hf)
  (ea:Fm K g "cell_after" "Jumps.cell_after" CN jp hg)
  (c9:Fi K j "Amounts.__init__" Gb iw ge)
  (db:Fi K r "Places.__init__" Ia iy gg)
  (dd:Fi K n "Clause.__init__" Id i0 gi)
  (df:Fi K a "Grove.__init__" IV i2 gk)
  (ds:Fi K O "Rule.__init__" GJ jf gx)
  (dt:Fi K g "Jumps.__init__" IR jg gy)
  (eb:W.nsIn K mainGlobals "all" = o3 o4)
  (br:W.nsIn K mainGlobals "bool" = o3 o4)
  (bc:W.nsIn K mainGlobals "enumerate" = o3 o4)
  (ec:W.nsIn K mainGlobals "int" = o3 o4)
  (a3:W.nsIn K mainGlobals "isinstance" = o3 o4)
  (ed:W.nsIn K mainGlobals "len" = o3 o4)
  (bt:W.nsIn K mainGlobals "list" = o3 o4)
  (ee:W.nsIn K mainGlobals "max" = o3 o4)
  (ef:W.nsIn K mainGlobals "min" = o3 o4)
  (bo:W.nsIn K mainGlobals "range" = o3 o4)
  (bg:W.nsIn K mainGlobals "sorted" = o3 o4)
  (eg:W.nsIn K mainGlobals "str" = o3 o4)
  (eh:W.nsIn K mainGlobals "sum" = o3 o4)
  (bp:W.nsIn K mainGlobals "tuple" = o3 o4)
  (ei:W.nsIn K mainGlobals "zip" = o3 o4)
  (bf:W.nsIn K mainGlobals "STATES" = o3 (o3 (.int 8 a8)))
  (a1:W.nsIn K mainGlobals "NEIGHBOURS" = o3 (o3 (.int 8 S)))
  (ah:W.nsIn K mainGlobals "STATE_FIGURES" = o3 (o3 (.str D B)))
  (aa:D=Str.ofString "01234567")
  (Y:W.nsIn K mainGlobals "AMOUNT_FIGURES" = o3 (o3 (.str y u)))
  (U:y=Str.ofString "012345678")
  (bd:W.nsIn K mainGlobals "ANY_SIGN" = o3 (o3 (.str am al)))
  (bb:am=Str.ofString "*")
  (ba:W.nsIn K mainGlobals "TOP_LEVEL" = o3 (o3 (.int 48 af)))
  (bn:W.nsIn K mainGlobals "LIMIT" = o3 (o3 (.int 1099511627776 be)))
  (ax:W.nsIn K mainGlobals "LEAST_LEVEL" = o3 (o3 (.int 1 M)))
  (a0:W.nsIn K mainGlobals "MOST_CELLS" = o3 (o3 (.int 4096 R)))
  (aw:W.nsIn K mainGlobals "CLAUSE_MARK" = o3 (o3 (.str N L)))
  (ao:N=Str.ofString "; ")
  (an:W.nsIn K mainGlobals "LEAST_JUMPED" = o3 (o3 (.int 2 E)))
  : ∃fd:FuncData,(∀(s:P_)(v:S_),BindsTo s fd ⟨[v],[]⟩ [("_law_script",v)])/\∀Q:Heap,K.In Q->Q.Ns mainGlobals mg->AL l.prog w K mg Q CX0 152 fa fd ["_law_script"] (Wi K):=by
 have e:=jq.symm.trans (A2d X G c8.at_);cases e;have no:∀{x:Str},W.nsIn K mainGlobals x=o3 o4->mg x=o4:=λz=>W.mg_none_of X G z;subst ao;subst bb;subst U;subst aa;have T:Top K mg (⟨j,r,n,a,O,g⟩:Ad):=⟨no eb,no br,no bc,no ec,no a3,no ed,no bt,no ee,no ef,no bo,no bg,no eg,no eh,no bp,no ei,⟨a8,A2d X G bf⟩,⟨S,A2d X G a1⟩,⟨B,A2d X G ah⟩,⟨u,A2d X G Y⟩,⟨al,A2d X G bd⟩,⟨af,A2d X G ba⟩,⟨be,A2d X G bn⟩,⟨M,A2d X G ax⟩,⟨R,A2d X G a0⟩,⟨L,A2d X G aw⟩,⟨E,A2d X G an⟩,A2d X G dG,az,ab,P,A2d X G dH,a5,ae,A2d X G dJ,a4,aq,H,ai,A2d X G dO,i,aj,au,ad,ar,ac,as,A2d X G dP,bq,a2,ak,A2d X G dN,t,av,V,ay,A,I⟩
 refine⟨ej,λs v=>(by obtain⟨_,_,_,_,_,_,_,_,_,rfl,_⟩:=c8.fn.ex;exact .of_eq Z),λQ _ _=>?_⟩;have d:∀{CX:CXT}{k:Nat}{x:Str}{st:Stmt}{f:R_}{fd:E_}{ps:K_}{sp:Sp},Fg K x st f fd->AL l.prog w K mg Q CX k f fd ps sp->CM K fd ps []->Cal l.prog w K mg Q CX k x ps sp:=λF o b=>⟨_,_,o,A2d X G F.at_,F.fn.kp,b⟩
 have p:∀{CX:CXT}{k:Nat}{C:R_}{x q:Str}{st:Stmt}{f:R_}{fd:E_}{ps:K_}{sp:Sp},Fm K C x q st f fd->Cls K C->AL l.prog w K mg Q CX k f fd ps sp->CM K fd ps []->BR l.prog w K mg Q CX k C x ps sp:=λF c o b=>⟨⟨_,_,o,F.me,b⟩,c⟩
 have ag:∀{CX:CXT}{k:Nat}{C:R_}{x q:Str}{st:Stmt}{f:R_}{fd:E_}{ps:K_}{sp:Sp},Fi K C q st f fd->mg x=o3 (.ref C)->AL l.prog w K mg Q CX k f fd ps sp->CM K fd ps []->SU l.prog w K mg Q CX k x C ps sp:=λF m o b=>⟨_,_,o,F.mk_,m,b⟩
 have aD:=d g0 (aGX g0.fn T) (bnd g0.fn);have bB:=d g1 (aGW g1.fn T aD) (bnd g1.fn);have aR:=p dg i (aCc dg.fn T) (bnd dg.fn);have dA:=ag df T.aCM (aBr df.fn T aR) (bnd df.fn)
 have a6:=p dh i (aCe dh.fn T aR) (bnd dh.fn);have a9:=p di i (aEU di.fn T aD) (bnd di.fn);have aT:=p bj i (aBp bj.fn T bj.me (bnd bj.fn) 49) (bnd bj.fn);have bN:=p dp i (aEc dp.fn T a9 aT) (bnd dp.fn);have aK:=p dj i (aCd dj.fn T bB) (bnd dj.fn);have a7:=p dm i (aEa dm.fn T a9) (bnd dm.fn);have cA:=p dl i (ZY dl.fn T aD aK a6) (bnd dl.fn);have aJ:=p dn i (aEn dn.fn T a7) (bnd dn.fn);have aM:=d bu (ZZ bu.fn T) (bnd bu.fn);have b8:=d bv (aBu bv.fn T) (bnd bv.fn);have b6:=p bl i (aBn bl.fn dr.fn T bl.me (bnd bl.fn) dr.me (bnd dr.fn) aM b8 49) (bnd bl.fn);have cE:=p dq i (aCk dq.fn T a9 b6) (bnd dq.fn);have aN:=d bw (aEb bw.fn T) (bnd bw.fn);have aC:=d bx (aBx bx.fn T a7) (bnd bx.fn);have bI:=d b0 (aEp b0.fn T a7 a6) (bnd b0.fn);have cM:=d b2 (aEh b2.fn T a6) (bnd b2.fn);have bC:=d b3 (aGN b3.fn T) (bnd b3.fn);have aX:=d b1 (aCl b1.fn T a7 bC cM) (bnd b1.fn);have bO:=d b4 (aGi b4.fn T aN aC bI) (bnd b4.fn);have aY:=d bz (aBm bz.fn T) (bnd bz.fn);have bP:=d bh (aBy bh.fn T (A2d X G bh.at_) (bnd bh.fn) aK a6 50) (bnd bh.fn);have cV:=d ca (aBv ca.fn T aN bB aC bO bP aX) (bnd ca.fn);have bT:=d cb (aEX cb.fn T aY cV) (bnd cb.fn);have cW:=d cc (aCi cc.fn T) (bnd cc.fn);have aW:=d bi (aDf bi.fn T (A2d X G bi.at_) (bnd bi.fn) aJ 50) (bnd bi.fn);have bV:=d cd (aEV cd.fn T bN aC aW cW) (bnd cd.fn);have dC:=d ce (aBo ce.fn T cE aC aM) (bnd ce.fn);have cR:=d g2 (ZX g2.fn) (bnd g2.fn);have cX:=ag c9 T.aAY (Yt c9.fn T) (bnd c9.fn)
 have dD:=ag db T.aBW (Yr db.fn T) (bnd db.fn)
 have dE:=ag dd T.aBV (Ys dd.fn T) (bnd dd.fn)
 have cY:=p da az (Vh da.fn T) (bnd da.fn);have dB:=p dc a5 (Vg dc.fn T cR) (bnd dc.fn);have cB:=p de a4 (aCX de.fn T cR cY dB) (bnd de.fn);have cT:=d cl (aEW cl.fn T cB) (bnd cl.fn);have bJ:=d cm (aEQ cm.fn T cT) (bnd cm.fn);have aO:=d g4 (aGc g4.fn T) (bnd g4.fn);have aU:=d g5 (aGe g5.fn T aO) (bnd g5.fn);have bQ:=d g8 (aGa g8.fn T) (bnd g8.fn);have bS:=d g7 (aEj g7.fn T aO bQ cX) (bnd g7.fn);have cC:=d g9 (aEm g9.fn T aU dD) (bnd g9.fn);have bA:=d g6 (aBw g6.fn T bS cC) (bnd g6.fn);have cD:=d g3 (aGY g3.fn T aO aU bA dE) (bnd g3.fn);have bU:=d cj (aGT cj.fn T) (bnd cj.fn);have dM:=ag ds T.aEP (aGZ ds.fn T bU cD) (bnd ds.fn)
 have cL:=d ck (aGb ck.fn T dM bJ) (bnd ck.fn);have cG:=d cn (aCj cn.fn T) (bnd cn.fn);have bK:=p du t (aET du.fn T cG) (bnd du.fn);have cZ:=ag dt T.aCN (aBt dt.fn T bK) (bnd dt.fn)
 have aI:=p ea t (aES ea.fn T aJ aK bJ) (bnd ea.fn);have aG:=p dz t (aCf dz.fn T a6 aI) (bnd dz.fn);have aP:=d co (aCg co.fn T a6) (bnd co.fn);have aS:=d cp (aBq cp.fn T) (bnd cp.fn);have aH:=d cq (aEg cq.fn T a6) (bnd cq.fn);have aF:=p bm t (Ww bm.fn dy.fn dx.fn T bm.me (bnd bm.fn) dy.me (bnd dy.fn) dx.me (bnd dx.fn) aG a6 aP aS aH 46) (bnd bm.fn);have b7:=p dw t (aGP dw.fn T a7 aD) (bnd dw.fn);have bZ:=p dv t (Yq dv.fn T A6 b7 aF) (bnd dv.fn);have cH:=d ch (aCa ch.fn T aD dC aN) (bnd ch.fn);have cN:=d ci (aEe ci.fn T aC) (bnd ci.fn);have cF:=d b5 (aGj b5.fn T a7 bI) (bnd b5.fn);have dL:=d cg (aEk cg.fn T cH aY cN cF bZ aX) (bnd cg.fn);have cS:=d cf (aEY cf.fn T dL aX) (bnd cf.fn);have aB:=d cr (aGM cr.fn T) (bnd cr.fn);have aE:=d cs (aEi cs.fn) (bnd cs.fn);have aA:=d ct (aGf ct.fn) (bnd ct.fn);have aZ:=d cu (aGR cu.fn T aE aA) (bnd cu.fn);have bD:=d cv (aGQ cv.fn T aE aA aZ) (bnd cv.fn);have cJ:=d cw (aGV cw.fn T) (bnd cw.fn);have bW:=d cx (aGU cx.fn T cJ) (bnd cx.fn);have aQ:=d cy (aGO cy.fn T bW) (bnd cy.fn);have aV:=d cz (aGS cz.fn T aB bD aQ) (bnd cz.fn);have cO:=d c0 (aGh c0.fn T) (bnd c0.fn);have cP:=d c1 (aGg c1.fn T cO) (bnd c1.fn);have bX:=d c2 (aEl c2.fn T) (bnd c2.fn);have bF:=d c3 (aEd c3.fn T bX) (bnd c3.fn);have bY:=d c6 (aCY c6.fn T) (bnd c6.fn);have bH:=d c5 (aER c5.fn T aB aE aA) (bnd c5.fn);have cQ:=d c4 (aEo c4.fn T aQ) (bnd c4.fn);have b9:=d c7 (aGd c7.fn T) (bnd c7.fn);exact aEZ c8.fn T dA aB aV cP cL bY bH bF cQ bT cZ cS bV b9 cA
theorem walk{l:W.OpenLaw}{q:N_}{c:K_}{m:(Str->Option Value)->Heap->Prop}{g:World->Heap->Prop}{d:DefRec}{K:Params->W.Frag}(t:l.most=o3 63)(e:d.params.defaults=[])
  (p:∀(w:Q_)(h:T_),g w h->(K w.params).In h)
  (F:∀(w:Q_)(mg:C_)(i:R_)(h:T_),(K w.params).In h->h.Ns mainGlobals mg->mg d.name=o3 (.ref i) ->
   ∃j:FuncData,(∀(s:P_)(u:S_),BindsTo s j ⟨[u],[]⟩ [("_law_script",u)])/\∀b:Heap,(K w.params).In b->b.Ns mainGlobals mg->AL l.prog w (K w.params) mg b CX0 152 i j ["_law_script"] (Wi (K w.params))) :
  W.WalkO q c m g l.row.toRowW d [] (λf vs=>PySem.call f vs) :=
 L2.VT (n:=63) (k:=152) (x:="_law_script") (CX:=λ_=>CX0) (sp:=λw=>Wi (K w.params)) t A6 e ⟨Z,by decide,by decide⟩ p F (λ_ _ a ns r _ o=>⟨a,ns,Z,o,r,λ_=>Z⟩) λ_ _ _ _ _ z=>z
end J
structure PySem.W.Fast:Prop where(tw13619238269113486099 tw5002356216378129561 tw1295570846983446434 tw18350068860000812612 tw1557333827515151546 tw5370436461217718385 tw14982741505288800910 tw6218996161637115924 tw8074930686533069569 tw3785322642481820701 tw7509157675201748338 tw12011966785667097576 tw17998323614134158168 tw6395536940412064370 tw6881451409845046291 tw10285246340752599810 tw5887122873576052830 tw12318270897518994234 tw17333295761389676607 tw9759340740424334304 tw11895979868190091168 tw8289666038789342360 tw3359235479891664006 tw5897103048609897005 tw1588288554112318165 tw8291279185234480426 tw18057002341916356665 tw18184781404868803279 tw1165009111919177701 tw14423788071298760996 tw3103820622406980678 tw16094094899991822775 tw7266557229395168718 tw7371415179925424992 tw2538397338199403650 tw16416172873879398718 tw16120759992332427204 tw1490585381696813669 tw15319523374834172556 tw12151563120425524397 tw13843707596494051440 tw15629652947526284041 tw17371007592403936811 tw17583106909643324197 tw14664690679890926984 tw11540893593165408564 tw9639274591422971758 tw6017900899362744904 tw3718819255739011472 tw3365855590484279151 tw11151921258860930502 tw5178745412729264520 tw9733312596828373346 tw13063376759821685971 tw4834219198270241568 tw9306565607566534865 tw8578940293152107352 tw4942442090603479563 tw15359211002147940329 tw14721965163315141193 tw4001882550438808081 tw15626273916475763475 tw14662564692338387013 tw9017606959904576047 tw2812191154106269782 tw17781463073597863293 tw17999008512663008987 tw4380313341335095091 tw13476986394510862446 tw1836571087785646023 tw11553359762511753836 tw9300011528808748549 tw12351120123499291154 tw7653702588639358941 tw15264619568250473178 tw13164849671274231583 tw12460663922871709573 tw17168727794181503788 tw11684007739032196039 tw3976108766376553591 tw8659237579775139434 tw7492465654807588897 tw16636180604522846350 tw15560069194891458650 tw833769570535710233 tw13434731526888133904 tw4341277630946434599 tw11646973573900663337 tw17662919866259934880 tw3914169407744512219 tw6218222677401446504 tw10268719433390469480 tw6158015023617713138 tw1066480575121223817 tw7050802361058560641 tw1251237057693075042 tw7414220827025378347 tw12700377159789856276 tw17111360472112016922 tw9755662138033876522 tw8232253378373269340 tw666948233781658730 tw9155964384391872155 tw12325508566268539209 tw14612092376146066389 tw16270582335905793619 tw4974456167817527766 tw11190198403673687300 tw7903769772217257022 tw11819921394192807002 tw11192055899770139507 tw306604185371393781 tw1842965219461627104 tw9862622550256154779 tw13002336049514938925 tw4962276901640834015 tw12730375213830863662 tw8911683131233365842 tw17907000043826524272 tw2296587845709099107 tw7167895917838110294 tw6249223251593739814 tw11697006635740113290 tw12811290396414126299 tw13685180972330121889 tw17568576659574924643 tw2777746829165775871 tw17672598163505403462 tw18420848651910738318 tw15080778797127855591 tw16911315520426280437 tw17039231620204705782 tw17767967951161724454 tw261787038841157352 tw15768419624423952965 tw309711258258309234 tw10035555199189285070 tw17812417188619038758 tw11695459033245086988 tw9072914471647878703 tw3048763847899901980 tw3076219903968606246 tw12606848988805548759 tw7377760086038238493 tw10679426382394688941 tw18240515718829988944 tw12403804346037139392 tw917569225167219021 tw15500396910786276831 tw12108766013277715475 tw1685707403221649397 tw17621684443111114230 tw13378751375255213074 tw14621773868029173003 tw12995608614204937349 tw2781358959692098816 tw17314372712486816767 tw1717524753636968043 tw3152456758984924676 tw13803390688764946717 tw11405183437954406463 tw15915809096579107366 tw14649255180210996731 tw4159040340731566591 tw1571754957811706372 tw7551383025523913151 tw1083736433970829305 tw8936463656118735845 tw5257227186559571409 tw16843325821622604462 tw10411796964265794711 tw1633288936448297225 tw16280459364275482022 tw9695060613646193668 tw13313331762172251153 tw8235749016611768845 tw16643820331531374350 tw7591102602248098605 tw9024768562818915770 tw10882651085114070235 tw17999846620430528144 tw17061052596567153013 tw15468936059524233150 tw11711976450093025479 tw3805892229311541898 tw9294673605315433337 tw14955571453502253991 tw13584037621536523258 tw5826024518471701343 tw6878112751221793445 tw460637110497762247 tw4879725750049468444 tw1497566068971671897 tw5435377850437067480 tw12259398995526271088 tw18292990243322573737 tw17123508838106381949 tw790090561096350140 tw11653528415163424953 tw463114878861815093 tw5535174652136022424 tw8820701785737035852 tw582161537180101840 tw10840496753612851370 tw15403364754817548087 tw670657867787205409 tw8337728653630529067 tw11389689914695752997 tw8906072066606292094 tw6434032709538174552 tw12262382136918015578 tw11613554385804338980 tw14306187976540273 tw10802102692918557497 tw8216610939152723146 tw126202880621147051 tw14391384483427726095 tw212396171343710074 tw15854572376909388420 tw41551941751517141 tw11392551308194793552 tw4787455057545083290 tw10345410174513247163 tw2663349034280228244 tw13684791648884198148 tw15138535819788717956 tw12238298373369723422 tw14051039208869085045 tw4295784442453719460 tw16849561662605625139 tw9157482862175824778 tw16134390796044258159 tw16033935679106087771 tw15545214789420865714 tw11709195253519468624 tw5966173672312192661 tw13685166285127500706 tw17336750857037249238 tw11419311971133854328 tw1052649210277067293 tw9004172329003447017 tw123776954909530312 tw2983876298460350143 tw4684267533394917318 tw16197273709457957581 tw3369634955458436557 tw9960520892272473029 tw11078697862972245281 tw10713569528536621414 tw6981139140065431043 tw18049693235322329790 tw15932744838851395469 tw11084049510851670726 tw4820258976458886802 tw14884812133943547189 tw18396962075227674056 tw9996830174962568376 tw8493248313531421252 tw3142180753691109061 tw17653387654769085817 tw5580840907063967511 tw2838398563146235664 tw524352921459951097 tw12522684146726229667 tw9372353139997457969 tw15080054390227099614 tw16433262147848516581 tw6770608472277935139 tw7136922376849030436 tw1012008797469000455 tw10773533044350262192 tw1822875632939765840 tw8011857637867964852 tw13609652591691373466 tw887266559901605716 tw9907214716459666020 tw461584279762243529 tw8389263295093618724 tw5038656722931629617 tw2285902858798482528 tw12882960981249762263 tw10094934503628573716 tw357524070537950509 tw9465463073506863887 tw8370857442640346215 tw16979714948787154567 tw5832632357565408881 tw13409940566819855657 tw659598073907986117 tw12432850104984711331 tw1424122340235572891 tw15091564170361088450 tw4027482973308156700 tw13333966864075942458 tw15401483658879065665 tw4932366932316107888 tw15860255537153710444 tw11104876665432835351 tw3483235587595930712 tw2251223498274849810 tw3485883726404624584 tw6811502838821768543 tw1175228677348681621 tw8234976027722265337 tw1221660446754493341 tw18058893044775558935 tw2659290007119941782 tw7127380524416232036 tw6818995981448685825 tw17899795169304716658 tw13417299867987512484 tw5298879414593826098 tw13167240310961197764 tw13104040555728536645 tw5719447207690181163 tw7737768906325093493 tw15267277299782106701 tw12684863478678769381 tw13729821205282977586 tw7962058943227739019 tw16401374331680301694 tw7447703803259769535 tw3372163555267186533 tw192125755996019359 tw17375554626747225033 tw11218693903824025938 tw11020887160454248385 tw7235402892801736348 tw4295699729850452536 tw9998556525391488647 tw9456197431006328434:True)
open PySem PySem.W PyProof.Rows
set_option maxRecDepth 100000 in
set_option maxHeartbeats 0 in
theorem PySem.Challenge.cw_jumpfield_k55_whole_jump_is_plain_steps_holds : PySem.Challenge.rw_jumpfield_k55_whole_jump_is_plain_steps.Holds := by
 w_on; o_law; k_head; (case hw=>w_witness2)
 k_fill
 refine J.walk (l:=PySem.Challenge.rw_jumpfield_k55_whole_jump_is_plain_steps) rfl rfl (fun w h Y=>PySem.W.kIn_of Y) ?F
 case F =>
  intro w mg fa h KX G hmg;refine' J.fin KX G hmg ?h0 ?h1 ?h2 ?h3 ?h4 ?h5 ?h6 ?h7 ?h8 ?h9 ?h10 ?h11 ?h12 ?h13 ?h14 ?h15 ?h16 ?h17 ?h18 ?h19 ?h20 ?h21 ?h22 ?h23 ?h24 ?h25 ?h26 ?h27 ?h28 ?h29 ?h30 ?h31 ?h32 ?h33 ?h34 ?h35 ?h36 ?h37 ?h38 ?h39 ?h40 ?h41 ?h42 ?h43 ?h44 ?h45 ?h46 ?h47 ?h48 ?h49 ?h50 ?h51 ?h52 ?h53 ?h54 ?h55 ?h56 ?h57 ?h58 ?h59 ?h60 ?h61 ?h62 ?h63 ?h64 ?h65 ?h66 ?h67 ?h68 ?h69 ?h70 ?h71 ?h72 ?h73 ?h74 ?h75 ?h76 ?h77 ?h78 ?h79 ?h80 ?h81 ?h82 ?h83 ?h84 ?h85 ?h86 ?h87 ?h88 ?h89 ?h90 ?h91 ?h92 ?h93 ?h94 ?h95 ?h96 ?h97 ?h98 ?h99 ?h100 ?h101 ?h102 ?h103 ?h104 ?h105 ?h106 ?h107 ?h108 ?h109 ?h110 ?h111 ?h112 ?h113 ?h114 ?h115 ?h116 ?h117 ?h118 ?h119 ?h120 ?h121 ?h122 ?h123 ?h124 ?h125 ?h126 ?h127 ?h128 ?h129 ?h130 ?h131 ?h132 ?h133 ?h134 ?h135 ?h136 ?h137 ?h138 ?h139 ?h140 ?h141 ?h142 ?h143 ?h144 ?h145 ?h146 ?h147
  (case h0 | h1 | h2 | h3 | h4 | h5=>k_is)
  (case h6 | h7 | h8 | h9 | h10 | h11=>(refine' ⟨?_,?_,?_,?_⟩<;>k_is))
  (case h12 | h13 | h14 | h15 | h16 | h17 | h18 | h19 | h20 | h21 | h22 | h23 | h24 | h25 | h26 | h27 | h28 | h29 | h30=>k_is)
  (case h31 | h32 | h33 | h34 | h35 | h36 | h37 | h38 | h39 | h40 | h41 | h42 | h43 | h44 | h45 | h46 | h47 | h48 | h49 | h50 | h51 | h52 | h53 | h54 | h55 | h56 | h57 | h58 | h59 | h60 | h61 | h62 | h63 | h64 | h65 | h66 | h67 | h68 | h69 | h70 | h71 | h72 | h73 | h74 | h75 | h76 | h77 | h78 | h79 | h80 | h81 | h82 | h83 | h84 | h85 | h86 | h87 | h88=>(apply J.Fg.mk; k_is; apply L2.VG<;>k_is))
  (case h89 | h90 | h91 | h92 | h93 | h94 | h95 | h96 | h97 | h98 | h99 | h100 | h101 | h102 | h103 | h104 | h105 | h106 | h107 | h108 | h109 | h110 | h111=>(apply J.Fm.mk; (apply L2.Qs.mk<;>k_is); apply L2.VG<;>k_is))
  (case h112 | h113 | h114 | h115 | h116 | h117=>(apply J.Fi.mk; (apply L2.Mk.mk<;>k_is); apply L2.VG<;>k_is))
  (case h118 | h119 | h120 | h121 | h122 | h123 | h124 | h125 | h126 | h127 | h128 | h129 | h130 | h131 | h132 | h133 | h134 | h135=>k_is)
  (case h136=>decide +kernel)
  (case h137=>k_is)
  (case h138=>decide +kernel)
  (case h139=>k_is)
  (case h140=>decide +kernel)
  (case h141 | h142 | h143 | h144 | h145=>k_is)
  (case h146=>decide +kernel)
  (case h147=>k_is)
