import PyProof.Rows.All
import Wide.All
import OpenK.AllK
import Wide.FinOn
import Lean
import PyProof.EqAt
import PyProof.EqKinds
import PyProof.TupleCall
import PyProof.Rows.CatFin
import PyProof.StrLawsIn
import KE.IntTextLaws
import KE.IntTextText
import PyProof.StrLawsTight
import PyProof.StrLawsChain
import PyProof.Rows.StrLawsPart
import PyProof.Rows.StrFirst
import PyProof.Rows.ReprOcc
import PyProof.Rows.StrItems
import PyProof.SumAny
import PyProof.SeqI3
import PyProof.WalkInts
import PyProof.NeKinds
import KE.KDictLaws
import PyProof.DictIter
import PyProof.DictWalks
import PyProof.Rows.DictUnroll
import KE.KSortTup
import PyProof.Rows.SortRuns
import KE.KSortKey
import KE.KDictSum
import PySem.Challenge.RW_jumpfield_k72_comes_again
set_option compiler.extract_closed false
set_option bootstrap.genMatcherCode false
set_option Elab.async false
set_option linter.all false
set_option genSizeOfSpec false
set_option maxRecDepth 100000
set_option maxHeartbeats 8000000
open Option renaming some->n_,none->o0
open Bool renaming true->o4,false->o5
theorem Z{α:Sort u}{a:α}:a=a:=rfl
abbrev A_:=List (PySem.Addr×PySem.Obj)
abbrev B_:=PySem.Value->PySem.Shared->Prop
abbrev C_:=PySem.Str->Option PySem.Value
abbrev D_:=Int->Int->Nat
abbrev E_:=PySem.FuncData
abbrev F_:=List PySem.Value
abbrev H_:=List PySem.Addr
abbrev I_:=List Int
abbrev J_:=List Nat
abbrev K_:=List PySem.Str
abbrev L_:=Nat->Nat
abbrev M_:=Array PySem.Value
abbrev N_:=PySem.Program
abbrev O_:=PySem.W.Frag
abbrev P_:=PySem.Shared
abbrev Q_:=PySem.World
abbrev R_:=PySem.Addr
abbrev S_:=PySem.Value
abbrev T_:=PySem.Heap
theorem xa{p q g:Prop}(h:p/\q)(k:p->q->g):g:=k h.1 h.2
theorem xe{p:α->Prop}{g:Prop}(h:∃x,p x)(k:∀x,p x->g):g:=h.elim k
theorem xa2{p q r g:Prop}(h:p/\q/\r)(k:p->q->r->g):g:=xa h.2 (k h.1)
theorem xea{p q:α->Prop}{g:Prop}(h:∃x,p x/\q x)(k:∀x,p x->q x->g):g:=h.elim λa h=>xa h (k a)
theorem xe2{p:α->β->Prop}{g:Prop}(h:∃x y,p x y)(k:∀x y,p x y->g):g:=h.elim λa h=>xe h (k a)
theorem xa3{p q r P g:Prop}(h:p/\q/\r/\P)(k:p->q->r->P->g):g:=xa2 h.2 (k h.1)
theorem MD{p g:Prop}{q r:α->Prop}(h:p/\∃x,q x/\r x)(k:p->∀x,q x->r x->g):g:=xea h.2 (k h.1)
theorem AX{p q r:α->Prop}{g:Prop}(h:∃x,p x/\q x/\r x)(k:∀x,p x->q x->r x->g):g:=h.elim λa h=>xa2 h (k a)
theorem Cw{p q:α->β->Prop}{g:Prop}(h:∃x y,p x y/\q x y)(k:∀x y,p x y->q x y->g):g:=h.elim λa h=>xea h (k a)
theorem xe3{p:α->β->γ->Prop}{g:Prop}(h:∃x y z,p x y z)(k:∀x y z,p x y z->g):g:=h.elim λa h=>xe2 h (k a)
theorem xa4{p q r P Q g:Prop}(h:p/\q/\r/\P/\Q)(k:p->q->r->P->Q->g):g:=xa3 h.2 (k h.1)
theorem Dh{p q g:Prop}{r P:α->Prop}(h:p/\q/\∃x,r x/\P x)(k:p->q->∀x,r x->P x->g):g:=MD h.2 (k h.1)
theorem Rl{p g:Prop}{q r:α->β->Prop}(h:p/\∃x y,q x y/\r x y)(k:p->∀x y,q x y->r x y->g):g:=Cw h.2 (k h.1)
theorem Ec{p q r P:α->Prop}{g:Prop}(h:∃x,p x/\q x/\r x/\P x)(k:∀x,p x->q x->r x->P x->g):g:=h.elim λa h=>xa3 h (k a)
theorem AS{p q r:α->β->Prop}{g:Prop}(h:∃x y,p x y/\q x y/\r x y)(k:∀x y,p x y->q x y->r x y->g):g:=h.elim λa h=>AX h (k a)
theorem xe4{p:α->β->γ->δ->Prop}{g:Prop}(h:∃x y z w,p x y z w)(k:∀x y z w,p x y z w->g):g:=h.elim λa h=>xe3 h (k a)
theorem xa5{p q r P Q R g:Prop}(h:p/\q/\r/\P/\Q/\R)(k:p->q->r->P->Q->R->g):g:=xa4 h.2 (k h.1)
theorem PB{p g:Prop}{q r P:α->β->Prop}(h:p/\∃x y,q x y/\r x y/\P x y)(k:p->∀x y,q x y->r x y->P x y->g):g:=AS h.2 (k h.1)
theorem Ep{p q r P:α->β->Prop}{g:Prop}(h:∃x y,p x y/\q x y/\r x y/\P x y)(k:∀x y,p x y->q x y->r x y->P x y->g):g:=h.elim λa h=>Ec h (k a)
theorem Dw{p q r:α->β->γ->Prop}{g:Prop}(h:∃x y z,p x y z/\q x y z/\r x y z)(k:∀x y z,p x y z->q x y z->r x y z->g):g:=h.elim λa h=>AS h (k a)
theorem xe5{p:α->β->γ->δ->ε->Prop}{g:Prop}(h:∃x y z w u,p x y z w u)(k:∀x y z w u,p x y z w u->g):g:=h.elim λa h=>xe4 h (k a)
theorem Dx{p q r P Q:α->β->Prop}{g:Prop}(h:∃x y,p x y/\q x y/\r x y/\P x y/\Q x y)(k:∀x y,p x y->q x y->r x y->P x y->Q x y->g):g:=h.elim λa h=>h.elim λb h=>xa4 h (k a b)
theorem Go{p q r P:α->β->γ->Prop}{g:Prop}(h:∃x y z,p x y z/\q x y z/\r x y z/\P x y z)(k:∀x y z,p x y z->q x y z->r x y z->P x y z->g):g:=h.elim λa h=>Ep h (k a)
theorem CV{p q r P Q:α->β->γ->Prop}{g:Prop}(h:∃x y z,p x y z/\q x y z/\r x y z/\P x y z/\Q x y z)(k:∀x y z,p x y z->q x y z->r x y z->P x y z->Q x y z->g):g:=h.elim λa h=>Dx h (k a)
theorem CM{p q r P Q:α->β->γ->δ->Prop}{g:Prop}(h:∃x y z w,p x y z w/\q x y z w/\r x y z w/\P x y z w/\Q x y z w)(k:∀x y z w,p x y z w->q x y z w->r x y z w->P x y z w->Q x y z w->g):g:=h.elim λa h=>CV h (k a)
theorem O_9{α:Sort u}{a:α}{q:Prop}:a=a∨q:=Or.inl Z
theorem R_9{α:Sort u}{β:Sort v}{γ:Sort w}{f:α->β->γ}:∀a b,f a b=f a b:=λ_ _=>Z
theorem S_4{p:Prop}(h:p:=by show 4<=PySem.sizeLine;decide):p:=h
theorem S_0{p:Prop}(h:p:=by show 0<=PySem.sizeLine;decide):p:=h
theorem S_1{p:Prop}(h:p:=by show 1<=PySem.sizeLine;decide):p:=h
theorem S_2{p:Prop}(h:p:=by show 2<=PySem.sizeLine;decide):p:=h
theorem S_3{p:Prop}(h:p:=by show 3<=PySem.sizeLine;decide):p:=h
theorem D_9{p:Prop}(h:p:=by intro _ _ _ _ h;rcases h;subst_vars;rfl):p:=h
theorem A0{p:Prop}(h:p:=by decide +kernel):p:=h
theorem A3{p:Prop}(h:p:=by lia):p:=h
theorem A4{p:Prop}(h:p:=by decide):p:=h
theorem A6{p:Prop}(h:p:=by intro z; cases z):p:=h
theorem B0{p:Prop}(h:p:=by simp):p:=h
theorem B1{p:Prop}(h:p:=by intro _ z; cases z):p:=h
theorem B2{p:Prop}(h:p:=by show (0:Int) < 3; decide):p:=h
theorem B3{p:Prop}(h:p:=by show (0:Int) < 8; decide):p:=h
theorem B4{p:Prop}(h:p:=by show 0 < 1000; decide):p:=h
theorem B5{p:Prop}(h:p:=by show 1 < 1000; decide):p:=h
theorem B6{p:Prop}(h:p:=by show (0:Int) < 4; decide):p:=h
open List renaming length_map->B7,getElem?_eq_some_iff->B9,getElem?_map->C0,mem_cons->C1,getElem?_eq_getElem->C4,length_append->C6,map_append->C7,mem_cons_self->C8,mem_cons_of_mem->C9,mem_map->D0,mem_singleton->D4,getD_eq_getElem?_getD->D7,mem_of_getElem?->D8,not_mem_nil->D9,length_cons->F0,size_toArray->F4,mem_append->F6,take_add_one->F7,map_cons->F8,take_length->J0,length_take->L7,getElem?_append_right->L9,getElem?_of_mem->M5,mem_append_right->M6,mem_range->M8,nodup_cons->N4,getElem?_append_left->N5,map_map->O1,length_range->O8,getElem_mem->P4,map_eq_nil_iff->P6,length_nil->P9,getElem?_eq_none->Q0,idxOf_lt_length_of_mem->R5,sum_cons->R7,lookup_cons->S0,length_replicate->S3,find?_cons->S5,pairwise_map->S7,getElem?_range->T1,nodup_nil->T3,all_eq_true->T4,pairwise_cons->T6,length_singleton->T8,nodup_append->T9,flatten_cons->U0,append_assoc->U1,nodup_iff_pairwise_ne->U3,mem_flatMap->U5,any_eq_true->U6,replicate_succ->U8,range_succ->U9,mem_filter->V0,findIdx?_eq_some_iff_getElem->V1,getElem_map->V4,any_cons->V7,mem_append_left->V8,foldl_cons->W1,length_pos_iff->W2,pairwise_iff_getElem->W8,getElem?_zip_eq_some->W9,findIdx?_eq_none_iff->Y4,getElem?_take_of_lt->Y8,mem_reverse->Z0,getElem?_replicate->Z1,getElem?_cons_succ->Z2,countP_cons->Z3,map_nil->Z5,length_zip->Z8,append_nil->Z9,mem_iff_getElem->K0,filterMap_cons->K3,flatMap_cons->K9
open Nat renaming le_refl->B8,le_trans->C5,lt_of_lt_of_le->D3,lt_of_le_of_lt->D6,le_add_right->F5,mod_lt->F9,pow_succ->L6,ne_of_lt->L8,zero_le->M7,mul_le_mul_left->M9,not_lt_zero->N3,zero_add->N7,mod_eq_of_lt->N8,le_of_not_lt->N9,div_add_mod->O0,div_eq_of_lt->O2,le_of_lt_succ->O3,le_add_left->O6,pow_le_pow_right->O9,pos_of_ne_zero->P0,succ_le_succ->Q5,le_of_lt->Q7,add_mul_div_left->Q8,add_le_add_right->Q9,sub_le->R3,lt_irrefl->R6,min_le_right->R9,add_mul_mod_self_left->S4,lt_succ_iff_lt_or_eq->S9,add_le_add_left->T0,le_succ->T5,add_le_add->U2,mul_comm->U4,le_succ_of_le->V2,lt_succ_self->V3,le_antisymm->W0,ne_of_gt->W3,lt_trans->W4,add_comm->W5,succ_le_of_lt->Y5,pow_pos->Y6,lt_of_succ_le->Y7,sub_self->Z4,div_lt_iff_lt_mul->X4,pow_lt_pow_right->X6,mul_le_mul_right->X7,lt_one_iff->X8,add_mul->X9,add_sub_cancel->K5,succ_mul->K6,lt_succ_of_lt->K7,le_of_eq->K8
open PySem.Heap renaming get?_push_of_some->C3,get?_push_size->F2,lt_size->F3,get?_none_of_le->R0,get?_update_ne->R4,size_push->S2,get?_update_other->Z7,get?_update_self->X5
open Option renaming map_eq_some_iff->D5,toList_some->Q4,map_some->V9
open Bool renaming false_ne_true->F1,false_eq_true->Q6,and_eq_true->S1,eq_iff_iff->S6,eq_false_iff->A0b
open Int renaming eq_ofNat_of_zero_le->M0,toNat_natCast->M4,natCast_pow->N6,natCast_nonneg->O4,emod_lt_of_pos->O5,natCast_add->O7,natCast_mul->P2,emod_nonneg->P3,le_of_eq->P5,toNat_of_nonneg->P7,le_refl->R8,le_of_lt->S8,add_sub_cancel->T7,zero_add->U7,natCast_ediv->V5,lt_of_not_ge->V6,le_trans->W6,fdiv_eq_ediv_of_nonneg->W7,pow_succ->Z6,mul_add->K1,mul_assoc->K4,ne_of_gt->A0a
open Array renaming getElem?_eq_getElem->P1,length_toList->P8,getElem_toList->K2
open PySem renaming wpAny_bind->A0c,wpAny_pure->A0h,boot_len->A2g,wpAny_truthy_bool->A3c,wpAny_mono->A3d,mem_of_lookup->A3g,wpAny_field->A4c,wpAny_call_entry->A4d,wpAny_seqItems->A4e,wpAny_typeNameOfWhole_keyiter->A4h,wpAny_Call_Name_kw->A5a,wpAny_setField_rec->A5b,wpAny_passesOwn->A5c,wpAny_holding->A5e,wpAny_attempt->A5f,wpAny_newObj_type->A5g,wpAny_typeNameOf_keyiter->A6f,call_meets->A6g,tupleKind_room_in1->A6h,wpAny_pyIter_list->A7c,wpAny_dictEntries->A8a,codeAny_mono->A8d,typeIs_str->A8e,wpAny_execs_nil->A8g,wpAny_setField->A9e,wpAny_updateSeq_pair->A9f,wpAny_standAt->B0a,wpAny_onRaise->B0b
open Ne renaming symm->A1a
open Int.ofNat renaming inj->A1b
open PySem.PassesOwn renaming never->A1c
open Classical renaming byContradiction->A1d,choose_spec->A8b
open PySem.Paired renaming length->A1e,snoc->A3f
open Option.some renaming inj->A1f
open PySem.F renaming plainAttrs_list->A1g,slot_list_append->A1h,type_list_append->A2a,plainAttrs_str->A3e,slot_dict_get->A4a,slot_dict_keyiterator_next->A5d,slot_tuple_iterator_next->A6a,entry_dict_get->A6e,slot_str_join->A7a,type_str_join->A7b,slot_zip_next->A8h,args_str_split_2->B0c
open PySem.W renaming mg_of->A2d,kia_one->A3a,plainGet_of->A8c,callWith_K->A9a
open PyProof.Rows renaming boot_tuple->A2f,boot_isinstance->A2h,boot_min->A3b,callWith_type1->A3h,boot_max->A4b,boot_int->A4f,boot_str->A4g,wpS_bind->A6b
open PySem.Heap.SameBut renaming update->A7e
open PySem.Calls renaming spliced_cons->A7g,callWith_builtin->A8f,evalArgs_plain->A9d
open PySem.Obj renaming data_mapFields->A7h
abbrev A0d:=@if_neg
abbrev A0e:=@decide_eq_true
abbrev A0f:=@decide_eq_false
abbrev A0g:=@if_pos
abbrev A2b:=@of_decide_eq_true
abbrev A2c:=@congrArg
abbrev A2e:=@or_false
abbrev A5h:=@if_false
abbrev A6c:=@of_decide_eq_false
abbrev A6d:=@not_false_eq_true
abbrev A7d:=@if_true
abbrev A7f:=@not_or
abbrev A9b:=@beq_iff_eq
abbrev A9c:=@decide_eq_true_iff
abbrev A9g:=@decide_eq_true_eq
abbrev A9h:=@congrFun
open PySem.W (instObj methodObj lookIn plainGet hasDictIn findIn handedIn isFn plainOver takerIn any_some makesIn emptyDict keepIn specialIn takesIn mroIn kitOne kitx_list kitx_dict notCls clsIn)
namespace L2
open PySem PySem.Spec PyProof.Rows
abbrev Key:=Sum Int Str
def RF:Key->Value->Bool
|.inl k,v=>Value.isInt k v
|.inr x,v=>Value.isStrOf x v
def keyH(w:Q_):Key->Int
|.inl k=>hashInt k
|.inr x=>hashStr w x
theorem CG:∀{k:Key}{v:S_},RF k v=o4->(∃i t,k=Sum.inl i/\v=Value.int i t)\/(∃x t,k=Sum.inr x/\v=Value.str x t)
|.inl i,v,h=>by
 obtain⟨t,e⟩:=Value.isInt_shape (k:=i) (v:=v) h;exact .inl ⟨i,t,Z,e⟩
|.inr x,v,h=>by
 obtain⟨t,e⟩:=Value.isStrOf_shape (x:=x) (v:=v) h;exact .inr ⟨x,t,Z,e⟩
theorem Zh(i:Int)(t:Tok):RF (.inl i) (.int i t)=o4:=by simp[RF,Value.isInt]
theorem Zg(x:Str)(t:Tok):RF (.inr x) (.str x t)=o4:=by simp[RF,Value.isStrOf]
theorem aEn(a b:Int):decide ((Sum.inl a:Key)=Sum.inl b)=(a==b):=by
 by_cases e:a=b
 .subst e;simp
 .have h:¬(Sum.inl a:Key)=Sum.inl b:=λq=>e (Sum.inl.inj q);rw[A0f h];exact(beq_eq_false_iff_ne.mpr e).symm
theorem aEq(a b:Str):decide ((Sum.inr a:Key)=Sum.inr b)=decide (a=b):=by
 by_cases e:a=b
 .subst e;simp
 .have h:¬(Sum.inr a:Key)=Sum.inr b:=λq=>e (Sum.inr.inj q);rw[A0f h,A0f e]
theorem aEo(a:Int)(b:Str):decide ((Sum.inl a:Key)=Sum.inr b)=o5:=A0f (λq=>nomatch q)
theorem aEp(a:Str)(b:Int):decide ((Sum.inr a:Key)=Sum.inl b)=o5:=A0f (λq=>nomatch q)
def Cv(prog:N_)(w:Q_):PySem.KeyKind prog w Key where
 is:=RF
 hash:=keyH w
 inj:=λv a b ha hb=>by
  rcases CG ha with ⟨i,t,rfl,rfl⟩|⟨x,t,rfl,rfl⟩
  .rcases CG hb with ⟨j,u,rfl,e⟩|⟨y,u,rfl,e⟩
   .injection e with e1 _;rw[e1]
   .exact nomatch e
  .rcases CG hb with ⟨j,u,rfl,e⟩|⟨y,u,rfl,e⟩
   .exact nomatch e
   .injection e with e1 _;rw[e1]
 byValue:=λk v h=>by
  rcases CG h with ⟨i,t,rfl,rfl⟩|⟨x,t,rfl,rfl⟩<;>rfl
 pyHash:=λhv h=>by
  rcases CG hv with ⟨i,t,rfl,rfl⟩|⟨x,t,rfl,rfl⟩
  .exact wpAny_pyHash_int h
  .exact wpAny_pyHash_str h
 eqBool:=λhu hv h=>by
  rcases CG hu with ⟨i,t,rfl,rfl⟩|⟨x,t,rfl,rfl⟩
  .rcases CG hv with ⟨j,u,rfl,rfl⟩|⟨y,u,rfl,rfl⟩
   .rw[aEn]at h;exact wpAny_eqBool_int h
   .rw[aEo]at h;exact SeqAt.EqAt.int_str i t y u _ _ _ _ h
  .rcases CG hv with ⟨j,u,rfl,rfl⟩|⟨y,u,rfl,rfl⟩
   .rw[aEp]at h;exact SeqAt.EqAt.str_int x t j u _ _ _ _ h
   .rw[aEq]at h;exact wpAny_eqBool_str h
 «strs»:=λk x t v h=>by
  rcases CG h with ⟨i,u,rfl,e⟩|⟨y,u,rfl,e⟩
  .exact nomatch e
  .injection e with e1 _
   subst e1;cases v<;>rfl
theorem UJ(prog:N_)(w:Q_)(i:Int)(t:Tok):(Cv prog w).is (.inl i) (.int i t)=o4:=Zh i t
theorem UI(prog:N_)(w:Q_)(x:Str)(t:Tok):(Cv prog w).is (.inr x) (.str x t)=o4:=Zg x t
inductive V where
 |non|bl (b:Bool)|int (i:Int)|str (x:Str)|byt (b:Array UInt8)|flt (b:UInt64)|ref (a:R_)|ty (n:String)
 deriving DecidableEq
def Bh:V->Value->Prop
|.non,u=>u=Value.none
|.bl b,u=>u=Value.bool b
|.int i,u=>∃t,u=Value.int i t
|.str x,u=>∃t,u=Value.str x t
|.byt b,u=>∃t,u=Value.bytes b t
|.flt b,u=>∃t,u=Value.float b t
|.ref a,u=>u=Value.ref a
|.ty n,u=>u=Value.type n
abbrev AU:List V->List Value->Prop:=Paired Bh
theorem AU.length(r:AU xs us):xs.length=us.length:=A1e r
theorem AU.get:∀{xs:List V}{us:F_}{i:Nat}{x:V},AU xs us->xs[i]?=n_ x->∃u,us[i]?=n_ u/\Bh x u
|_,_,_,_,.nil,e=>by simp at e
|_,_,0,_,.cons r _,e=>by simp at e;subst e;exact⟨_,Z,r⟩
|_,_,i+1,x,.cons _ t,e=>by
 exact xea (AU.get (i:=i) (x:=x) t (by simpa using e)) λu a b=>⟨u,by simpa using a,b⟩
theorem AU.set(r:Bh x u):∀{xs:List V}{us:F_}(i:Nat),AU xs us->AU (xs.set i x) (us.set i u)
|_,_,_,.nil=>.nil
|_,_,0,.cons _ t=>.cons r t
|_,_,i+1,.cons q t=>.cons q (AU.set r i t)
theorem AU.append:∀{xs ys:List V}{us a:F_},AU xs us->AU ys a->AU (xs++ys) (us++a)
|_,_,_,_,.nil,s=>s
|_,_,_,_,.cons r t,s=>.cons r (AU.append t s)
theorem AU.take:∀{xs:List V}{us:F_}(n:Nat),AU xs us->AU (xs.take n) (us.take n)
|_,_,0,_=>.nil
|_,_,_+1,.nil=>.nil
|_,_,n+1,.cons r t=>.cons r (AU.take n t)
theorem AU.drop:∀{xs:List V}{us:F_}(n:Nat),AU xs us->AU (xs.drop n) (us.drop n)
|_,_,0,r=>r
|_,_,_+1,.nil=>.nil
|_,_,n+1,.cons _ t=>AU.drop n t
theorem AU.none_of:∀{xs:List V}{us:F_}{i:Nat},AU xs us->xs[i]?=o0->us[i]?=o0:=λ{xs us i} r e=>by
 have a:=r.length;have b:=List.getElem?_eq_none_iff.mp e;exact List.getElem?_eq_none_iff.mpr A3
def Le:Option V->Option Value->Prop
|some v,n_ u=>Bh v u
|none,o0=>True
|_,_=>False
def KV{κ:Type}:List (κ×V)->List (κ×Value)->Prop:=Paired λ(p:κ×V)(q:κ×Value)=>p.1=q.1/\Bh p.2 q.2
def kV:Key->V
|.inl i=>.int i
|.inr x=>.str x
inductive HO where
|lst (xs:List V)
|tup (xs:List V)
|dK (kvs:List (Key×V))|dT (kvs:List (List Key×V))
|set (S:Int->Bool) (n:Nat)
|ins (C dx:R_) (fs:List (Str×V))
|own (x:R_)
|xd (fs:List (Str×V))
|met (f x:R_)
|rng (lo hi:Int)
|frz (o:Obj) (u:HO)
|tbl (ps:M_)
|ext (φ:Heap->Prop)
abbrev Hp:=Addr->Option HO
def upd(H:Hp)(a:R_)(o:HO):Hp:=λb=>if b=a then n_ o else H b
theorem Af:upd H a o a=n_ o:=by unfold upd;rw[A0g rfl]
theorem Ax{H:Hp}{a b:R_}{o:HO}(h:b≠a):upd H a o b=H b:=by unfold upd;rw[A0d h]
theorem GZ:upd (upd H a o) a u=upd H a u:=by
 funext b;unfold upd;split<;>rfl
theorem AI{H:Hp}{a b:R_}{o u:HO}(h:H a=n_ o)(h':H b=n_ u)(d:o≠u):a≠b:=by
 intro e;subst e;rw[h]at h';exact d (A1f h')
theorem Av{H:Hp}{a b:R_}{o:HO}(h:H a=n_ o)(h':H b=o0):a≠b:=by
 intro e;subst e;rw[h]at h';cases h'
section
variable(P:N_)(w:Q_)
def BQ(H:Hp)(h:T_)(a:R_):HO->Prop
|.lst xs=>xs.length<=sizeLine/\∃(its:F_)(n:Nat),AU xs its/\h.get? a=n_ {cls:=.type "list",data:=.seq its.toArray n}
|.tup xs=>xs.length<=sizeLine/\∃its:List Value,AU xs its/\IsTup h a its.toArray
|.dK kvs=>kvs.length<=sizeLine/\(a==sysModules)=o5/\∃vs,KV kvs vs/\h.DictOf (Cv P w) a vs
|.dT kvs=>kvs.length<=sizeLine/\(a==sysModules)=o5/\∃xs:List (List Key×Addr×Value),
  Paired (λ(p:List Key×V)(q:List Key×Addr×Value)=>p.1=q.1/\H q.2.1=n_ (.tup (p.1.map kV))/\Bh p.2 q.2.2) kvs xs /\
  ∃o es ep,h.get? a=n_ o/\o.ExactDict/\o.data=.dict es ep/\es.toList=xs.map (entryOfKey (tupleKind (Cv P w)))/\(xs.map (·.1)).Nodup
|.set S n=>h.SetOf (intKind P w) a S n
|.ins C dx fs=>H dx=n_ (.own a)/\fs.length<=1000/\dx≠a/\h.get? a=n_ (instObj C dx) /\
  ∃mA,h.Ns1 dx mA/\(∀f,Le (fs.lookup f) (mA f))/\PySem.Within mA (fs.map (·.1))
|.own _=>∃o,h.get? a=n_ o
|.xd fs=>∃mA,h.Ns1 a mA/\∀f,Le (fs.lookup f) (mA f)
|.rng lo hi=>∃t u v,h.get? a=n_ {cls:=.type "range",data:=.fields #[.int lo t,.int hi u,.int 1 v]}
|.frz o u=>h.get? a=n_ o/\BQ H h a u
|.tbl ps=>h.get? a=n_ {cls:=.none,data:=.fields ps}
|.met f x=>h.get? a=n_ (methodObj (.ref f) (.ref x))
|.ext φ=>φ h/\(∃o,h.get? a=n_ o)/\∀h1 h2:Heap,φ h1->(∀o,h1.get? a=n_ o->h2.get? a=n_ o)->φ h2
def HOk(H:Hp)(h:T_):Prop:=∀a o,H a=n_ o->BQ P w H h a o
end
section
variable{P:N_}{w:Q_}{H H':Hp}{h h':T_}{a:R_}{o:HO}
theorem BQ.lt(x:BQ P w H h a o):a<h.objs.size:=by
 cases o with
 |lst xs=>exact Rl x λ_ _ _ _ e=>F3 e
 |tup xs=>exact MD x λ_ _ _ p=>p.lt
 |dK kvs=>exact Dh x λ_ _ _ _ b=>xe3 b λo _ _ c=>xa c λe _=>F3 e
 |dT kvs=>exact Dh x λ_ _ _ _ b=>xe3 b λo _ _ c=>xa c λe _=>F3 e
 |set S n=>exact xe4 x λo _ _ _ b=>xa b λe _=>F3 e
 |ins C dx fs=>exact xa4 x λ_ _ _ e _=>F3 e
 |own y=>obtain⟨_,e⟩:=x;exact F3 e
 |xd fs=>obtain⟨_,⟨_,_,_,e,_⟩,_⟩:=x;exact F3 e
 |rng lo d=>obtain⟨_,_,_,e⟩:=x;exact F3 e
 |frz g u=>obtain⟨e,_⟩:=x;exact F3 e
 |tbl ps=>exact F3 (show h.get? a=n_ _ from x)
 |met f y=>exact F3 (show h.get? a=n_ _ from x)
 |ext φ=>obtain⟨_,⟨_,e⟩,_⟩:=x;exact F3 e
theorem Paired.mapP{α β:Type}{F G:α->β->Prop}:∀{c:List α}{d:List β},Paired F c d->(∀a b,F a b->G a b)->Paired G c d
|_,_,.nil,_=>.nil
|_,_,.cons r t,f=>.cons (f _ _ r) (Paired.mapP t f)
theorem BQ.stay(x:BQ P w H h a o)(k:∀b u,(b=a\/H b=n_ (.own a))->h.get? b=n_ u->h'.get? b=n_ u)
  (E:∀b,H b=n_ (.own a)->H' b=n_ (.own a)) (F:∀b xs,H b=n_ (.tup xs)->H' b=n_ (.tup xs)):BQ P w H' h' a o:=by
 induction o with
 |lst xs=>exact Rl x λz m n r e=>⟨z,m,n,r,k _ _ (.inl Z) e⟩
 |tup xs=>obtain⟨z,m,r,i,e,c⟩:=x;exact⟨z,m,r,i,k _ _ (.inl Z) e,c⟩
 |dK kvs=>exact Dh x λz y vs r g=>xe3 g λi l j s=>xa s λe c=>⟨z,y,vs,r,i,l,j,k _ _ (.inl Z) e,c⟩
 |dT kvs =>
  exact Dh x λz y xs r g=>xe3 g λi l j s=>xa s λe c=>⟨z,y,xs,Paired.mapP r λp q z=>⟨z.1,F _ _ z.2.1,z.2.2⟩,i,l,j,k _ _ (.inl Z) e,c⟩
 |set S n=>exact xe4 x λi l j t g=>xa g λe c=>⟨i,l,j,t,k _ _ (.inl Z) e,c⟩
 |ins C dx fs =>
  obtain⟨d,z,ne,e,A,⟨B,l,j,D,c⟩,r⟩:=x;exact⟨E _ d,z,ne,k _ _ (.inl Z) e,A,⟨B,l,j,k _ _ (.inr d) D,c⟩,r⟩
 |own y=>obtain⟨i,e⟩:=x;exact⟨i,k _ _ (.inl Z) e⟩
 |xd fs=>obtain⟨A,⟨B,l,j,e,c⟩,r⟩:=x;exact⟨A,⟨B,l,j,k _ _ (.inl Z) e,c⟩,r⟩
 |rng lo I=>obtain⟨t,u,v,e⟩:=x;exact⟨t,u,v,k _ _ (.inl Z) e⟩
 |frz i u G=>obtain⟨e,q⟩:=x;exact⟨k _ _ (.inl Z) e,G q⟩
 |tbl ps =>
  have e:=x;show h'.get? a=n_ {cls:=.none,data:=.fields ps};exact k a _ (.inl Z) e
 |met f y =>
  have e:=x;show h'.get? a=n_ (methodObj (.ref f) (.ref y));exact k a _ (.inl Z) e
 |ext φ=>obtain⟨p,⟨o,e⟩,st⟩:=x;exact⟨st _ _ p λo q=>k _ _ (.inl Z) q,⟨o,k _ _ (.inl Z) e⟩,st⟩
theorem HOk.lt(x:HOk P w H h)(e:H a=n_ o):a<h.objs.size:=(x a o e).lt
theorem HOk.fresh(x:HOk P w H h)(e:h.objs.size<=a):H a=o0:=by
 cases q:H a with
 |none=>rfl
 |some u=>exact absurd (D3 (x.lt q) e) (R6 _)
theorem HOk.kept(x:HOk P w H h)(k:∀b u,h.get? b=n_ u->h'.get? b=n_ u):HOk P w H h':=λa o e =>
 (x a o e).stay (λb u _ q=>k b u q) (λ_ q=>q) λ_ _ q=>q
theorem HOk.laid(x:HOk P w H h)(k:∀b u,h.get? b=n_ u->h'.get? b=n_ u)(g:h.objs.size<=a)(new:BQ P w (upd H a o) h' a o):HOk P w (upd H a o) h':=λb u e=>by
 have f:=x.fresh g;by_cases d:b=a
 .subst d;rw[Af]at e;cases e;exact new
 .rw[Ax d]at e;exact(x b u e).stay (λc v _ q=>k c v q) (λc q=>by rw[Ax (Av q f)];exact q) λc xs q=>by rw[Ax (Av q f)];exact q
end
def Rd(H:Hp)(a:R_)(u:HO):Prop:=H a=n_ u\/∃o,H a=n_ (.frz o u)
theorem Rd.ok{P:N_}{w:Q_}{H:Hp}{h:T_}{a:R_}{u:HO}(r:Rd H a u)(x:HOk P w H h):BQ P w H h a u:=by
 rcases r with r|⟨o,r⟩
 .exact x a u r
 .obtain⟨_,q⟩:=x a _ r;exact q
def Mut:Option HO->Prop
|some (.lst _)=>True
|some (.dK _)=>True
|some (.dT _)=>True
|some (.set _ _)=>True
|some (.ins _ _ _)=>True
|some (.ext _)=>True
|_=>False
section
variable{P:N_}{w:Q_}{H:Hp}{h h':T_}{x e:R_}{o':HO}
theorem HOk.write(ok:HOk P w H h)(j:Mut (H x))(m:e=x\/H e=n_ (.own x))(k:∀b u,b≠e->h.get? b=n_ u->h'.get? b=n_ u)(l:∃u,h'.get? e=n_ u)
  (new:BQ P w (upd H x o') h' x o'):HOk P w (upd H x o') h':=λb u q=>by
 have d:∀c y,H c=n_ (.own y)->c≠x:=λc y r z=>by subst z;rw[r]at j;exact j
 have f:∀c xs,H c=n_ (.tup xs)->c≠x:=λc xs r z=>by subst z;rw[r]at j;exact j
 by_cases g:b=x
 .subst g;rw[Af]at q;cases q;exact new
 .rw[Ax g]at q;by_cases a:b=e
  .have n:H b=n_ (.own x):=by
    rcases m with z|z
    .exact absurd (a.trans z) g
    .rw[a];exact z
   rw[q]at n;cases n;obtain⟨v,o⟩:=l;exact⟨v,by rw[a];exact o⟩
  .refine(ok b u q).stay (λc v i r=>k c v ?_ r) (λc r=>by rw[Ax (d c b r)];exact r) λc xs r=>by rw[Ax (f c xs r)];exact r
   rcases i with rfl|i
   .exact a
   .rintro rfl;rcases m with z|z
    .exact d c b i z
    .rw[i]at z;cases z;exact g Z
end
structure Un(fs ex:H_)(H H':Hp)(h h':T_):Prop where
keep:∀b o,h.get? b=n_ o->H b=o0->b∉fs->b∉ex->h'.get? b=n_ o
slot:∀b o,h.get? b=n_ o->H b=o0->b∈fs->b∉ex->∃sl,h'.get? b=n_ {o with slots:=sl}
free:∀b o,h.get? b=n_ o->H b=o0->b∉ex->H' b=o0
there:∀b o,h.get? b=n_ o->b∉ex->∃o',h'.get? b=n_ o'
tups:∀b xs,H b=n_ (.tup xs)->H' b=n_ (.tup xs)
frzs:∀b o u,H b=n_ (.frz o u)->H' b=n_ (.frz o u)
tbls:∀b ps,H b=n_ (.tbl ps)->∃more,H' b=n_ (.tbl (ps++more))
section
variable{fs fs' ex ex':H_}{H H1 H2:Hp}{h h1 h2 h':T_}{a x e:R_}{o:HO}
theorem Un.any(u:Un fs ex H H1 h h1){c:Obj}(q:h.get? b=n_ c)(n:H b=o0)(f:b∉ex):∃g,h1.get? b=n_ {c with slots:=g}:=by
 by_cases d:b∈fs
 .exact u.slot b c q n d f
 .exact⟨c.slots,u.keep b c q n d f⟩
theorem Un.kept(k:∀b u,h.get? b=n_ u->h'.get? b=n_ u):Un fs ex H H h h' :=
 ⟨λb c q _ _ _=>k b c q,λb c q _ _ _=>⟨c.slots,k b c q⟩,λ_ _ _ n _=>n,λb c q _=>⟨c,k b c q⟩,λ_ _ q=>q,λ_ _ _ q=>q,λ_ ps q=>⟨#[],by rw[q];simp⟩⟩
theorem Un.refl:Un fs ex H H h h:=Un.kept λ_ _ q=>q
theorem Un.laid(k:∀b u,h.get? b=n_ u->h'.get? b=n_ u)(d:h.objs.size<=a)(c:H a=o0):Un fs ex H (upd H a o) h h' where
 keep:=λb u q _ _ _=>k b u q
 slot:=λb u q _ _ _=>⟨u.slots,k b u q⟩
 free:=λb u q n _=>by rw[Ax (L8 (D3 (F3 q) d))];exact n
 there:=λb u q _=>⟨u,k b u q⟩
 tups:=λb xs q=>by rw[Ax (Av q c)];exact q
 frzs:=λb u xs q=>by rw[Ax (Av q c)];exact q
 tbls:=λb ps q=>⟨#[],by rw[Ax (Av q c),q];simp⟩
theorem Un.write(d:Mut (H x))(l:e=x\/H e=n_ (.own x))(k:∀b u,b≠e->h.get? b=n_ u->h'.get? b=n_ u)(f:∃u,h'.get? e=n_ u):Un fs ex H (upd H x o) h h':=by
 have j:∀b,H b=o0->b≠x:=λb n z=>by subst z;rw[n]at d;exact d
 have i:∀b,H b=o0->b≠e:=λb n z=>by
  subst z;rcases l with r|r
  .exact j b n r
  .rw[n]at r;cases r
 have g:∀b u,H b=n_ u->¬Mut (n_ u)->b≠x:=λb u q nm z=>by subst z;rw[q]at d;exact nm d
 refine⟨λb u q n _ _=>k b u (i b n) q,λb u q n _ _=>⟨u.slots,k b u (i b n) q⟩,λb u q n _=>by rw[Ax (j b n)];exact n,λb u q _=>?_,
  λb xs q=>by rw[Ax (g b _ q λz=>z)];exact q,λb u xs q=>by rw[Ax (g b _ q λz=>z)];exact q,λb ps q=>⟨#[],by rw[Ax (g b _ q λz=>z),q];simp⟩⟩
 by_cases c:b=e
 .subst c;exact f
 .exact⟨u,k b u c q⟩
end
def trk(h:T_)(H:Hp):List Addr:=(List.range h.objs.size).filter λa=>(H a).isSome
def Te(h:T_)(H:Hp):Heap:=W.hideAll h (trk h H)
theorem Zk(h:T_)(H:Hp):(Te h H).objs.size=h.objs.size:=W.hideAll_size _ _
theorem aBF(e:h.get? b=n_ o)(n:H b=o0):(Te h H).get? b=n_ o :=
 W.hideAll_get _ e λa=>by
  have q:=(V0.mp a).2;rw[n]at q;simp at q
theorem aCj(e:(Te h H).get? b=n_ o):h.get? b=n_ o/\H b=o0:=by
 have a:=W.of_hideAll (trk h H) e;refine⟨a,?_⟩;cases q:H b with
 |none=>rfl
 |some x =>
  have c:b∈trk h H:=V0.mpr ⟨M8.mpr (F3 a),by simp[q]⟩;have z:(Te h H).get? b=o0:=W.hideAll_none (trk h H) c;rw[z]at e;cases e
structure Mod(K:O_)(mg:C_)(n8:T_):Prop where
kin:K.In n8
glob:n8.Ns mainGlobals mg
blt:∃mb,n8.Ns builtinsNs mb/\∀x:Str,x≠"__name__" -> mb x=bootBuiltins x
nolimit:n8.NoLimit
structure Cx where
prog:Program
w:World
K:W.Frag
mg:Str->Option Value
n8:Heap
A:Around
N:List Str
s₀:Shared
H₀:Hp
env:Env
outer:List Env
stack:List Env
ex:List Addr
fn:Str->Bool
calm:Bool
pn:List (Addr×Obj)
xe:Value->Shared->Prop
def frs(l:List Env):List Addr:=l.filterMap (·.frame)
abbrev Cx.fs(X:Cx):List Addr:=frs X.outer
def Vis(sc:Scope)(x:Str):Prop:=sc.names.lookup x=n_ .local\/sc.names.lookup x=n_ .cell\/sc.names.lookup x=n_ .free
def Loc(sc:Scope)(x:Str):Prop:=sc.names.lookup x=n_ .local\/sc.names.lookup x=n_ .cell
def Look(env:Env)(h:T_)(m:C_)(x:Str)(u:S_):Prop :=
 (env.kindOf x=n_ .local/\m x=n_ u)\/((env.kindOf x=n_ .cell\/env.kindOf x=n_ .free)/\∃c,env.cells.lookup x=n_ c/\h.IsCell c (n_ u))
structure Cx.Ok(X:Cx):Prop where
mod:Mod X.K X.mg X.n8
kind:X.env.scope.kind=.function
glob:X.env.globals=mainGlobals
blt:X.env.builtins=builtinsNs
above:X.s₀.heap.objs.size<=X.env.locals
inj:∀x y c,X.env.cells.lookup x=n_ c->X.env.cells.lookup y=n_ c->x=y
has:∀x,(X.env.kindOf x=n_ .cell\/X.env.kindOf x=n_ .free)->∃c,X.env.cells.lookup x=n_ c
cab:∀x c,X.fn x=o4->X.env.cells.lookup x=n_ c->X.s₀.heap.objs.size<=c
hd:X.calm=o4->X.A.handled=o0
frames:X.A.frames=n_ X.stack
stk:X.stack=X.outer\/(X.stack=X.env::X.outer/\X.env.frame=n_ X.env.locals)
exf:∀b∈X.ex,b≠X.env.locals/\∀x c,X.env.cells.lookup x=n_ c->c≠b
bs:∀b o,X.n8.get? b=n_ o->X.s₀.heap.get? b=n_ o/\X.H₀ b=o0
bsz:X.n8.objs.size<=X.s₀.heap.objs.size
noex:∀b o,X.n8.get? b=n_ o->b∉X.ex
exfs:∀b∈X.ex,b∉X.fs
funs:X.s₀.heap.FunFrames X.n8 X.outer
frf:∀b∈X.fs,X.H₀ b=o0
structure Inv(X:Cx)(n9:A_)(σ:List (Option V))(H:Hp)(s:P_):Prop where
ok:X.Ok
os:s.os=X.s₀.os
bare:AllBare s.gens
n8:Un X.fs X.ex X.H₀ H X.s₀.heap s.heap
loc:∃m,s.heap.Ns X.env.locals m/\∀(i:Nat)(x:Str)(v:V),X.N[i]?=n_ x->σ[i]?=n_ (n_ v)->Vis X.env.scope x->∃u,Bh v u/\Look X.env s.heap m x u
cell:∀x c,X.env.cells.lookup x=n_ c->∃v,s.heap.IsCell c v
free:H X.env.locals=o0
freeC:∀x c,X.env.cells.lookup x=n_ c->H c=o0
pin:∀p∈X.pn++n9,s.heap.get? p.1=n_ p.2/\H p.1=o0/\p.1≠X.env.locals/\p.1∉X.fs/\∀v,p.2.data≠.cell v
hok:HOk X.prog X.w H s.heap
len:σ.length=X.N.length
section
variable{X:Cx}{n9:A_}{σ:List (Option V)}{H H':Hp}{s:P_}{h':T_}
theorem Cx.Ok.nofr(ok:X.Ok)(e:X.n8.get? b=n_ o):b∉X.fs:=λa=>by
 have:=(ok.funs.mem a).1;rw[e]at this;cases this
theorem Inv.bs(I:Inv X n9 σ H s):∀b o,X.n8.get? b=n_ o->s.heap.get? b=n_ o/\H b=o0:=λb o e =>
 ⟨I.n8.keep b o (I.ok.bs b o e).1 (I.ok.bs b o e).2 (I.ok.nofr e) (I.ok.noex b o e),I.n8.free b o (I.ok.bs b o e).1 (I.ok.bs b o e).2 (I.ok.noex b o e)⟩
theorem Inv.bk(I:Inv X n9 σ H s):∀b o,X.n8.get? b=n_ o->s.heap.get? b=n_ o:=λb o e=>(I.bs b o e).1
theorem Inv.mod(I:Inv X n9 σ H s):Mod X.K X.mg X.n8:=I.ok.mod
theorem Inv.kIn(I:Inv X n9 σ H s):X.K.In s.heap:=I.ok.mod.kin.keeps I.bk
theorem Inv.lt(I:Inv X n9 σ H s):X.env.locals<s.heap.objs.size:=let ⟨_,hn,_⟩:=I.loc;hn.lt
theorem Inv.sz(I:Inv X n9 σ H s):X.s₀.heap.objs.size<=s.heap.objs.size:=C5 I.ok.above (Q7 I.lt)
theorem Inv.nofs(I:Inv X n9 σ H s)(h:s.heap.objs.size<=a):a∉X.fs:=λb=>by
 exact MD (I.ok.funs.mem b) λ_ o c _=>absurd (D3 (F3 c) (C5 I.sz h)) (R6 _)
theorem Inv.cne(I:Inv X n9 σ H s):∀x c,X.env.cells.lookup x=n_ c->c≠X.env.locals:=λx c e z=>by
 refine Cw (I.cell x c e) λv o f d=>?_;obtain⟨m,⟨o',h,g,b,a,_⟩,_⟩:=I.loc;rw[z,b]at f;cases f;rw[a]at d;cases d
theorem Inv.funs (I:Inv X n9 σ H s):s.heap.FunFrames X.n8 X.outer:=by
 have all:∀(l:List Env),(∀b∈frs l,b∈X.fs)->X.s₀.heap.FunFrames X.n8 l->s.heap.FunFrames X.n8 l:=by
  intro l;induction l with
  |nil=>intro _ _;trivial
  |cons g r p =>
   intro f j;obtain⟨i,⟨L,o,d,k,m,h⟩,n⟩:=j;have a:=f L (by unfold frs;rw[K3,d];exact C8);obtain⟨q,e⟩:=I.n8.slot L o m (I.ok.frf L a) a λz=>I.ok.exfs L z a;exact⟨i,⟨L,_,d,k,e,h⟩,p (λb c=>f b (by unfold frs;rw[K3,d];exact C9 _ c)) n⟩
 exact all X.outer (λ_ c=>c) I.ok.funs
theorem Inv.stack(I:Inv X n9 σ H s):s.heap.FunFrames X.n8 X.stack:=by
 rcases I.ok.stk with e|⟨e,a⟩
 .rw[e];exact I.funs
 .rw[e];refine xea I.loc λm b _=>.cons (by rw[I.ok.kind];decide) a b ?_ I.funs;exact R0 (C5 I.ok.bsz I.ok.above)
theorem Inv.stkSub(I:Inv X n9 σ H s):∀b∈frs X.stack,b∈X.env.locals::X.fs:=λb a=>by
 rcases I.ok.stk with e|⟨e,c⟩
 .rw[e]at a;exact C9 _ a
 .rw[e]at a;unfold frs at a;rw[K3,c]at a;exact a
theorem Inv.stkFree(I:Inv X n9 σ H s):∀b∈frs X.stack,H b=o0:=λb a=>by
 rcases C1.mp (I.stkSub b a)with e|a
 .rw[e];exact I.free
 .exact MD (I.ok.funs.mem a) λ_ o c _=>I.n8.free b o c (I.ok.frf b a) λz=>I.ok.exfs b z a
theorem Inv.step{g':Array GenState}{t':Nat}{d':Drawn}{ch:H_}(I:Inv X n9 σ H s)
  (h:∀b∈ch,(b∈X.ex\/X.s₀.heap.objs.size<=b)/\b≠X.env.locals/\(∀x c,X.env.cells.lookup x=n_ c->c≠b)/\∀p∈X.pn++n9,p.1≠b)
  (keep:∀b o,b≠X.env.locals->b∉X.fs->b∉ch->s.heap.get? b=n_ o->H b=o0->h'.get? b=n_ o)
  (t:∀b o,b≠X.env.locals->b∈X.fs->b∉ch->s.heap.get? b=n_ o->H b=o0->∃O,h'.get? b=n_ {o with slots:=O}) (a:∀b o,b∉ch->s.heap.get? b=n_ o->H b=o0->H' b=o0)
  (there:∀b o,b∉ch->s.heap.get? b=n_ o->∃o',h'.get? b=n_ o')
  (D:∀b xs,H b=n_ (.tup xs)->H' b=n_ (.tup xs)) (B:∀b o u,H b=n_ (.frz o u)->H' b=n_ (.frz o u)) (C:∀b ps,H b=n_ (.tbl ps)->∃K,H' b=n_ (.tbl (ps++K)))
  (ns:∀m,s.heap.Ns X.env.locals m->h'.Ns X.env.locals m) (N:HOk X.prog X.w H' h') (U:AllBare g') :
  Inv X n9 σ H' {s with heap:=h',gens:=g',drawn:=d',toks:=t'}:=by
 have L:∀b o,X.s₀.heap.get? b=n_ o->b≠X.env.locals:=λb o e=>L8 (D3 (F3 e) I.ok.above);have A:∀b o,X.s₀.heap.get? b=n_ o->b∉X.ex->b∉ch:=λb o e f E=>by
  rcases(h b E).1 with z|z
  .exact f z
  .exact absurd (D3 (F3 e) z) (R6 _)
 have g:∀x c,X.env.cells.lookup x=n_ c->∀v,s.heap.IsCell c v->h'.IsCell c v:=λx c e v ⟨o,F,M⟩=>by
  have j:c∉ch:=λz=>(h c z).2.2.1 x c e Z;by_cases Q:c∈X.fs
  .obtain⟨O,q⟩:=t c o (I.cne x c e) Q j F (I.freeC x c e);exact⟨_,q,M⟩
  .exact⟨o,keep c o (I.cne x c e) Q j F (I.freeC x c e),M⟩
 refine⟨I.ok,I.os,U,⟨λb o e n E f=>?_,λb o e n E f=>?_,λb o e n f=>?_,λb o e f=>?_,λb xs e=>D b xs (I.n8.tups b xs e),λb o xs e=>B b o xs (I.n8.frzs b o xs e),λb ps e=>?_⟩,?_,λx c e=>?_,?_,λx c e=>?_,λp R=>?_,N,I.len⟩
 .exact keep b o (L b o e) E (A b o e f) (I.n8.keep b o e n E f) (I.n8.free b o e n f)
 .obtain⟨O,y⟩:=I.n8.slot b o e n E f;obtain⟨P,G⟩:=t b _ (L b o e) E (A b o e f) y (I.n8.free b o e n f);exact⟨P,G⟩
 .obtain⟨o',y⟩:=I.n8.there b o e f;exact a b o' (A b o e f) y (I.n8.free b o e n f)
 .obtain⟨o',y⟩:=I.n8.there b o e f;exact there b o' (A b o e f) y
 .obtain⟨Y,y⟩:=I.n8.tbls b ps e;obtain⟨m2,G⟩:=C b _ y;exact⟨Y++m2,by rw[G,Array.append_assoc]⟩
 .refine xea I.loc λm W V=>⟨m,ns m W,λi x v y G T=>?_⟩
  refine xea (V i x v y G T) λu r l=>⟨u,r,?_⟩
  rcases l with l|⟨k,c,e,z⟩
  .exact .inl l
  .exact .inr ⟨k,c,e,g x c e _ z⟩
 .obtain⟨v,z⟩:=I.cell x c e;exact⟨v,g x c e v z⟩
 .obtain⟨m,⟨o,_,_,F,_⟩,_⟩:=I.loc;exact a _ o (λz=>(h _ z).2.1 Z) F I.free
 .exact Cw (I.cell x c e) λv o F M=>a c o (λz=>(h c z).2.2.1 x c e Z) F (I.freeC x c e)
 .refine xa4 (I.pin p R) λe n ne S d=>?_;have j:p.1∉ch:=λz=>(h p.1 z).2.2.2 p R Z;exact⟨keep p.1 p.2 ne S j e n,a p.1 p.2 j e n,ne,S,d⟩
theorem Inv.un{t':Nat}(I:Inv X n9 σ H s)(u:Un X.fs [] H H' s.heap h')(g:HOk X.prog X.w H' h'):Inv X n9 σ H' {s with heap:=h',toks:=t'}:=by
 obtain⟨m,⟨o,q,p,i,r⟩,_⟩:=id I.loc;obtain⟨v,j⟩:=u.any i I.free B0;exact I.step (g':=s.gens) (d':=s.drawn) (ch:=[]) (λ_ z=>nomatch z) (λb o _ f _ e n=>u.keep b o e n f B0) (λb o _ f _ e n=>u.slot b o e n f B0) (λb o _ e n=>u.free b o e n B0) (λb o _ e=>u.there b o e B0) u.tups u.frzs u.tbls (λt k=>by
  refine xe3 k λo' d c h=>xa h λa l=>?_;rw[i]at a;cases a;exact⟨_,d,c,j,l⟩) g I.bare
theorem Inv.call{g':Array GenState}{t':Nat}{d':Drawn}{ch:H_}(I:Inv X n9 σ H s)(u:Un (frs X.stack) ch H H' s.heap h')(j:HOk X.prog X.w H' h')(t:AllBare g')
  (d:∀b∈ch,(b∈X.ex\/X.s₀.heap.objs.size<=b)/\b≠X.env.locals/\(∀x c,X.env.cells.lookup x=n_ c->c≠b)/\∀p∈X.pn++n9,p.1≠b) :
  Inv X n9 σ H' {s with heap:=h',gens:=g',drawn:=d',toks:=t'}:=by
 obtain⟨m,⟨o,B,A,l,r⟩,_⟩:=id I.loc;obtain⟨D,i⟩:=u.any l I.free λz=>(d _ z).2.1 Z;exact I.step (ch:=ch) d (λb o i q a e n=>u.keep b o e n (λz=>(C1.mp (I.stkSub b z)).elim i q) a) (λb o _ _ a e n=>u.any e n a) (λb o a e n=>u.free b o e n a) (λb o a e=>u.there b o e a) u.tups u.frzs u.tbls (λC v=>by
  refine xe3 v λo' h g k=>xa k λf y=>?_;rw[l]at f;cases f;exact⟨_,h,g,i,y⟩) j t
theorem Inv.turned{t':Nat}{it:R_}(I:Inv X n9 σ H s)(k:∀b o,b≠it->s.heap.get? b=n_ o->h'.get? b=n_ o)(A:H it=o0)(g:it≠X.env.locals)
  (j:it∈X.ex\/X.s₀.heap.objs.size<=it) (l:∀x c,X.env.cells.lookup x=n_ c->c≠it) (t:∀p∈X.pn++n9,p.1≠it):Inv X n9 σ H {s with heap:=h',toks:=t'}:=by
 have d:∀b u,H b=n_ u->b≠it:=λb u e z=>by rw[z,A]at e;cases e
 refine I.step (g':=s.gens) (d':=s.drawn) (ch:=[it]) (λb w=>?_) (λb o _ _ a e _=>k b o (λz=>a (by simp[z])) e) (λb o _ _ a e _=>⟨o.slots,k b o (λz=>a (by simp[z])) e⟩) (λ_ _ _ _ n=>n)
  (λb o a e=>⟨o,k b o (λz=>a (by simp[z])) e⟩) (λ_ _ e=>e) (λ_ _ _ e=>e) (λb ps e=>⟨#[],by rw[e];simp⟩) (λm y=>?_) (λb u e=>?_) I.bare
 .have e:b=it:=by simpa using w
  subst e;exact⟨j,g,l,t⟩
 .exact xe3 y λo i h f=>xa f λB r=>⟨o,i,h,k _ o (A1a g) B,r⟩
 .refine(I.hok b u e).stay (λc v a q=>k c v ?_ q) (λ_ q=>q) λ_ _ q=>q;rcases a with z|z
  .rw[z];exact d b u e
  .exact d c _ z
theorem Inv.tok(I:Inv X n9 σ H s)(t:Nat):Inv X n9 σ H {s with toks:=t}:=I.un (h':=s.heap) (t':=t) Un.refl I.hok
theorem Inv.kept(I:Inv X n9 σ H s)(k:∀b u,s.heap.get? b=n_ u->h'.get? b=n_ u):Inv X n9 σ H {s with heap:=h',toks:=t'}:=I.un (Un.kept k) (I.hok.kept k)
theorem Inv.laid(I:Inv X n9 σ H s)(k:∀b u,s.heap.get? b=n_ u->h'.get? b=n_ u)(c:s.heap.objs.size<=a)(new:BQ X.prog X.w (upd H a o) h' a o) :
 Inv X n9 σ (upd H a o) {s with heap:=h',toks:=t'}:=I.un (Un.laid k c (I.hok.fresh c)) (I.hok.laid k c new)
theorem Inv.write(I:Inv X n9 σ H s)(d:Mut (H x))(c:e=x\/H e=n_ (.own x))(k:∀b u,b≠e->s.heap.get? b=n_ u->h'.get? b=n_ u)(a:∃u,h'.get? e=n_ u)
 (new:BQ X.prog X.w (upd H x o) h' x o):Inv X n9 σ (upd H x o) {s with heap:=h',toks:=t'}:=I.un (Un.write d c k a) (I.hok.write d c k a new)
theorem Inv.weak(I:Inv X n9 σ H s)(d:σ'.length=σ.length)(w:∀(i:Nat) v,σ'[i]?=n_ (n_ v)->σ[i]?=n_ (n_ v)):Inv X n9 σ' H s :=
 ⟨I.ok,I.os,I.bare,I.n8,let ⟨m,hn,hl'⟩:=I.loc;⟨m,hn,λi x v a b c=>hl' i x v a (w i v b) c⟩,I.cell,I.free,I.freeC,I.pin,I.hok,d.trans I.len⟩
theorem Inv.pins_of(I:Inv X n9 σ H s)(h:∀p∈a,s.heap.get? p.1=n_ p.2/\H p.1=o0/\p.1≠X.env.locals/\p.1∉X.fs/\∀v,p.2.data≠.cell v):Inv X a σ H s :=
 ⟨I.ok,I.os,I.bare,I.n8,I.loc,I.cell,I.free,I.freeC,λp b=>(F6.mp b).elim (λz=>I.pin p (V8 _ z)) (h p),I.hok,I.len⟩
theorem Uy{N:K_}(e:N.Nodup){i j:Nat}{x:Str}(a:N[i]?=n_ x)(b:N[j]?=n_ x):i=j:=by
 obtain⟨f,c⟩:=B9.mp a;obtain⟨g,d⟩:=B9.mp b;exact(List.getElem_inj e).mp (c.trans d.symm)
theorem Rt{M:Model}{A:Around}{E:B_}{i:Nat}{x:Str}{v:V}{u:S_}{Q:Unit->Shared->Prop}(I:Inv X n9 σ H s)(hN:X.N.Nodup)(T:X.N[i]?=n_ x)(B:Loc X.env.scope x)(r:Bh v u)
  (h:∀s',Inv X n9 (σ.set i (n_ v)) H s'->(∃a,Heap.SameBut a s.heap s'.heap/\(a=X.env.locals\/X.env.cells.lookup x=n_ a))->Q () s') (hf:X.fn x=o4\/X.env.scope.names.lookup x=n_ .local:=by first|exact .inl rfl|exact .inr rfl|assumption):wpAny M A (storeName X.env x u) Q E s:=by
 refine xea (id I.loc) λm hn hl=>?_;have S:(X.env.scope.kind==.class || (X.env.scope.kind==.module && X.env.locals != X.env.globals))=o5:=by rw[I.ok.kind];rfl
 have F:i<σ.length:=by rw[I.len];exact(B9.mp T).1
 have cne:=I.cne;have l:∀{a:R_}{h':T_},(∃o,s.heap.get? a=n_ o/\H a=o0)->Heap.SameBut a s.heap h'->HOk X.prog X.w H h':=λ{a h'} ha f b ob e=>by
  refine xea ha λ_ _ C=>(I.hok b ob e).stay (λc w' t q=>(f.2 c ?_).trans q) (λ_ q=>q) λ_ _ q=>q;rintro rfl;rcases t with rfl|t
  .rw[C]at e;cases e
  .rw[C]at t;cases t
 rcases B with G|G
 .refine wpAny_storeName_local G hn (λh' aa f=>?_) S;refine xe3 (id hn) λoL _ _ ac=>xa ac λab _=>h _ ⟨I.ok,I.os,I.bare,⟨λb o e n K B=>?_,λb o e n K B=>?_,I.n8.free,λb o e B=>?_,I.n8.tups,I.n8.frzs,I.n8.tbls⟩,⟨_,aa,λj y v' g D e3=>?_⟩,λy c e=>?_,I.free,I.freeC,λp hp=>?_,l ⟨oL,ab,I.free⟩ f,by simpa using I.len⟩ ⟨_,f,.inl Z⟩
  .exact(f.2 b (L8 (D3 (F3 e) I.ok.above))).trans (I.n8.keep b o e n K B)
  .obtain⟨sl,g⟩:=I.n8.slot b o e n K B;exact⟨sl,(f.2 b (L8 (D3 (F3 e) I.ok.above))).trans g⟩
  .obtain⟨o',g⟩:=I.n8.there b o e B;exact⟨o',(f.2 b (L8 (D3 (F3 e) I.ok.above))).trans g⟩
  .by_cases O:j=i
   .subst O;rw[T]at g;cases g;rw[List.getElem?_set_self F]at D;cases D;exact⟨u,r,.inl ⟨G,by simp⟩⟩
   .rw[List.getElem?_set_ne (A1a O)]at D;refine xea (hl j y v' g D e3) λu' r' q=>⟨u',r',?_⟩
    rcases q with ⟨k,e⟩|⟨k,c,e,z⟩
    .refine .inl ⟨k,?_⟩;have:y≠x:=λe=>O (Uy hN g (e▸T));simp[this,e]
    .exact .inr ⟨k,c,e,z.sameBut f (cne y c e)⟩
  .obtain⟨w',z⟩:=I.cell y c e;exact⟨w',z.sameBut f (cne y c e)⟩
  .exact xa4 (I.pin p hp) λe n ne nf d=>⟨(f.2 p.1 ne).trans e,n,ne,nf,d⟩
 .have L:X.fn x=o4:=by
   rcases hf with z|z
   .exact z
   .rw[z]at G;cases G
  obtain⟨c,t⟩:=I.ok.has x (.inl G);obtain⟨w',z⟩:=I.cell x c t;refine wpAny_storeName_cell I.ok.kind G t z (λh' P f=>?_);refine xea (id z) λoc U W=>h {s with heap:=h'} ⟨I.ok,I.os,I.bare,⟨λb o e n K B=>?_,λb o e n K B=>?_,I.n8.free,λb o e B=>?_,I.n8.tups,I.n8.frzs,I.n8.tbls⟩,⟨m,hn.sameBut f (A1a (cne x c t)),λj y v' g D e3=>?_⟩,λy Y e=>?_,I.free,I.freeC,λp hp=>?_,l ⟨oc,U,I.freeC x c t⟩ f,by simpa using I.len⟩ ⟨c,f,.inr t⟩
  .exact(f.2 b (L8 (D3 (F3 e) (I.ok.cab x c L t)))).trans (I.n8.keep b o e n K B)
  .obtain⟨sl,g⟩:=I.n8.slot b o e n K B;exact⟨sl,(f.2 b (L8 (D3 (F3 e) (I.ok.cab x c L t)))).trans g⟩
  .obtain⟨o',g⟩:=I.n8.there b o e B;exact⟨o',(f.2 b (L8 (D3 (F3 e) (I.ok.cab x c L t)))).trans g⟩
  .by_cases O:j=i
   .subst O;rw[T]at g;cases g;rw[List.getElem?_set_self F]at D;cases D;exact⟨u,r,.inr ⟨.inl G,c,t,P⟩⟩
   .rw[List.getElem?_set_ne (A1a O)]at D;refine xea (hl j y v' g D e3) λu' r' q=>⟨u',r',?_⟩
    rcases q with q|⟨k,Y,e,z'⟩
    .exact .inl q
    .refine .inr ⟨k,Y,e,z'.sameBut f ?_⟩;rintro rfl;exact O (Uy hN g (I.ok.inj _ _ _ e t▸T))
  .by_cases R:Y=c
   .subst R;exact⟨_,P⟩
   .obtain⟨w2,z2⟩:=I.cell y Y e;exact⟨w2,z2.sameBut f R⟩
  .refine xa4 (I.pin p hp) λe n ne nf d=>⟨(f.2 p.1 ?_).trans e,n,ne,nf,d⟩
   intro q;rw[q,U]at e;have q':=A1f e;exact d w' (by rw[<-q'];exact W)
theorem TN(I:Inv X n9 σ H s)(c:X.N.Nodup)(e:X.N[i]?=n_ x)(f:Loc X.env.scope x)(r:Bh v u)
  (h:∀a,Inv X n9 (σ.set i (n_ v)) H a->Q () a) (d:X.fn x=o4\/X.env.scope.names.lookup x=n_ .local:=by first|exact .inl rfl|exact .inr rfl|assumption):wpAny M A (storeName X.env x u) Q E s :=
 Rt I c e f r (λa b _=>h a b) d
theorem Inv.call'(I:Inv X n9 σ H s)(h:a.os=s.os)(u:Un (frs X.stack) ch H H' s.heap a.heap)(f:HOk X.prog X.w H' a.heap)(g:AllBare a.gens)
  (d:∀b∈ch,(b∈X.ex\/X.s₀.heap.objs.size<=b)/\b≠X.env.locals/\(∀x c,X.env.cells.lookup x=n_ c->c≠b)/\∀p∈X.pn++n9,p.1≠b):Inv X n9 σ H' a:=by
 obtain⟨h',g',d',t',o'⟩:=a;have e:=h;subst e;exact I.call (g':=g') (t':=t') (d':=d') u f g d
end
abbrev XK:=Value->Option Addr->Hp->Prop
abbrev St:=List (Option V)
abbrev VK:=V->Hp->Prop
abbrev TE:=St->Hp->VK->Prop
abbrev TT:=St->Hp->(Bool->Hp->Prop)->Prop
abbrev TA:=St->Hp->(List V->Hp->Prop)->Prop
structure Jc where
nx:St->Hp->Prop
rt:VK
bk:St->Hp->Prop:=λ_ _=>False
ct:St->Hp->Prop:=λ_ _=>False
abbrev TS:=Jc->St->Hp->Prop
def EP(X:Cx)(n9:A_)(σ:St)(Q:VK)(u:S_)(s':P_):Prop:=∃v H',Inv X n9 σ H' s'/\Bh v u/\Q v H'
def TP(X:Cx)(n9:A_)(σ:St)(Q:Bool->Hp->Prop)(b:Bool)(s':P_):Prop:=∃H',Inv X n9 σ H' s'/\Q b H'
def AP(X:Cx)(n9:A_)(σ:St)(Q:List V->Hp->Prop)(us:F_)(s':P_):Prop:=∃vs H',Inv X n9 σ H' s'/\AU vs us/\Q vs H'
def SP(X:Cx)(n9:A_)(D:Jc)(f:Flow)(s':P_):Prop :=
 match f with
 |.next=>∃σ' H',Inv X n9 σ' H' s'/\D.nx σ' H'
 |.brk=>∃σ' H',Inv X n9 σ' H' s'/\D.bk σ' H'
 |.cont=>∃σ' H',Inv X n9 σ' H' s'/\D.ct σ' H'
 |.ret u=>∃v σ' H',Inv X n9 σ' H' s'/\Bh v u/\D.rt v H'
def PE(X:Cx)(e:Expr)(t:TE):Prop :=
 ∀(n9:A_)(s:P_)(σ:St)(H:Hp)(Q:VK),Inv X n9 σ H s->t σ H Q->wpAny (model X.prog X.w) X.A (eval e X.env) (EP X n9 σ Q) X.xe s
def PT(X:Cx)(e:Expr)(t:TT):Prop :=
 ∀(n9:A_)(s:P_)(σ:St)(H:Hp)(Q:Bool->Hp->Prop),Inv X n9 σ H s->t σ H Q->wpAny (model X.prog X.w) X.A (isTrue e X.env (eval e X.env)) (TP X n9 σ Q) X.xe s
def PW(X:Cx)(e:Expr)(t:TT):Prop :=
 ∀(whole:Sem Value)(n9:A_)(s:P_)(σ:St)(H:Hp)(Q:Bool->Hp->Prop),Inv X n9 σ H s->t σ H Q->wpAny (model X.prog X.w) X.A (isTrue e X.env whole) (TP X n9 σ Q) X.xe s
theorem PW.pt{t:TT}(h:PW X e t):PT X e t:=h _
def PA(X:Cx)(es:List Expr)(t:TA):Prop :=
 ∀(pos:Pos)(n9:A_)(s:P_)(σ:St)(H:Hp)(Q:List V->Hp->Prop),Inv X n9 σ H s->t σ H Q->wpAny (model X.prog X.w) X.A (spliced (backTo pos (starEach es X.env))) (AP X n9 σ Q) X.xe s
def PS(X:Cx)(st:Stmt)(t:TS):Prop :=
 ∀(n9:A_)(s:P_)(σ:St)(H:Hp)(D:Jc),Inv X n9 σ H s->t D σ H->wpAny (model X.prog X.w) X.A (exec st X.env) (SP X n9 D) X.xe s
def PSs(X:Cx)(st:List Stmt)(t:TS):Prop :=
 ∀(n9:A_)(s:P_)(σ:St)(H:Hp)(D:Jc),Inv X n9 σ H s->t D σ H->wpAny (model X.prog X.w) X.A (execs st X.env) (SP X n9 D) X.xe s
theorem thn{α:Type}{t:Sem α}{Q b:α->Shared->Prop}{M:Model}{A:Around}{E:B_}{s:P_}(h:wpAny M A t Q E s)(c:∀a s,Q a s->b a s):wpAny M A t b E s:=A3d h c λ_ _ x=>x
section
variable{X:Cx}
def GY(i:Nat):TE:=fun σ H Q=>∃v,σ[i]?=n_ (n_ v)/\Q v H
def tC(v:V):TE:=λ_ H Q=>Q v H
theorem aFU(k:X.N[i]?=n_ x)(q:Vis X.env.scope x)(g:(x==("__debug__" : Str))=o5:=by decide)(f:(x==("__classdict__" : Str))=o5:=by decide):PE X (.Name x pos) (GY i):=by
 intro d s σ H Q I h;refine xea h λv e h=>xea I.loc λm p n=>xea (n i x v k e q) λu r l=>?_;have fin:EP X d σ Q u s:=⟨v,H,I,r,h⟩
 rcases l with ⟨b,o⟩|⟨b,c,j,a⟩
 .exact wpAny_Name (wpAny_loadName_local I.ok.kind b p o fin) g
 .rcases b with b|b
  .exact wpAny_Name (wpAny_loadName_cell I.ok.kind b j a fin) g
  .exact wpAny_Name (wpAny_loadName_free I.ok.kind b j a fin f) g
theorem Ac{i j pos}:PE X (.Constant (.int i) j pos) (tC (.int i)):=λ_ _ _ H _ I h=>wpAny_Constant_int ⟨.int i,H,I.tok _,⟨_,Z⟩,h⟩
theorem OK{b j pos}:PE X (.Constant (.bool b) j pos) (tC (.bl b)):=λ_ _ _ H _ I h=>Constant_bool ⟨.bl b,H,I,Z,h⟩
theorem Cg{j pos}:PE X (.Constant .none j pos) (tC .non):=λ_ _ _ H _ I h=>Constant_none ⟨.non,H,I,Z,h⟩
theorem FQ{x j pos}:PE X (.Constant (.str x) j pos) (tC (.str x)):=λ_ _ _ H _ I h=>Calls.Constant_str ⟨.str x,H,I.tok _,⟨_,Z⟩,h⟩
def Gl(X:Cx)(x:Str):Prop:=X.env.kindOf x=n_ .globalImplicit
theorem Pr(I:Inv X a σ H s)(c:Gl X x)(d:X.mg x=n_ u)(h:Q u s)
  (b:(x==("__debug__" : Str))=o5:=by decide):wpAny (model X.prog X.w) X.A (eval (.Name x pos) X.env) Q E s :=
 Calls.Name_function_global I.ok.kind c (Calls.loadGlobal_global (by rw[I.ok.glob];exact I.mod.glob.keeps I.bk) d h) b
theorem LQ(I:Inv X a σ H s)(e:Gl X x)(f:X.mg x=o0)(i:bootBuiltins x=n_ u)(h:Q u s)
  (g:x≠"__name__" := by decide) (d:(x==("__debug__" : Str))=o5:=by decide):wpAny (model X.prog X.w) X.A (eval (.Name x pos) X.env) Q E s:=by
 exact xea I.mod.blt λj b c=>Calls.Name_function_global I.ok.kind e (Calls.loadGlobal_builtin (by rw[I.ok.glob];exact I.mod.glob.keeps I.bk) f (by rw[I.ok.blt];exact b.keeps I.bk) ((c x g).trans i) h) d
theorem SD(b:Gl X x)(c:X.mg x=n_ u)(r:Bh v u)(a:(x==("__debug__" : Str))=o5:=by decide):PE X (.Name x pos) (tC v) :=
 λ_ _ _ H _ I h=>Pr I b c ⟨v,H,I,r,h⟩ a
theorem Jx(b:Gl X x)(c:X.mg x=o0)(e:bootBuiltins x=n_ u)(r:Bh v u)(d:x≠"__name__" := by decide)(a:(x==("__debug__" : Str))=o5:=by decide):PE X (.Name x pos) (tC v) :=
 λ_ _ _ H _ I h=>LQ I b c e ⟨v,H,I,r,h⟩ d a
variable{a b:Expr}{ta tb:TE}{pos:Pos}
def PC(X:Cx)(op:CmpOp)(a b:Expr)(t:TE):Prop :=
 ∀(n9:A_)(s:P_)(σ:St)(H:Hp)(Q:VK),Inv X n9 σ H s->t σ H Q ->
  wpAny (model X.prog X.w) X.A (eval a X.env) (λv s₁=>wpAny (model X.prog X.w) X.A (eval b X.env) (λu s₂=>wpAny (model X.prog X.w) X.A (compareOp op v u) (EP X n9 σ Q) X.xe s₂) X.xe s₁) X.xe s
def tB(t:TE):TT:=fun σ H Q=>t σ H λx H1=>∃c,x=.bl c/\Q c H1
theorem aFY{t:TE}(h:PC X i a b t)(g:behindInMarks i b=o5:=by first|exact nobehind _ A4 A4|rfl):PT X (.Compare a [i] [b] pos) (tB t):=by
 intro e s σ H Q I o;refine wpAny_isTrue_Compare1 (thn (h e s σ H _ I o) λv r g=>thn g λu w m=>thn m λc y n=>?_) g;refine AS n λx k l p j=>xea j λd f q=>?_;clear j;subst f;cases p;exact A3c ⟨k,l,q⟩
theorem CP{e:Expr}{t:TE}(h:PE X e t)(m:∀c,isTrue e X.env c=(do let v <-c;standAt e.pos;holding [v] (truthy v)):=by intro _;rfl):PT X e (tB t):=by
 intro f s σ H Q I n;refine isTrue_plain (thn (h f s σ H _ I n) λv p l=>?_) (m _);refine AS l λx j k o i=>xea i λd g q=>?_;clear i;subst g;cases o;exact A3c ⟨j,k,q⟩
variable{tA tB':TT}{rest:List Expr}
def tAnd(t u:TT):TT:=fun σ H Q=>t σ H λc H1=>if c=o4 then u σ H1 Q else Q o5 H1
def tOr(t u:TT):TT:=fun σ H Q=>t σ H λc H1=>if c=o4 then Q o4 H1 else u σ H1 Q
def tNot(t:TT):TT:=fun σ H Q=>t σ H λc H1=>Q (!c) H1
theorem Jw(f:PT X a tA):PW X (.BoolOp .And [a] pos) tA:=by
 intro i d s σ H Q I h;refine isTrue_and (thn (f d s σ H Q I h) λc g e=>?_);cases c with
 |true=>exact isTrue_and_nil e
 |false=>exact e
theorem Jv(f:PT X a tA):PW X (.BoolOp .Or [a] pos) tA:=by
 intro i d s σ H Q I h;refine isTrue_or (thn (f d s σ H Q I h) λc g e=>?_);cases c with
 |false=>exact isTrue_or_nil e
 |true=>exact e
theorem MR(j:PT X a tA)(k:PW X (.BoolOp .And (b::rest) pos) tB'):PW X (.BoolOp .And (a::b::rest) pos) (tAnd tA tB'):=by
 intro m d s σ H Q I h;refine isTrue_and (thn (j d s σ H _ I h) λc l i=>?_);refine xea i λe f g=>?_;cases c with
 |true=>exact k m d l σ e Q f g
 |false=>exact⟨e,f,g⟩
theorem Nt(j:PT X a tA)(k:PW X (.BoolOp .Or (b::rest) pos) tB'):PW X (.BoolOp .Or (a::b::rest) pos) (tOr tA tB'):=by
 intro m d s σ H Q I h;refine isTrue_or (thn (j d s σ H _ I h) λc l i=>?_);refine xea i λe f g=>?_;cases c with
 |true=>exact⟨e,f,g⟩
 |false=>exact k m d l σ e Q f g
theorem Dr(f:PT X a tA):PT X (.UnaryOp .Not a pos) (tNot tA):=by
 intro d s σ H Q I h;exact isTrue_not (f d s σ H (λc e=>Q (!c) e) I h)
def aHs(ta tb:TE):TE:=fun σ H Q=>ta σ H λx H1=>∃c,x=.bl c/\if c=o4 then tb σ H1 Q else Q (.bl o5) H1
def tOrV(ta tb:TE):TE:=fun σ H Q=>ta σ H λx H1=>∃c,x=.bl c/\if c=o4 then Q (.bl o4) H1 else tb σ H1 Q
def aHx(ta:TE):TE:=fun σ H Q=>ta σ H λx H1=>∃c,x=.bl c/\Q (.bl (!c)) H1
theorem MS{op}{t:TE}(h:PE X a t):PE X (.BoolOp op [a] pos) t:=λc s σ H Q I d=>BoolOp_one (h c s σ H Q I d)
theorem Lx(j:PE X a ta)(k:PE X (.BoolOp .And (b::rest) pos) tb):PE X (.BoolOp .And (a::b::rest) pos) (aHs ta tb):=by
 intro d s σ H Q I h;refine BoolOp_and (thn (j d s σ H _ I h) λv m i=>?_);refine AS i λx f g l e=>?_;obtain⟨c,rfl,e⟩:=e;cases l;refine A3c ?_;cases c with
 |true=>exact k d m σ f Q g e
 |false=>exact⟨.bl o5,f,g,Z,e⟩
theorem aHQ(j:PE X a ta)(k:PE X (.BoolOp .Or (b::rest) pos) tb):PE X (.BoolOp .Or (a::b::rest) pos) (tOrV ta tb):=by
 intro d s σ H Q I h;refine BoolOp_or (thn (j d s σ H _ I h) λv m i=>?_);refine AS i λx f g l e=>?_;obtain⟨c,rfl,e⟩:=e;cases l;refine A3c ?_;cases c with
 |false=>exact k d m σ f Q g e
 |true=>exact⟨.bl o4,f,g,Z,e⟩
theorem aFT(j:PE X a ta):PE X (.UnaryOp .Not a pos) (aHx ta):=by
 intro d s σ H Q I h;refine UnaryOp_ (thn (j d s σ H _ I h) λv l i=>?_);refine AS i λx f g k e=>?_;obtain⟨c,rfl,e⟩:=e;cases k;exact not_of (A3c ⟨.bl (!c),f,g,Z,e⟩)
def tIf(t:TT)(ta tb:TE):TE:=fun σ H Q=>t σ H λc H1=>if c=o4 then ta σ H1 Q else tb σ H1 Q
theorem Uu{c:Expr}(n:PT X c tA)(l:PE X a ta)(m:PE X b tb):PE X (.IfExp c a b pos) (tIf tA ta tb):=by
 intro e s σ H Q I h;refine wpAny_IfExp (thn (n e s σ H _ I h) λd j k=>?_);refine xea k λf g i=>?_;cases d with
 |true=>exact l e j σ f Q g i
 |false=>exact m e j σ f Q g i
end
def SqL(K:O_)(H:Hp)(a:R_)(xs:List V):Prop :=
 Rd H a (.lst xs) \/
  ∃(o:Obj)(its:M_)(n:Nat),K.lookup a=n_ o/\o.cls=.type "list" /\ o.dict=o0/\o.data=.seq its n/\its.size<=sizeLine/\AU xs its.toList
def SqT(K:O_)(H:Hp)(a:R_)(xs:List V):Prop :=
 Rd H a (.tup xs) \/
  ∃(o:Obj)(its:M_)(n:Nat),K.lookup a=n_ o/\o.cls=.type "tuple" /\ o.data=.seq its n/\its.size<=sizeLine/\AU xs its.toList
def absV:Value->Option V
|.none=>n_ .non
|.bool b=>n_ (.bl b)
|.int i _=>n_ (.int i)
|.str x _=>n_ (.str x)
|.bytes b _=>n_ (.byt b)
|.float b _=>n_ (.flt b)
|.ref a=>n_ (.ref a)
|.type n=>n_ (.ty n)
|_=>o0
theorem Bh.abs(r:Bh x u):absV u=n_ x:=by
 cases x with
 |non=>cases r;rfl
 |bl _=>cases r;rfl
 |int _=>obtain⟨t,rfl⟩:=r;rfl
 |str _=>obtain⟨t,rfl⟩:=r;rfl
 |byt _=>obtain⟨t,rfl⟩:=r;rfl
 |flt _=>obtain⟨t,rfl⟩:=r;rfl
 |ref _=>cases r;rfl
 |ty _=>cases r;rfl
theorem Bh.inj(r:Bh x u)(q:Bh y u):x=y:=A1f (r.abs.symm.trans q.abs)
theorem AU.inj:∀{xs ys:List V}{us:F_},AU xs us->AU ys us->xs=ys
|_,_,_,.nil,.nil=>rfl
|_,_,_,.cons r t,.cons r' t'=>by rw[r.inj r',AU.inj t t']
section
variable{X:Cx}{n9:A_}{σ:St}{H:Hp}{s:P_}{a:R_}{xs ys:List V}
theorem SqL.of{K:O_}(h:H a=n_ (.lst xs)):SqL K H a xs:=.inl (.inl h)
theorem SqT.of{K:O_}(h:H a=n_ (.tup xs)):SqT K H a xs:=.inl (.inl h)
theorem Inv.list(I:Inv X n9 σ H s)(h:SqL X.K H a xs):∃b:List Value,AU xs b/\PlainL s.heap a b.toArray/\xs.length<=sizeLine:=by
 rcases h with h|⟨o,b,n,f,c,d,g,i,r⟩
 .exact Rl (h.ok I.hok) λz b n r e=>⟨b,r,⟨_,n,e,Z,Z,Z⟩,z⟩
 .refine⟨b.toList,r,⟨o,n,I.kIn a o f,c,d,by simpa using g⟩,?_⟩;have e:=r.length;simp only[P8]at e;lia
theorem Inv.tuple(I:Inv X n9 σ H s)(h:SqT X.K H a xs):∃b:List Value,AU xs b/\IsTup s.heap a b.toArray/\xs.length<=sizeLine:=by
 rcases h with h|⟨o,b,n,d,c,f,g,r⟩
 .exact MD (h.ok I.hok) λz b r p=>⟨b,r,p,z⟩
 .refine⟨b.toList,r,⟨o,I.kIn a o d,c,n,by simpa using f⟩,?_⟩;have e:=r.length;simp only[P8]at e;lia
theorem Inv.list_inj(I:Inv X n9 σ H s)(h:SqL X.K H a xs)(h':SqL X.K H a ys):xs=ys:=by
 obtain⟨b,r,⟨o,n,e,_,_,d⟩,_⟩:=I.list h;obtain⟨its',f,⟨o',g,c,_,_,d'⟩,_⟩:=I.list h';rw[e]at c;cases c;rw[d]at d';injection d' with d1 _
 have:b=its':=by simpa using A2c Array.toList d1
 subst this;exact r.inj f
theorem Inv.tuple_inj(I:Inv X n9 σ H s)(h:SqT X.K H a xs)(h':SqT X.K H a ys):xs=ys:=by
 obtain⟨b,r,⟨o,e,_,n,d⟩,_⟩:=I.tuple h;obtain⟨its',f,⟨o',c,_,g,d'⟩,_⟩:=I.tuple h';rw[e]at c;cases c;rw[d]at d';injection d' with d1 _
 have:b=its':=by simpa using A2c Array.toList d1
 subst this;exact r.inj f
end
abbrev Cx.wish(X:Cx)(E:B_):Cx:={X with xe:=E}
abbrev Cx.nox(X:Cx):Cx:=X.wish λ_ _=>False
theorem Cx.Ok.wish{X:Cx}(ok:X.Ok)(E:B_):(X.wish E).Ok :=
 ⟨ok.mod,ok.kind,ok.glob,ok.blt,ok.above,ok.inj,ok.has,ok.cab,ok.hd,ok.frames,ok.stk,ok.exf,ok.bs,ok.bsz,ok.noex,ok.exfs,ok.funs,ok.frf⟩
theorem Cx.Ok.unwish{X:Cx}{E:B_}(ok:(X.wish E).Ok):X.Ok :=
 ⟨ok.mod,ok.kind,ok.glob,ok.blt,ok.above,ok.inj,ok.has,ok.cab,ok.hd,ok.frames,ok.stk,ok.exf,ok.bs,ok.bsz,ok.noex,ok.exfs,ok.funs,ok.frf⟩
section
variable{X:Cx}{n9:A_}{σ:St}{H:Hp}{s:P_}{E:B_}
theorem Inv.wish(I:Inv X n9 σ H s)(E:B_):Inv (X.wish E) n9 σ H s:=⟨I.ok.wish E,I.os,I.bare,I.n8,I.loc,I.cell,I.free,I.freeC,I.pin,I.hok,I.len⟩
theorem Inv.unwish(I:Inv (X.wish E) n9 σ H s):Inv X n9 σ H s:=⟨I.ok.unwish,I.os,I.bare,I.n8,I.loc,I.cell,I.free,I.freeC,I.pin,I.hok,I.len⟩
theorem SP.unwish{D:Jc}{f:Flow}{b:P_}(h:SP (X.wish E) n9 D f b):SP X n9 D f b:=by
 cases f with
 |next=>exact Cw h fun σ' a I q=>⟨σ',a,I.unwish,q⟩
 |brk=>exact Cw h fun σ' a I q=>⟨σ',a,I.unwish,q⟩
 |cont=>exact Cw h fun σ' a I q=>⟨σ',a,I.unwish,q⟩
 |ret u=>exact Dw h λv σ' a I r q=>⟨v,σ',a,I.unwish,r,q⟩
theorem PSs.nox{st:List Stmt}{t:TS}(h:PSs X.nox st t):PSs X st t:=λn9 s σ H D I a =>
 A3d (h n9 s σ H D (I.wish _) a) (λ_ _ q=>q.unwish) λ_ _ z=>False.elim z
end
section
variable{X:Cx}{st:Stmt}{rest:List Stmt}{t u:TS}{e:Expr}{te:TE}{pos:Pos}
def aHw:TS:=λD σ H=>D.nx σ H
def Vu(t u:TS):TS:=λD σ H=>t {D with nx:=u D} σ H
theorem AB:PSs X [] aHw:=λ_ _ σ H _ I h=>A8g ⟨σ,H,I,h⟩
theorem Ae(d:PS X st t)(g:PSs X rest u):PSs X (st::rest) (Vu t u):=by
 intro a s σ H D I h;refine wpAny_execs_cons (thn (d a s σ H {D with nx:=u D} I h) λf i q=>?_);cases f with
 |next =>
  exact Cw q fun σ' b c q=>g a i σ' b D c q
 |ret v=>exact q
 |brk=>exact q
 |cont=>exact q
theorem Ah(b:PS X st t):PSs X [st] t:=by
 intro a s σ H D I h;refine wpAny_execs_cons (thn (b a s σ H D I h) λf c q=>?_);cases f with
 |next=>exact A8g q
 |ret v=>exact q
 |brk=>exact q
 |cont=>exact q
theorem Inv.quiet{a:A_}{σ:St}{H:Hp}{s:P_}(I:Inv X a σ H s):interactive X.env=o5:=by simp[interactive,I.ok.kind]
def aEH(te:TE):TS:=λD σ H=>te σ H λ_ H1=>D.nx σ H1
theorem BP(d:PE X e te)(f:swapsWith e o0 pos.line X.env=pure o5:=by rfl):PS X (.Expr e pos) (aEH te):=by
 intro a s σ H D I h;exact wpAny_Expr_any (thn (d a s σ H _ I h) λv j ⟨x,b,c,i,g⟩=>⟨σ,b,c,g⟩) I.quiet f
def aHz(te:TE):TS:=λD σ H=>te σ H D.rt
theorem Au(d:PE X e te):PS X (.Return (n_ e) pos) (aHz te):=by
 intro a s σ H D I h;exact wpAny_Return_some (thn (d a s σ H _ I h) λv i ⟨x,b,c,g,f⟩=>⟨x,σ,b,c,g,f⟩)
def tIfS(c:TT)(t u:TS):TS:=λD σ H=>c σ H λb H1=>if b=o4 then t D σ H1 else u D σ H1
theorem AO{c:Expr}{tc:TT}(o:PT X c tc)(m:PSs X a t)(n:PSs X b u):PS X (.If c a b pos) (tIfS tc t u):=by
 intro f s σ H D I h;refine wpAny_If (thn (o f s σ H _ I h) λd k l=>?_);refine xea l λg i j=>?_;cases d with
 |true=>exact m f k σ g D i j
 |false=>exact n f k σ g D i j
def aFs:TS:=λ_ _ _=>False
theorem Bp:PS X st aFs:=λ_ _ _ _ _ _ h=>h.elim
end
abbrev TG:=V->St->Hp->(St->Hp->Prop)->Prop
abbrev TGs:=List V->St->Hp->(St->Hp->Prop)->Prop
def PG(X:Cx)(target:Expr)(t:TG):Prop :=
 ∀(n9:A_)(s:P_)(σ:St)(H:Hp)(v:V)(u:S_)(Q:St->Hp->Prop),Inv X n9 σ H s->Bh v u->t v σ H Q ->
  wpAny (model X.prog X.w) X.A (assign target X.env u) (λ_ s'=>∃σ' H',Inv X n9 σ' H' s'/\Q σ' H') X.xe s
def PGs(X:Cx)(ts:List Expr)(t:TGs):Prop :=
 ∀(n9:A_)(s:P_)(σ:St)(H:Hp)(vs:List V)(us:F_)(Q:St->Hp->Prop),Inv X n9 σ H s->AU vs us->t vs σ H Q ->
  wpAny (model X.prog X.w) X.A (assignInOrder ((assignEach ts X.env).map (·.2)) us) (λ_ s'=>∃σ' H',Inv X n9 σ' H' s'/\Q σ' H') X.xe s
abbrev aEN:=V->V->V->Hp->(Hp->Prop)->Prop
def aF3(X:Cx)(t:aEN):Prop :=
 ∀(n9:A_)(s:P_)(σ:St)(H:Hp)(o i v:V)(ov iv u:S_)(Q:Hp->Prop),Inv X n9 σ H s->Bh o ov->Bh i iv->Bh v u->t o i v H Q ->
  wpAny (model X.prog X.w) X.A (setItem ov iv u) (λ_ s'=>∃H',Inv X n9 σ H' s'/\Q H') X.xe s
section
variable{X:Cx}{pos:Pos}
def MB(i:Nat):TG:=λv σ H Q=>Q (σ.set i (n_ v)) H
theorem Bd(c:X.N.Nodup)(e:X.N[i]?=n_ x)(f:Loc X.env.scope x)(d:X.fn x=o4\/X.env.scope.names.lookup x=n_ .local:=by first|exact .inl rfl|exact .inr rfl|assumption):PG X (.Name x pos) (MB i):=by
 intro a s σ H v u Q I r h;exact wpAny_assign_Name (TN I c e f r (λg b=>⟨_,H,b,h⟩) d)
def aEh:TGs:=λvs σ H Q=>vs=[]/\Q σ H
def UT(t:TG)(u:TGs):TGs:=λvs σ H Q=>∃v r,vs=v::r/\t v σ H fun σ' H'=>u r σ' H' Q
theorem Ny:PGs X [] aEh:=by
 intro a s σ H vs us Q I r h;obtain⟨e,h⟩:=h;subst e;cases r;exact assignInOrder_nil ⟨σ,H,I,h⟩
theorem DS{t:TG}(i:PG X e t)(j:PGs X b u)
  (l:(assignEach (e::b) X.env).map (·.2)=assign e X.env::(assignEach b X.env).map (·.2):=by rfl):PGs X (e::b) (UT t u):=by
 intro a s σ H vs us Q I r h;obtain⟨v,p,g,h⟩:=h;subst g;cases r with
 |cons r n =>
  rw[l];refine assignInOrder_cons (thn (i a s σ H _ _ _ I r h) λ_ o k=>?_);exact Cw k fun c d f m=>j a o c d _ _ Q f n m
def aEi(K:O_)(n:Nat)(t:TGs):TG:=λv σ H Q=>∃a xs,v=.ref a/\SqT K H a xs/\xs.length=n/\t xs σ H Q
theorem Qg{k:Nat}{t:TGs}(m:X.calm=o4)(h:PGs X d t)
  (q:(assignEach d X.env).length=n:=by rfl) (f:(assignEach d X.env).findIdx? (·.1)=o0:=by rfl):PG X (.Tuple d k pos) (aEi X.K n t):=by
 intro c s σ H v u Q I r g;obtain⟨a,xs,l,w,p,g⟩:=g;subst l;cases r;obtain⟨z,i,x,A⟩:=I.tuple w;refine assign_Tuple_tuple (I.ok.hd m) x (by simp[q,<-p,i.length]) f λh' y=>?_;have j:=I.kept (t':=s.toks) λb o e=>y b o (L8 (F3 e)) e;exact h c _ σ H xs _ Q j (by simpa using i) g
def gSub(to ti:TE)(t:aEN):TG:=λv σ H Q=>to σ H λo H1=>ti σ H1 λi H2=>t o i v H2 λH3=>Q σ H3
theorem aB4{to e:TE}{t:aEN}(q:PE X o to)(p:PE X i e)(w:aF3 X t)
  (n:∀v,assign (.Subscript o i pos) X.env v=(do
   let b <-holding [v] (eval o X.env);let d <-holding [v,b] (eval i X.env)
   standAt pos
   holding [v,b,d] (setItem b d v)
   release [v,b,d] []):=by intro _;rfl):PG X (.Subscript o i pos) (gSub to e t):=by
 intro a s σ H v u Q I r h;rw[n];refine A0c (A5e (thn (q a s σ H _ I h) λb E c=>?_));refine AS c λx f k C z=>A0c (A5e (thn (p a E σ f _ k z) λd F c=>?_));refine AS c λy g l D A=>A0c (B0a (A0c (A5e (thn (w a F σ g x y v b d u _ l C D r A) λ_ G c=>?_))));exact xea c λj m B=>wpAny_release ⟨σ,j,m,B⟩
def aFm(te:TE)(g:TG):TS:=λD σ H=>te σ H λx H1=>g x σ H1 D.nx
theorem aB6{c:TE}(k:PE X e c)(l:PG X b g)(m:swapsWithSole [b] e pos.line X.env=pure o5:=by rfl)(n:swappedStores [b] e X.env=pure o0:=by rfl)
  (i:(assignEach [b] X.env).map (·.2)=[assign b X.env]:=by rfl):PS X (.Assign [b] e pos) (aFm c g):=by
 intro a s σ H D I h;refine wpAny_Assign_stores (thn (k a s σ H _ I h) λv r j=>?_) m n;refine AS j λx d f p o=>?_;rw[i];exact thn (l a r σ d x v _ f p o) λ_ t q=>q
theorem Am{c:TE}(j:X.N.Nodup)(n:X.N[i]?=n_ x)(p:Loc X.env.scope x)(l:PE X e c)(o:swapsWith e (n_ (.Name x a)) pos.line X.env=pure o5:=by rfl)(m:X.fn x=o4\/X.env.scope.names.lookup x=n_ .local:=by first|exact .inl rfl|exact .inr rfl|assumption) :
  PS X (.Assign [.Name x a] e pos) (aFm c (MB i)):=by
 intro b s σ H D I h;refine wpAny_Assign_Name (thn (l b s σ H _ I h) λv t k=>?_) o;exact AS k λy d f r q=>TN f j n p r (λu g=>⟨_,d,g,q⟩) m
def aFu(c:TT)(tb:TS):TS:=λD σ H=>∃W:Nat->St->Hp->Prop,(∃m,W m σ H)/\∀m σ H,W m σ H ->
 c σ H λb H1=>if b=o4 then ∃N:St->Hp->Prop,(∀σ' H',N σ' H'->∃m',m'<m/\W m' σ' H')/\tb {D with nx:=N,ct:=N,bk:=D.nx} σ H1 else D.nx σ H1
theorem Lq{c:Expr}{tc:TT}(B:PassesOwn (model X.prog X.w) X.A X.env X.xe)(K:PT X c tc)(G:PSs X g C):PS X (.While c g [] pos) (aFu tc C):=by
 intro a s σ H D I h;obtain⟨W,⟨L,Q⟩,turn⟩:=h;refine wpAny_While (codeAny_whileLoop (λn M=>∃σ' t,Inv X a σ' t M/\W n σ' t) ?_ L ⟨σ,H,I,Q⟩);intro n O r;refine Cw r fun e u E R=>A5c B (thn (K a O e u _ E (turn n e u R)) λb P F=>?_);refine xea F λx y j=>?_;cases b with
 |true =>
  refine xea j λN z j=>?_;rw[A0g rfl];refine A5c B (thn (G a P e x _ y j) λf S k=>?_);cases f with
  |next =>
   exact Cw k fun d i l p=>xea (z d i p) λo m q=>⟨o,m,d,i,l,q⟩
  |cont =>
   exact Cw k fun d i l p=>xea (z d i p) λo m q=>⟨o,m,d,i,l,q⟩
  |brk=>exact k
  |ret v=>exact k
 |false =>
  rw[A0d F1];exact A8g ⟨e,x,y,j⟩
end
structure It where
go:Nat->Hp->Prop
yld:Nat->Hp->V->Hp->Prop
stop:Nat->Hp->Prop
def DW(X:Cx)(n9:A_)(H:Hp)(b:R_):Prop :=
 H b=o0/\b≠X.env.locals/\b∉X.fs/\(b∈X.ex\/X.s₀.heap.objs.size<=b)/\(∀x c,X.env.cells.lookup x=n_ c->c≠b)/\∀p∈X.pn++n9,p.1≠b
theorem Inv.fpOk(I:Inv X a σ H s)(d:s.heap.objs.size<=b)(g:f b=o0):DW X a f b:=by
 refine⟨g,W3 (D3 I.lt d),I.nofs d,.inr (C5 I.sz d),λx c e z=>?_,λp h z=>?_⟩
 .obtain⟨v,q⟩:=I.cell x c e;exact absurd (D3 q.lt (by rw[z];exact d)) (R6 _)
 .exact absurd (D3 (F3 (I.pin p h).1) (by rw[z];exact d)) (R6 _)
structure Rh(P:N_)(w:Q_)(K:O_)(tg:Expr)(J:It)(fp:H_)(it:R_)(tn:Nat->Heap->Prop):Prop where
mem:it∈fp
obj:∀i h,tn i h->∀b∈fp,∃o,h.get? b=n_ o/\∀v,o.data≠.cell v
keep:∀i h h',tn i h->(∀b∈fp,∀o,h.get? b=n_ o->h'.get? b=n_ o)->tn i h'
item:∀(X:Cx),X.prog=P->X.w=w->X.K=K->X.calm=o4->∀(i:Nat)(n9:A_)(s:P_)(σ:St)(H:Hp)(E:B_),Inv X n9 σ H s->(∀b∈fp,DW X n9 H b)->tn i s.heap->J.go i H ->
 wpAny (model P w) X.A (pyNext (.ref it)) (λr s1=>∃u,r=n_ u /\
  wpAny (model P w) X.A (letOwnedTupleGo tg (.ref it) u) (λ_ s2=>∃x H',Inv X n9 σ H' s2/\Bh x u/\J.yld i H x H'/\tn (i+1) s2.heap/\∀b∈fp,H' b=o0) E s1) E s
done:∀(X:Cx),X.prog=P->X.w=w->X.K=K->X.calm=o4->∀(i:Nat)(n9:A_)(s:P_)(σ:St)(H:Hp)(E:B_),Inv X n9 σ H s->(∀b∈fp,DW X n9 H b)->tn i s.heap->J.stop i H ->
 wpAny (model P w) X.A (pyNext (.ref it)) (λr s1=>r=o0/\Inv X n9 σ H s1) E s
self:∀(A:Around)(i:Nat)(s:P_)(Q:B_)(E:B_),tn i s.heap->Q (.ref it) s->wpAny (model P w) A (pyIter (.ref it)) Q E s
abbrev TI:=St->Hp->(It->Hp->Prop)->Prop
def PIE(X:Cx)(n9:A_)(σ:St)(tg:Expr)(R:It->Hp->Prop)(itv:S_)(s2:P_):Prop :=
 ∃(it:R_)(fp:H_)(tn:Nat->Heap->Prop)(J:It)(H':Hp),itv=.ref it/\Inv X n9 σ H' s2/\Rh X.prog X.w X.K tg J fp it tn/\tn 0 s2.heap/\(∀b∈fp,DW X n9 H' b)/\R J H'
def PI(X:Cx)(tg iter:Expr)(wi:TI):Prop :=
 ∀(n9:A_)(s:P_)(σ:St)(H:Hp)(R:It->Hp->Prop),Inv X n9 σ H s->wi σ H R ->
  wpAny (model X.prog X.w) X.A (eval iter X.env) (λv s1=>wpAny (model X.prog X.w) X.A (pyIter v) (PIE X n9 σ tg R) X.xe s1) X.xe s
theorem US(f:s.heap.get? it=n_ o)(c:o.cls=.type n)(d:o.data=.fields vs)
   (e:["enumerate","zip","dict_itemiterator","dict_reverseitemiterator","odict_iterator","itertools.zip_longest","itertools.pairwise"].contains n=o5) (a:Q () s):wpAny M A (letOwnedTupleGo b (.ref it) u) Q E s:=by
 unfold letOwnedTupleGo;cases b<;>first
   |exact A0h a
   | (cases u<;>first
       |exact A0h a
       | (refine A0c (wpAny_load f ?_)
          rw[c,d];show wpAny M A (if(["enumerate","zip","dict_itemiterator","dict_reverseitemiterator","odict_iterator","itertools.zip_longest","itertools.pairwise"].contains n && vs[0]?==n_ (rawInt _))=o4 then _ else _) Q E s;rw[A0d (by intro h;rw[e,Bool.false_and]at h;cases h)];exact A0h a))
def Itl(K:O_)(a:R_):It :=
 ⟨λi H=>∃xs x,SqL K H a xs/\xs[i]?=n_ x,λi H x H'=>H'=H/\∀xs,SqL K H a xs->xs[i]?=n_ x,λi H=>∃xs,SqL K H a xs/\xs.length<=i⟩
def Itt(K:O_)(a:R_):It :=
 ⟨λi H=>∃xs x,SqT K H a xs/\xs[i]?=n_ x,λi H x H'=>H'=H/\∀xs,SqT K H a xs->xs[i]?=n_ x,λi H=>∃xs,SqT K H a xs/\xs.length<=i⟩
def Itr(lo:Int)(n:Nat):It:=⟨λi _=>i<n,λi H x H'=>H'=H/\x=.int (lo+i),λi _=>n<=i⟩
theorem YG{P:N_}{w:Q_}{K:O_}{V:Expr}(a it:R_):Rh P w K V (Itl K a) [it] it (λi h=>h.IsListIter it a i) where
 mem:=by simp
 obj:=λi h st b f=>by
  have e:b=it:=by simpa using f
  subst e;exact AX st λo e c d=>⟨o,e,λv z=>by rw[d]at z;cases z⟩
 keep:=λi h h' st k=>st.at λo e=>k it B0 o e
 item:=by
  intro X A C y L i g s σ H E I l st B;subst A C y;refine Cw B λxs x m D=>AX (I.list m) λF G p S=>xea (G.get D) λu Q T=>xa5 (l it B0) λn q O r f4 t=>wpAny_pyNext_list_item st p.isList (x:=u) (by simpa using Q) λh' j U=>?_;have M:=I.turned (t':=s.toks) (λb o f e=>(U.2 b f).trans e) n q r f4 t;exact AX (id j) λo e c d=>⟨u,Z,US (s:={s with heap:=h'}) e c d A4 ⟨x,H,M,T,⟨Z,λys R=>by rw[I.list_inj R m];exact D⟩,j,λb f=>(l b f).1⟩⟩
 done:=by
  intro X A C y L i g s σ H E I l st B;subst A C y;refine xea B λxs m D=>AX (I.list m) λF G p S=>xa5 (l it B0) λn q O r f4 t=>?_;have Y:=G.length;exact wpAny_pyNext_list_end (I.ok.hd L) st p.isList (by simp;lia) λh' N=>⟨Z,I.turned (t':=s.toks) (λb o f e=>N b o f e) n q r f4 t⟩
 self:=λ_ _ _ _ _ st h=>wpAny_pyIter_listiter st h
theorem Vs{P:N_}{w:Q_}{K:O_}{V:Expr}(a it:R_):Rh P w K V (Itt K a) [it] it (λi h=>h.IsTupleIter it a i) where
 mem:=by simp
 obj:=λi h st b f=>by
  have e:b=it:=by simpa using f
  subst e;exact AX st λo e c d=>⟨o,e,λv z=>by rw[d]at z;cases z⟩
 keep:=λi h h' st k=>st.at λo e=>k it B0 o e
 item:=by
  intro X B D A L i j s σ H E I m st C;subst B D A;refine Cw C λxs x n F=>AX (I.tuple n) λg G p S=>xea (G.get F) λu Q T=>xa5 (m it B0) λq r O t f4 y=>wpAny_pyNext_tuple_item st (show s.heap.IsTuple a g.toArray from p) (x:=u) (by simpa using Q) λh' l U=>?_;have M:=I.turned (t':=s.toks) (λb o f e=>(U.2 b f).trans e) q r t f4 y;exact AX (id l) λo e c d=>⟨u,Z,US (s:={s with heap:=h'}) e c d A4 ⟨x,H,M,T,⟨Z,λys R=>by rw[I.tuple_inj R n];exact F⟩,l,λb f=>(m b f).1⟩⟩
 done:=by
  intro X B D A L i j s σ H E I m st C;subst B D A;refine xea C λxs n F=>AX (I.tuple n) λg G p S=>xa5 (m it B0) λq r O t f4 y=>?_;have Y:=G.length;exact wpAny_pyNext_tuple_end (I.ok.hd L) st (show s.heap.IsTuple a g.toArray from p) (by simp;lia) λh' N=>⟨Z,I.turned (t':=s.toks) (λb o f e=>N b o f e) q r t f4 y⟩
 self:=λ_ _ _ _ _ st h=>wpAny_pyIter_tupleiter st h
theorem Vt{P:N_}{w:Q_}{K:O_}{D:Expr}(it:R_)(lo:Int)(n:Nat):Rh P w K D (Itr lo n) [it] it (λi h=>IsRangeIter h it (lo+(i:Nat)*1) ((n:Int)-(i:Nat)) 1) where
 mem:=by simp
 obj:=λi h st b c=>by
  have e:b=it:=by simpa using c
  subst e;exact⟨_,st,λv z=>by
   have F:Data.fields _=Data.cell v:=z;cases F⟩
 keep:=λi h h' st k=>k it B0 _ st
 item:=by
  intro X q x p r i a s σ H E I f st u;subst q x p;refine xa5 (f it B0) λg j B l f4 m=>?_;have W:=Walks.range (prog:=X.prog) (w:=X.w) (I.ok.hd r) it lo 1 n;refine W.item i s _ _ u st λv h' tk C d kk=>?_;obtain⟨t,rfl⟩:=C;have y:Inv X a σ H {s with heap:=h',toks:=tk}:=I.turned (λb o c e=>kk b o (by simpa using c) e) g j l f4 m;refine⟨_,Z,US (s:={s with heap:=h',toks:=tk}) (n:="range_iterator") d Z Z A4 ⟨.int (lo+i),H,y,⟨t,?_⟩,⟨Z,Z⟩,d,λb c=>(f b c).1⟩⟩;rw[Int.mul_one]
 done:=by
  intro X q x p r i a s σ H E I f st u;subst q x p;exact xa5 (f it B0) λg j B l f4 m=>wpAny_pyNext_range_end (I.ok.hd r) st (by have:n<=i:=u;lia) λh' A=>⟨Z,I.turned (t':=s.toks) (λb o c e=>A b o c e) g j l f4 m⟩
 self:=λ_ _ _ _ _ st h=>wpAny_pyIter_rangeiter st h
section
variable{X:Cx}{tg:Expr}
def aGp(K:O_)(tl:TE):TI:=fun σ H R=>tl σ H λx H1=>∃a,x=.ref a/\(∃xs,SqL K H1 a xs)/\R (Itl K a) H1
def iTup(K:O_)(tl:TE):TI:=fun σ H R=>tl σ H λx H1=>∃a,x=.ref a/\(∃xs,SqT K H1 a xs)/\R (Itt K a) H1
theorem Cb(m:PE X l g):PI X tg l (aGp X.K g):=by
 intro c s σ H R I h;refine thn (m c s σ H _ I h) λv f j=>AS j λx i d u t=>?_;obtain⟨a,e,⟨xs,n⟩,q⟩:=t;subst e;cases u;refine AX (d.list n) λr y p w=>A7c p.isList ⟨f.heap.objs.size,[f.heap.objs.size],_,_,i,Z,d.kept (t':=f.toks) λb o e=>C3 _ e,YG a _,⟨_,F2 _ Z,Z,Z⟩,λb k=>?_,q⟩;have e:b=f.heap.objs.size:=by simpa using k
 subst e;exact d.fpOk (B8 _) (d.hok.fresh (B8 _))
theorem SB(n:PE X l i):PI X tg l (iTup X.K i):=by
 intro c s σ H R I h;refine thn (n c s σ H _ I h) λv d k=>AS k λx j f u t=>?_;obtain⟨a,e,⟨xs,r⟩,q⟩:=t;subst e;cases u;refine AX (f.tuple r) λg y p w=>wpAny_pyIter_tuple (show d.heap.IsTuple a g.toArray from p) ⟨d.heap.objs.size,[d.heap.objs.size],_,_,j,Z,f.kept (t':=d.toks) λb o e=>C3 _ e,Vs a _,⟨_,F2 _ Z,Z,Z⟩,λb m=>?_,q⟩;have e:b=d.heap.objs.size:=by simpa using m
 subst e;exact f.fpOk (B8 _) (f.hok.fresh (B8 _))
theorem Uo{c:A_}{σ:St}{H:Hp}{s:P_}{R:It->Hp->Prop}{E:B_}{lo a:Int}{t u v:Tok}{tk:Nat}(I:Inv X c σ H s)(h:-(2^62)<=lo)(i:lo<2^62)(j:-(2^62)<=a)(k:a<2^62)
  (q:R (Itr lo (a-lo).toNat) H):wpAny (model X.prog X.w) X.A (pyIter (.ref s.heap.objs.size)) (PIE X c σ tg R) E {s with heap:=s.heap.push {cls:=.type "range",data:=.fields #[.int lo t,.int a u,.int 1 v]},toks:=tk}:=by
 refine wpAny_pyIter_range (IsRange.new ..) (small_one h i j k) ?_;have d:Inv X c σ H {s with heap:=s.heap.push {cls:=.type "range",data:=.fields #[.int lo t,.int a u,.int 1 v]},toks:=tk}:=I.kept λb o e=>C3 _ e;refine⟨(s.heap.push {cls:=.type "range",data:=.fields #[.int lo t,.int a u,.int 1 v]}).objs.size,[(s.heap.push {cls:=.type "range",data:=.fields #[.int lo t,.int a u,.int 1 v]}).objs.size],_,_,H,Z,
  d.kept (t':=tk) λb o e=>C3 _ e,Vt _ lo (a-lo).toNat,?_,λb l=>?_,q⟩
 .have f:lo+((0:Nat):Int)*1=lo:=by simp
  have g:(((a-lo).toNat:Nat):Int)-((0:Nat):Int)=Builtin.Range.rangeSize lo a 1:=by rw[rangeSize_one];split<;>lia
  show IsRangeIter _ _ (lo+((0:Nat):Int)*1) ((((a-lo).toNat:Nat):Int)-((0:Nat):Int)) 1;rw[f,g];exact F2 _ Z
 .have e:b=(s.heap.push {cls:=.type "range",data:=.fields #[.int lo t,.int a u,.int 1 v]}).objs.size:=by simpa using l
  subst e;exact d.fpOk (B8 _) (d.hok.fresh (B8 _))
def aGq(ta:TA):TI:=fun σ H R=>ta σ H λvs H1=>∃j:Int,vs=[.int j]/\-(2^62)<=j/\j<2^62/\R (Itr 0 j.toNat) H1
def aGr(ta:TA):TI:=fun σ H R=>ta σ H λvs H1=>∃i j:Int,vs=[.int i,.int j]/\(-(2^62)<=i/\i<2^62/\-(2^62)<=j/\j<2^62)/\R (Itr i (j-i).toNat) H1
theorem Cm(k:Gl X "range")(l:X.mg "range" = o0)(i:PA X [a] d)(m:starEach [a] X.env=[(o5,eval a X.env)]:=by rfl):PI X tg (.Call (.Name "range" p) [a] [] pos) (aGq d):=by
 intro b s σ H R I h;refine Call_ (LQ I k l boot_range (A3h (thn (i pos b s σ H _ I h) λus w g=>?_) m Z));refine AS g λvs v f o c=>?_;obtain⟨j,e,c,n,q⟩:=c;subst e;cases o with
 |cons r u =>
  cases u;obtain⟨t,rfl⟩:=r;exact call_range_1 (Uo f A3 A3 c n (by simpa using q))
theorem IV{k:TA}(o:Gl X "range")(u:X.mg "range" = o0)(n:PA X [a,b] k)(v:starEach [a,b] X.env=[(o5,eval a X.env),(o5,eval b X.env)]:=by rfl)(c:starEach [b] X.env=[(o5,eval b X.env)]:=by rfl) :
  PI X tg (.Call (.Name "range" p) [a,b] [] pos) (aGr k):=by
 intro d s σ H R I h;refine Call_ (LQ I o u boot_range (A3h (thn (n pos d s σ H _ I h) λus C m=>?_) (by rw[v,c]) (by rw[c];rfl)));refine AS m λvs B l A f=>?_;obtain⟨i,j,e,⟨f,w,x,y⟩,q⟩:=f;subst e;cases A with
 |cons r g =>
  cases g with
  |cons z g =>
   cases g;obtain⟨t,rfl⟩:=r;obtain⟨t',rfl⟩:=z;exact call_range_2 (Uo l f w x y q)
def aFr(wi:TI)(g:TG)(tb:TS):TS:=λD σ H=>wi σ H λJ H1=>∃W:Nat->Nat->St->Hp->Prop,(∃m,W 0 m σ H1)/\∀i m σ H,W i m σ H ->
 (J.stop i H/\D.nx σ H)\/(J.go i H/\∃N:St->Hp->Prop,(∀σ' H',N σ' H'->∃m',m'<m/\W (i+1) m' σ' H')/\∀x H',J.yld i H x H'->g x σ H' fun σ2 H2=>tb {D with nx:=N,ct:=N,bk:=D.nx} σ2 H2)
def Oh(fp:H_)(h:T_):List (Addr×Obj):=fp.filterMap λb=>(h.get? b).map λo=>(b,o)
theorem JJ(a:b∈fp)(e:h.get? b=n_ o):(b,o)∈Oh fp h:=List.mem_filterMap.mpr ⟨b,a,by rw[e];rfl⟩
theorem Ry(d:p∈Oh fp h):p.1∈fp/\h.get? p.1=n_ p.2:=by
 refine xea (List.mem_filterMap.mp d) λb c e=>?_;cases q:h.get? b with
 |none=>rw[q]at e;cases e
 |some o =>
  rw[q]at e;have a:=A1f e;subst a;exact⟨c,q⟩
theorem Inv.pinned(I:Inv X a σ H s)(j:∀b∈fp,DW X a H b)(k:∀b∈fp,∃o,s.heap.get? b=n_ o/\∀v,o.data≠.cell v):Inv X (a++Oh fp s.heap) σ H s :=
 I.pins_of λp l=>(F6.mp l).elim (λz=>I.pin p (M6 _ z)) λz=>by
  obtain⟨f,e⟩:=Ry z;refine xa3 (j p.1 f) λg h i _=>xea (k p.1 f) λo c d=>?_;rw[e]at c;cases c;exact⟨e,g,h,i,d⟩
theorem Inv.unpinned(I:Inv X (a++pl) σ H s):Inv X a σ H s:=I.pins_of λp b=>I.pin p (M6 _ (V8 _ b))
theorem BX{q:Expr}(K:PassesOwn (model X.prog X.w) X.A X.env X.xe)(hc:X.calm=o4)(hi:PI X tg q wi)(hg:PG X tg g)(p:PSs X B tb)
  (hs:∀x,foldedSetIterable q X.env x=pure x:=by intro _;rfl):PS X (.For tg q B [] pos) (aFr wi g tb):=by
 intro a s σ H D I h;refine wpAny_For (thn (hi a s σ H _ I h) λv s1 h1=>thn h1 λab s2 h2=>?_) hs;obtain⟨it,fp,tn,J,H2,e,I2,T,V,f2,W,⟨m0,w0⟩,turn⟩:=h2;subst e;have t:∀{z:Hp},(∀b∈fp,z b=o0)->∀b∈fp,DW X a z b:=λhn b p=>⟨hn b p,(f2 b p).2⟩
 refine codeAny_forLoop_any (λn s'=>∃i σ' z,Inv X a σ' z s'/\tn i s'.heap/\(∀b∈fp,z b=o0)/\W i n σ' z) ?_ m0 ⟨0,σ,H2,I2,V,λb p=>(f2 b p).1,w0⟩;intro n s3 Y;refine Go Y λi y P I3 M G w3=>?_;rcases turn i n y P w3 with ⟨O,qn⟩|⟨go,N,hN,step⟩
 .refine A5c K (thn (T.done X Z Z Z hc i a s3 y P X.xe I3 (t G) M O) λr s4 E=>?_);obtain⟨S,I4⟩:=E;subst S;exact A8g ⟨y,P,I4,qn⟩
 .refine A5c K (thn (T.item X Z Z Z hc i a s3 y P X.xe I3 (t G) M go) λr s4 E=>?_);refine xea E λu S h4=>?_;subst S;refine A5c K (thn h4 λ_ s5 E=>?_);refine Dx E λx H5 I5 r5 y5 F R=>?_;have Q:=I5.pinned (t R) (T.obj _ _ F);refine A5c K (thn (hg _ s5 y H5 x u _ Q r5 (step x H5 y5)) λ_ s6 E=>?_);refine Cw E fun aa H6 I6 q6=>A5c K (thn (p _ s6 aa H6 _ I6 q6) λf U C=>?_);have l:∀{c:St}{j:Hp},Inv X (a++Oh fp s5.heap) c j U->N c j->∃m,m<n/\∃i σ' z,Inv X a σ' z U/\tn i U.heap/\(∀b∈fp,z b=o0)/\W i m σ' z:=λ{c j} k L=>by
   refine xea (hN c j L) λm' hm w7=>⟨m',hm,i+1,c,j,k.unpinned,T.keep _ _ _ F λb p o e=>(k.pin (b,o) (M6 _ (M6 _ (JJ p e)))).1,λb p=>?_,w7⟩
   exact xea (T.obj _ _ F b p) λo e d=>(k.pin (b,o) (M6 _ (M6 _ (JJ p e)))).2.1
  cases f with
  |next=>exact Cw C fun c j k L=>l k L
  |cont=>exact Cw C fun c j k L=>l k L
  |brk=>exact Cw C fun c j k C=>⟨c,j,k.unpinned,C⟩
  |ret v=>exact Dw C λx7 c j k r7 C=>⟨x7,c,j,k.unpinned,r7,C⟩
end
theorem NL{K:O_}{a:R_}{xs:List V}{g:TG}{n:TS}{D:Jc}{σ:St}{H:Hp}(b:Nat->St->Hp->Prop)(o:b 0 σ H)(t:∀i σ H,i<=xs.length->b i σ H->SqL K H a xs)
  (u:∀i x σ H,xs[i]?=n_ x->b i σ H->g x σ H fun d j=>n {D with nx:=b (i+1),ct:=b (i+1),bk:=D.nx} d j) (r:∀σ H,b xs.length σ H->D.nx σ H) :
  ∃W:Nat->Nat->St->Hp->Prop,(∃m,W 0 m σ H)/\∀i m σ H,W i m σ H ->
   ((Itl K a).stop i H/\D.nx σ H)\/((Itl K a).go i H/\∃N:St->Hp->Prop,(∀σ' c,N σ' c->∃l,l<m/\W (i+1) l σ' c)/\∀x c,(Itl K a).yld i H x c->g x σ c fun d j=>n {D with nx:=N,ct:=N,bk:=D.nx} d j):=by
 refine⟨λi m σ H=>m=xs.length-i/\i<=xs.length/\b i σ H,⟨xs.length,by simp,M7 _,o⟩,?_⟩;intro i m σ H h;refine xa2 h λk s p=>?_;clear h;subst k;have q:=t i σ H s p;by_cases f:i<xs.length
 .refine .inr ⟨⟨xs,xs[i],q,by simp[f]⟩,b (i+1),fun σ' c v=>⟨xs.length-(i+1),by lia,Z,f,v⟩,λx c y=>?_⟩;obtain⟨e,y⟩:=y;subst e;exact u i x σ _ (y xs q) p
 .have e:i=xs.length:=by lia
  subst e;exact .inl ⟨⟨xs,q,B8 _⟩,r σ H p⟩
theorem aCR{K:O_}{a:R_}{xs:List V}{g:TG}{n:TS}{D:Jc}{σ:St}{H:Hp}(b:Nat->St->Hp->Prop)(o:b 0 σ H)(t:∀i σ H,i<=xs.length->b i σ H->SqT K H a xs)
  (u:∀i x σ H,xs[i]?=n_ x->b i σ H->g x σ H fun d j=>n {D with nx:=b (i+1),ct:=b (i+1),bk:=D.nx} d j) (r:∀σ H,b xs.length σ H->D.nx σ H) :
  ∃W:Nat->Nat->St->Hp->Prop,(∃m,W 0 m σ H)/\∀i m σ H,W i m σ H ->
   ((Itt K a).stop i H/\D.nx σ H)\/((Itt K a).go i H/\∃N:St->Hp->Prop,(∀σ' c,N σ' c->∃l,l<m/\W (i+1) l σ' c)/\∀x c,(Itt K a).yld i H x c->g x σ c fun d j=>n {D with nx:=N,ct:=N,bk:=D.nx} d j):=by
 refine⟨λi m σ H=>m=xs.length-i/\i<=xs.length/\b i σ H,⟨xs.length,by simp,M7 _,o⟩,?_⟩;intro i m σ H h;refine xa2 h λk s p=>?_;clear h;subst k;have q:=t i σ H s p;by_cases f:i<xs.length
 .refine .inr ⟨⟨xs,xs[i],q,by simp[f]⟩,b (i+1),fun σ' c v=>⟨xs.length-(i+1),by lia,Z,f,v⟩,λx c y=>?_⟩;obtain⟨e,y⟩:=y;subst e;exact u i x σ _ (y xs q) p
 .have e:i=xs.length:=by lia
  subst e;exact .inl ⟨⟨xs,q,B8 _⟩,r σ H p⟩
theorem Ce{lo:Int}{n:Nat}{g:TG}{l:TS}{D:Jc}{σ:St}{H:Hp}(b:Nat->St->Hp->Prop)(o:b 0 σ H)
  (r:∀i σ H,i<n->b i σ H->g (.int (lo+i)) σ H fun d h=>l {D with nx:=b (i+1),ct:=b (i+1),bk:=D.nx} d h) (q:∀σ H,b n σ H->D.nx σ H) :
  ∃W:Nat->Nat->St->Hp->Prop,(∃m,W 0 m σ H)/\∀i m σ H,W i m σ H ->
   ((Itr lo n).stop i H/\D.nx σ H)\/((Itr lo n).go i H/\∃N:St->Hp->Prop,(∀σ' a,N σ' a->∃k,k<m/\W (i+1) k σ' a)/\∀x a,(Itr lo n).yld i H x a->g x σ a fun d h=>l {D with nx:=N,ct:=N,bk:=D.nx} d h):=by
 refine⟨λi m σ H=>m=n-i/\i<=n/\b i σ H,⟨n,by simp,M7 _,o⟩,?_⟩;intro i m σ H f;refine xa2 f λj t p=>?_;clear f;subst j;by_cases c:i<n
 .refine .inr ⟨c,b (i+1),fun σ' a s=>⟨n-(i+1),by lia,Z,c,s⟩,λx a y=>?_⟩;obtain⟨e,y⟩:=y;subst e y;exact r i σ _ c p
 .have e:i=n:=by lia
  subst e;exact .inl ⟨B8 _,q σ H p⟩
abbrev R2:=V->V->Hp->VK->Prop
def OpR(X:Cx)(f:Value->Value->Sem Value)(r:R2):Prop :=
 ∀(n9:A_)(s:P_)(σ:St)(H:Hp)(x y:V)(v u:S_)(Q:VK),Inv X n9 σ H s->Bh x v->Bh y u->r x y H Q ->
  wpAny (model X.prog X.w) X.A (f v u) (EP X n9 σ Q) X.xe s
def UnR(X:Cx)(f:Value->Sem Value)(r:V->Hp->VK->Prop):Prop :=
 ∀(n9:A_)(s:P_)(σ:St)(H:Hp)(x:V)(v:S_)(Q:VK),Inv X n9 σ H s->Bh x v->r x H Q ->
  wpAny (model X.prog X.w) X.A (f v) (EP X n9 σ Q) X.xe s
def GX(X:Cx)(f:S_)(r:List V->Hp->VK->Prop):Prop :=
 ∀(n9:A_)(s:P_)(σ:St)(H:Hp)(xs:List V)(us:F_)(Q:VK),Inv X n9 σ H s->AU xs us->r xs H Q ->
  wpAny (model X.prog X.w) X.A (call f us) (EP X n9 σ Q) X.xe s
def tOp(r:R2)(ta tb:TE):TE:=fun σ H Q=>ta σ H λx H1=>tb σ H1 λy H2=>r x y H2 Q
def tUn(r:V->Hp->VK->Prop)(ta:TE):TE:=fun σ H Q=>ta σ H λx H1=>r x H1 Q
def rI(C:Int->Int->Prop)(g:Int->Int->V):R2:=λx y H Q=>∃i j,x=.int i/\y=.int j/\C i j/\Q (g i j) H
def rI0(g:Int->Int->V):R2:=λx y H Q=>∃i j,x=.int i/\y=.int j/\Q (g i j) H
def rU(g:Int->V):V->Hp->VK->Prop:=λx H Q=>∃i,x=.int i/\Q (g i) H
section
variable{X:Cx}{a b c:Expr}{ta tb tc:TE}{pos:Pos}
theorem aEQ(o:PE X a ta)(p:PE X b tb){d:A_}{s:P_}{σ:St}{H:Hp}{R:V->V->Hp->Prop}(I:Inv X d σ H s)
  (h:ta σ H λx k=>tb σ k λy e=>R x y e) {Q:B_} {f:Value->Value->Sem Value}
  (q:∀v u j x y e,Inv X d σ e j->Bh x v->Bh y u->R x y e->wpAny (model X.prog X.w) X.A (f v u) Q X.xe j) :
  wpAny (model X.prog X.w) X.A (eval a X.env) (λv g=>wpAny (model X.prog X.w) X.A (eval b X.env) (λu i=>wpAny (model X.prog X.w) X.A (f v u) Q X.xe i) X.xe g) X.xe s:=by
 exact thn (o d s σ H _ I h) λv C l=>AS l λx k m z r=>thn (p d C σ k _ m r) λu j l=>AS l λy e n B t=>q v u j x y e n z B t
theorem AE(k:OpR X (binaryOp e) r)(i:PE X a ta)(j:PE X b tb):PE X (.BinOp a e b pos) (tOp r ta tb):=by
 intro d s σ H Q I h;exact wpAny_BinOp (aEQ i j I h λv u n x y f g l m q=>k d n σ f x y v u Q g l m q)
theorem EI{r:V->Hp->VK->Prop}(j:UnR X (unaryOp e) r)(i:PE X a ta):PE X (.UnaryOp e a pos) (tUn r ta):=by
 intro d s σ H Q I h;exact UnaryOp_ (thn (i d s σ H _ I h) λv m ⟨x,f,g,l,k⟩=>j d m σ f x v Q g l k)
theorem opI{f:Value->Value->Sem Value}{C:Int->Int->Prop}{g:Int->Int->Int}
  (d:∀(i j:Int)(t u:Tok)(s:P_)(Q:B_)(E:B_),C i j->Q (.int (g i j) s.toks) {s with toks:=s.toks+1}->wpAny (model X.prog X.w) X.A (f (.int i t) (.int j u)) Q E s) :
  OpR X f (rI C λi j=>.int (g i j)):=by
 intro l s σ H x y v u Q I n o h;refine Ep h λi j e k m q=>?_;clear h;subst e;subst k;obtain⟨t,rfl⟩:=n;obtain⟨t',rfl⟩:=o;exact d i j t t' s _ _ m ⟨.int (g i j),H,I.tok _,⟨_,Z⟩,q⟩
theorem aFP{f:Value->Value->Sem Value}{g:Int->Int->Int}
  (d:∀(i j:Int)(t u:Tok)(s:P_)(Q:B_)(E:B_),Q (.int (g i j) s.toks) {s with toks:=s.toks+1}->wpAny (model X.prog X.w) X.A (f (.int i t) (.int j u)) Q E s) :
  OpR X f (rI0 λi j=>.int (g i j)):=by
 intro l s σ H x y v u Q I m n h;refine AS h λi j e k q=>?_;clear h;subst e;subst k;obtain⟨t,rfl⟩:=m;obtain⟨t',rfl⟩:=n;exact d i j t t' s _ _ ⟨.int (g i j),H,I.tok _,⟨_,Z⟩,q⟩
theorem aFO{f:Value->Value->Sem Value}{g:Int->Int->Bool}
  (d:∀(i j:Int)(t u:Tok)(s:P_)(Q:B_)(E:B_),Q (.bool (g i j)) s->wpAny (model X.prog X.w) X.A (f (.int i t) (.int j u)) Q E s) :
  OpR X f (rI0 λi j=>.bl (g i j)):=by
 intro l s σ H x y v u Q I m n h;refine AS h λi j e k q=>?_;clear h;subst e;subst k;obtain⟨t,rfl⟩:=m;obtain⟨t',rfl⟩:=n;exact d i j t t' s _ _ ⟨.bl (g i j),H,I,Z,q⟩
def CDiv(i j:Int):Prop:=0<j/\j<1073741824
def aEJ(i j:Int):Prop:=0<=j/\j<=1000000/\i.natAbs<2^64
def CMul(i j:Int):Prop:=(-(2^64)<i/\i<2^64)\/(-(2^64)<j/\j<2^64)
theorem CMul.ok{i j:Int}(h:CMul i j):IntMulOk i j:=by
 rcases h with ⟨d,e⟩|⟨d,e⟩
 .exact .of_left (intBits_le_64 d e)
 .exact .of_right (intBits_le_64 d e)
theorem Vr(k:Nat):(0:Int)<=2^k:=by
 rw[two_pow_cast];exact O4 _
theorem AR:OpR X (binaryOp .Add) (rI0 λi j=>.int (i+j)):=aFP λ_ _ _ _ _ _ _ q=>add_int q
theorem Bq:OpR X (binaryOp .Sub) (rI0 λi j=>.int (i-j)):=aFP λ_ _ _ _ _ _ _ q=>sub_int q
theorem FT:OpR X (binaryOp .Mult) (rI CMul λi j=>.int (i*j)):=opI λ_ _ _ _ _ _ _ d q=>mul_int q d.ok
theorem CF:OpR X (binaryOp .FloorDiv) (rI CDiv λi j=>.int (i/j)):=opI λi j _ _ _ _ _ e q=>by
 have d:=e.1;have f:=e.2;exact floordiv_int (A0a d) (by rw[W7 i (S8 d)];exact q) (.inl (PyProof.noPylong_small A3))
theorem Bf:OpR X (binaryOp .Mod) (rI (λ_ j=>0<j) λi j=>.int (i%j)):=opI λi j _ _ _ _ _ d q=>by
 have e:=d;exact mod_int' (A0a d) (by rw[Int.fmod_eq_emod_of_nonneg i (S8 d)];exact q)
theorem aB0:OpR X (binaryOp .Pow) (rI aEJ λi j=>.int (i^j.toNat)):=opI λ_ _ _ _ _ _ _ d q=>pow_int_small d.1 d.2.1 d.2.2 q
theorem Om:OpR X (binaryOp .LShift) (rI aEJ λi j=>.int (i*2^j.toNat)):=opI λ_ _ _ _ _ _ _ d q=>lshift_int_small d.1 d.2.1 d.2.2 q
theorem aFS:OpR X (binaryOp .RShift) (rI (λ_ j=>0<=j) λi j=>.int (i/2^j.toNat)):=opI λi j _ _ _ _ _ d q =>
 rshift_int d (by rw[W7 i (Vr _)];exact q)
theorem aFQ:OpR X (binaryOp .BitAnd) (rI0 λi j=>.int (Builtin.bitAnd i j)):=aFP λ_ _ _ _ _ _ _ q=>and_int q
theorem unI{f:Value->Sem Value}{g:Int->Int}
  (d:∀(i:Int)(t:Tok)(s:P_)(Q:B_)(E:B_),Q (.int (g i) s.toks) {s with toks:=s.toks+1}->wpAny (model X.prog X.w) X.A (f (.int i t)) Q E s) :
  UnR X f (rU λi=>.int (g i)):=by
 intro j s σ H x v Q I k h;refine xea h λi e q=>?_;clear h;subst e;obtain⟨t,rfl⟩:=k;exact d i t s _ _ ⟨.int (g i),H,I.tok _,⟨_,Z⟩,q⟩
theorem CZ:UnR X (unaryOp .USub) (rU λi=>.int (-i)):=unI λ_ _ _ _ _ q=>neg_int q
end
def aHY:V->V->Bool
|.non,.non=>o4|.non,.int _=>o4|.int _,.non=>o4|.non,.bl _=>o4|.bl _,.non=>o4|.non,.str _=>o4|.str _,.non=>o4
|.int _,.int _=>o4|.bl _,.bl _=>o4|.str _,.str _=>o4|.byt _,.byt _=>o4
|.int _,.str _=>o4|.str _,.int _=>o4|.bl _,.str _=>o4|.str _,.bl _=>o4
|_,_=>o5
def rEq:R2:=λx y H Q=>aHY x y=o4/\Q (.bl (decide (x=y))) H
def rNe:R2:=λx y H Q=>aHY x y=o4/\Q (.bl (!decide (x=y))) H
theorem JM{i j:Int}:decide (V.int i=V.int j)=(i==j):=by
 rw[S6];simp
theorem aAz{i j:Bool}:decide (V.bl i=V.bl j)=(i==j):=by
 rw[S6];simp
theorem Yo{i j:Str}:decide (V.str i=V.str j)=(i==j):=by
 rw[S6];simp
theorem Yp{i j:Array UInt8}:decide (V.byt i=V.byt j)=(i.toList==j.toList):=by
 rw[S6];cases i;cases j;simp
section
variable{X:Cx}{a b c:Expr}{ta tb tc:TE}{pos:Pos}
theorem Bo{k f:Bool}(I:Inv X d σ H s)(q:Q (.bl k) H)(e:k=f):EP X d σ Q (.bool f) s:=by
 subst e;exact⟨.bl k,H,I,Z,q⟩
theorem CQ:OpR X (compareOp .Eq) rEq:=by
 intro g s σ H x y v u Q I f d h;obtain⟨e,q⟩:=h;cases x with
 |non =>
  cases f;cases y with
  |non=>cases d;exact PySem.EqNone.eq_none_none (Bo I q B0)
  |bl j=>cases d;exact PySem.EqNone.eq_none_bool (Bo I q B0)
  |int j=>obtain⟨t',rfl⟩:=d;exact PySem.EqNone.eq_none_int (Bo I q B0)
  |str j=>obtain⟨t',rfl⟩:=d;exact PySem.EqNone.eq_none_str (Bo I q B0)
  |_=>exact absurd (show o5=o4 from e) F1
 |bl i =>
  cases f;cases y with
  |non=>cases d;exact PySem.EqNone.eq_bool_none (Bo I q B0)
  |bl j=>cases d;exact eq_bool (Bo I q aAz)
  |str j=>obtain⟨t',rfl⟩:=d;exact PySem.EqMixed.eq_bool_str (Bo I q B0)
  |_=>exact absurd (show o5=o4 from e) F1
 |int i =>
  obtain⟨t,rfl⟩:=f;cases y with
  |non=>cases d;exact PySem.EqNone.eq_int_none (Bo I q B0)
  |int j=>obtain⟨t',rfl⟩:=d;exact eq_int (Bo I q JM)
  |str j=>obtain⟨t',rfl⟩:=d;exact PySem.EqMixed.eq_int_str (Bo I q B0)
  |_=>exact absurd (show o5=o4 from e) F1
 |str i =>
  obtain⟨t,rfl⟩:=f;cases y with
  |non=>cases d;exact PySem.EqNone.eq_str_none (Bo I q B0)
  |bl j=>cases d;exact PySem.EqMixed.eq_str_bool (Bo I q B0)
  |int j=>obtain⟨t',rfl⟩:=d;exact PySem.EqMixed.eq_str_int (Bo I q B0)
  |str j=>obtain⟨t',rfl⟩:=d;exact eq_str (Bo I q Yo)
  |_=>exact absurd (show o5=o4 from e) F1
 |byt i =>
  obtain⟨t,rfl⟩:=f;cases y with
  |byt j=>obtain⟨t',rfl⟩:=d;exact W.eq_bytes (Bo I q Yp)
  |_=>exact absurd (show o5=o4 from e) F1
 |_=>cases y<;>exact absurd (show o5=o4 from e) F1
theorem JV:OpR X (compareOp .NotEq) rNe:=by
 intro g s σ H x y v u Q I f d h;obtain⟨e,q⟩:=h;cases x with
 |non =>
  cases f;cases y with
  |non=>cases d;exact PySem.EqNone.ne_none_none (Bo I q B0)
  |bl j=>cases d;exact PySem.EqNone.ne_none_bool (Bo I q B0)
  |int j=>obtain⟨t',rfl⟩:=d;exact PySem.EqNone.ne_none_int (Bo I q B0)
  |str j=>obtain⟨t',rfl⟩:=d;exact PySem.EqNone.ne_none_str (Bo I q B0)
  |_=>exact absurd (show o5=o4 from e) F1
 |bl i =>
  cases f;cases y with
  |non=>cases d;exact PySem.EqNone.ne_bool_none (Bo I q B0)
  |bl j=>cases d;exact ne_bool (Bo I q (A2c not aAz))
  |str j=>obtain⟨t',rfl⟩:=d;exact PySem.EqMixed.ne_bool_str (Bo I q B0)
  |_=>exact absurd (show o5=o4 from e) F1
 |int i =>
  obtain⟨t,rfl⟩:=f;cases y with
  |non=>cases d;exact PySem.EqNone.ne_int_none (Bo I q B0)
  |int j=>obtain⟨t',rfl⟩:=d;exact ne_int (Bo I q (A2c not JM))
  |str j=>obtain⟨t',rfl⟩:=d;exact PySem.EqMixed.ne_int_str (Bo I q B0)
  |_=>exact absurd (show o5=o4 from e) F1
 |str i =>
  obtain⟨t,rfl⟩:=f;cases y with
  |non=>cases d;exact PySem.EqNone.ne_str_none (Bo I q B0)
  |bl j=>cases d;exact PySem.EqMixed.ne_str_bool (Bo I q B0)
  |int j=>obtain⟨t',rfl⟩:=d;exact PySem.EqMixed.ne_str_int (Bo I q B0)
  |str j=>obtain⟨t',rfl⟩:=d;exact ne_str (Bo I q (A2c not Yo))
  |_=>exact absurd (show o5=o4 from e) F1
 |byt i =>
  obtain⟨t,rfl⟩:=f;cases y with
  |byt j=>obtain⟨t',rfl⟩:=d;exact W.ne_bytes (Bo I q (A2c not Yp))
  |_=>exact absurd (show o5=o4 from e) F1
 |_=>cases y<;>exact absurd (show o5=o4 from e) F1
theorem IZ:OpR X (compareOp .Lt) (rI0 λi j=>.bl (decide (i<j))):=aFO λ_ _ _ _ _ _ _ q=>lt_int q
theorem Mv:OpR X (compareOp .LtE) (rI0 λi j=>.bl (decide (i<=j))):=aFO λ_ _ _ _ _ _ _ q=>le_int q
theorem Ql:OpR X (compareOp .Gt) (rI0 λi j=>.bl (decide (j<i))):=aFO λ_ _ _ _ _ _ _ q=>gt_int q
theorem YN:OpR X (compareOp .In) (λx y H Q=>∃i j,x=.str i/\y=.str j/\Q (.bl (!(Builtin.Str.occurrences j i 0 j.length 1).isEmpty)) H):=by
 intro f s σ H x y v u Q I g k h;refine AS h λi j d e q=>?_;clear h;subst d;subst e;obtain⟨t,rfl⟩:=g;obtain⟨t',rfl⟩:=k;exact in_str (Bo I q Z)
theorem El:OpR X (compareOp .Is) (λx y H Q=>y=.non/\Q (.bl (decide (x=.non))) H):=by
 intro d s σ H x y v u Q I e f h;obtain⟨rfl,q⟩:=h;cases f;refine is_none_gen (Bo I q ?_);cases x<;>first
  | (cases e;rfl)
  | (obtain⟨t,rfl⟩:=e;rfl)
theorem SG:OpR X (compareOp .IsNot) (λx y H Q=>y=.non/\Q (.bl (!decide (x=.non))) H):=by
 intro d s σ H x y v u Q I e f h;obtain⟨rfl,q⟩:=h;cases f;refine isnot_none_gen (Bo I q ?_);cases x<;>first
  | (cases e;rfl)
  | (obtain⟨t,rfl⟩:=e;rfl)
theorem NA:OpR X (compareOp .NotIn) (λx y H Q=>∃i j,x=.str i/\y=.str j/\Q (.bl (!(!(Builtin.Str.occurrences j i 0 j.length 1).isEmpty))) H):=by
 intro f s σ H x y v u Q I g k h;refine AS h λi j d e q=>?_;clear h;subst d;subst e;obtain⟨t,rfl⟩:=g;obtain⟨t',rfl⟩:=k;exact notIn_str (Bo I q Z)
theorem AD(b:Expr)(h:d≠.In:=by decide)(g:d≠.NotIn:=by decide):behindInMarks d b=o5:=by
 have e:(d==CmpOp.In)=o5:=by cases d<;>first|rfl|exact absurd rfl h
 have f:(d==CmpOp.NotIn)=o5:=by cases d<;>first|rfl|exact absurd rfl g
 cases b<;>first|rfl|(unfold behindInMarks;dsimp only;rw[e,f,Bool.or_self,Bool.and_false,Bool.false_and])
theorem DY(l:OpR X (compareOp e) r)(i:PE X a ta)(j:PE X b tb)(k:behindInMarks e b=o5):PE X (.Compare a [e] [b] pos) (tOp r ta tb):=by
 intro d s σ H Q I h;exact wpAny_Compare1 (aEQ i j I h λv u o x y f g m n q=>l d o σ f x y v u Q g m n q) k
def ZL(t:TE):TT:=fun σ H Q=>t σ H λx H'=>∃k,x=.bl k/\Q k H'
theorem AA(t:OpR X (compareOp f) r)(o:PE X a ta)(p:PE X b tb)(q:behindInMarks f b=o5):PT X (.Compare a [f] [b] pos) (ZL (tOp r ta tb)):=by
 intro d s σ H Q I h;refine wpAny_isTrue_Compare1 (thn (o d s σ H _ I h) λv F ⟨x,g,l,C,w⟩=>thn (p d F σ g _ l w) λu G ⟨y,i,m,D,A⟩ =>
  thn (t d G σ i x y v u _ m C D A) λc K ⟨z,j,n,E,k,e,B⟩=>?_) q
 subst e;cases E;exact A3c ⟨j,n,B⟩
def ZN(r r':R2)(ta tb tc:TE):TE:=fun σ H Q=>ta σ H λx H1=>tb σ H1 λy H2=>r x y H2 λz H3=>∃k,z=.bl k /\
 (if k=o4 then tc σ H3 λw' H4=>r' y w' H4 Q else Q (.bl o5) H3)
theorem aB2{j g:CmpOp}(K:OpR X (compareOp j) r)(i:OpR X (compareOp g) o)(D:PE X a ta)(E:PE X b tb)(F:PE X c tc)
  (G:lastMarks [j,g] [b,c]=o5:=by with_unfolding_all rfl):PE X (.Compare a [j,g] [b,c] pos) (ZN r o ta tb tc):=by
 intro f s σ H Q I h;refine Compare_chain (thn (D f s σ H _ I h) λv S ⟨x,q,A,O,L⟩=>chain_link (thn (E f S σ q _ A L) λu T ⟨y,t,B,p,M⟩ =>
  thn (K f T σ t x y v u _ B O p M) λd U ⟨z,l,m,P,k,e,n⟩=>?_)) G
 subst e;cases P;refine A3c ?_;cases k with
 |false=>exact ite_ff ⟨.bl o5,l,m,Z,n⟩
 |true=>exact ite_tt (chain_last (thn (F f U σ l _ m n) λW V ⟨Y,w,C,R,N⟩=>i f V σ w y Y u W Q C p R N))
theorem Ur{j g:CmpOp}(O:OpR X (compareOp j) r)(i:OpR X (compareOp g) o)(K:PE X a ta)(L:PE X b tb)(M:PE X c tc)
  (N:lastMarks [j,g] [b,c]=o5:=by with_unfolding_all rfl):PT X (.Compare a [j,g] [b,c] pos) (ZL (ZN r o ta tb tc)):=by
 intro f s σ H Q I h;refine isTrue_chain (thn (K f s σ H _ I h) λv s1 ⟨x,q,B,V,R⟩=>test_link (thn (L f s1 σ q _ B R) λu s2 ⟨y,t,C,p,S⟩ =>
  thn (O f s2 σ t x y v u _ C V p S) λd s3 ⟨z,l,m,W,k,e,n⟩=>?_)) N
 subst e;cases W;refine A3c ?_;cases k with
 |false =>
  refine xea n λk' F P=>?_;cases F;exact ite_ff ⟨l,m,P⟩
 |true =>
  refine ite_tt (test_last (thn (M f s3 σ l _ m n) λw' s4 ⟨z',w,D,Y,T⟩=>thn (i f s4 σ w y z' u w' _ D p Y T) λd' s5 ⟨z2,A,E,r5,k2,G,U⟩=>?_));subst G;cases r5;exact A3c ⟨A,E,U⟩
theorem Oz:(sizeLine:Nat)<2^63:=by rw[sizeLine_eq];decide
theorem Qm:OpR X (binaryOp .Add) (λx y H Q=>∃i j,x=.str i/\y=.str j/\i.length+j.length<=sizeLine/\Q (.str (i++j)) H):=by
 intro f s σ H x y v u Q I k l h;refine Ep h λi j d e g q=>?_;clear h;subst d;subst e;obtain⟨t,rfl⟩:=k;obtain⟨t',rfl⟩:=l;exact add_str (λt' tk=>⟨.str (i++j),H,I.tok _,⟨_,Z⟩,q⟩) g
theorem Ro(r:AU [x] us):∃u,us=[u]/\Bh x u:=by
 cases r with
 |cons d e=>cases e;exact⟨_,Z,d⟩
theorem aEI(r:AU [x,y] us):∃u d,us=[u,d]/\Bh x u/\Bh y d:=by
 cases r with
 |cons e f =>
  cases f with
  |cons g h=>cases h;exact⟨_,_,Z,e,g⟩
theorem RT(g:X.calm=o4):GX X (.builtin "max") (λxs H Q=>∃i j,xs=[.int i,.int j]/\Q (.int (if j > i then j else i)) H):=by
 intro f s σ H xs us Q I r h;refine Cw h λi j e q=>?_;clear h;subst e;obtain⟨u,l,rfl,⟨t,rfl⟩,⟨t',rfl⟩⟩:=aEI r;refine max_two_ints (I.ok.hd g) λh' tk k=>⟨_,H,I.kept k,?_,q⟩
 by_cases d:j > i
 .rw[A0g d,A0g d];exact⟨_,Z⟩
 .rw[A0d d,A0d d];exact⟨_,Z⟩
theorem RS(g:X.calm=o4):GX X (.builtin "min") (λxs H Q=>∃i j,xs=[.int i,.int j]/\Q (.int (if j<i then j else i)) H):=by
 intro f s σ H xs us Q I r h;refine Cw h λi j e q=>?_;clear h;subst e;obtain⟨u,l,rfl,⟨t,rfl⟩,⟨t',rfl⟩⟩:=aEI r;refine min_two_ints (I.ok.hd g) λh' tk k=>⟨_,H,I.kept k,?_,q⟩
 by_cases d:j<i
 .rw[A0g d,A0g d];exact⟨_,Z⟩
 .rw[A0d d,A0d d];exact⟨_,Z⟩
theorem JN:GX X (.type "str") (λxs H Q=>∃i,xs=[.int i]/\i.natAbs.log2<1920/\Q (.str (toString i)) H):=by
 intro g s σ H xs us Q I r h;refine AX h λi d j q=>?_;clear h;subst d;refine xea (Ro r) λu d e=>xe e λt f=>?_;clear e;subst d;subst f;exact PySem.P.str_of_int j ⟨.str _,H,I.tok _,⟨_,Z⟩,q⟩
end
structure Wr(h:T_)(x dx C:R_)(mA:C_):Prop where
obj:h.get? x=n_ (instObj C dx)
ns:h.Ns1 dx mA
ne:dx≠x
theorem Zd{h:T_}{dx:R_}{d:C_}(n:h.Ns1 dx d):∃f,h.get? dx=n_ f/\∀name,lookIn name f=n_ (d name):=by
 refine CV n λo c p l i j _ k=>⟨o,l,λname=>?_⟩
 have e:=k name;unfold nsFind findBy at e;rw[<-Array.find?_toList]at e;unfold lookIn;rw[i];dsimp only;split
 .rename_i y q;rw[q]at e;exact A2c n_ e
 .rename_i q;rw[q]at e;have a:c.toList.any (·.refKey)=o5:=by
   rw[List.any_eq_false];intro y m;refine xe2 (j y (Array.mem_toList_iff.mp m)) λz t b=>?_;simp[DictEntry.refKey,b]
  have g:¬c.toList.any (·.refKey)=o4:=by rw[a];exact F1
  rw[A0d g];exact A2c n_ e
theorem Wr.look(I:Wr h x dx C b):∃a,W.InstAt h x (instObj C dx) C (n_ a)/\∀name,lookIn name a=n_ (b name) :=
 let ⟨a,ho,hl⟩:=Zd I.ns
 ⟨a,⟨I.obj,Z,Z,ho⟩,hl⟩
section
variable{prog:N_}{w:Q_}{A:Around}{E:B_}{s:P_}{K:O_}{x dx C f:R_}{mA:C_}{name:Str}{v:S_}
theorem aCT(X:K.In s.heap)(I:Wr s.heap x dx C mA)(d:plainGet K C name=o4)(e:hasDictIn K C=o4)
  (c:findIn K (.ref C) name=n_ o0) (i:mA name=n_ v) (b:handedIn v=o4) (h:Q v {s with toks:=s.toks+1}) :
  wpAny (model prog w) A (getAttr (.ref x) name a) Q E s:=by
 exact xea I.look λj J g=>W.get_value X J (A8c d).1 (W.findObj_own e c Z (by rw[g,i])) b h
theorem aBE(X:K.In s.heap)(I:Wr s.heap x dx C mA)(a:plainGet K C name=o4)
  (b:findIn K (.ref C) name=n_ (n_ (.ref f))) (d:isFn K (.ref f)=o4) (e:mA name=o0) (h:Q (.ref f,[.ref x]) s) :
  wpAny (model prog w) A (getMethod (.ref x) name pl) Q E s:=by
 exact xea I.look λg J c=>W.method_fn X J (A8c a).1 (A8c a).2 b (beq_iff_eq.mp d) (by show(lookIn name g).map (·.isSome)=n_ o5;rw[c,e];rfl) h
theorem aDB{ns:K_}(X:K.In s.heap)(I:Wr s.heap x dx C mA)
  (p:findIn K (.ref C) "__setattr__" = n_ (n_ (.builtin "object.__setattr__"))) (o:plainOver K C=o4) (q:takerIn K C name=n_ o0) (n:hasDictIn K C=o4)
  (t:PySem.Within mA ns) (hsz:ns.length<=sizeLine)
  (h:∀h',Wr h' x dx C (λy=>if y=name then n_ v else mA y)->Heap.SameBut dx s.heap h'->Q () {s with heap:=h',toks:=s.toks+2}) :
  wpAny (model prog w) A (setAttr (.ref x) name v) Q E s:=by
 refine xea I.look λF J B=>W.set_plain X J p (W.osa_open (s:={s with toks:=s.toks+1}) (r:=o0) X J o q λb=>?_);refine xea (any_some n) λz m g=>?_;have u:=I.obj;refine A0c (A0h (A0c (A0c (wpAny_loadPart u (A0c (W.Looks.here (s:={s with toks:=s.toks+1}) (W.looks_clsIn X m) ?_))))));rw[g];refine A0h (a:=n_ dx) (A0c (A0h (A0c ?_)));refine wpAny_nsSet1 (s:={s with toks:=s.toks+1}) I.ns λh' c d=>Dw (c.count (PySem.Within.cons name v t)) λD l k j i e=>A0c (wpAny_lookBehind j (by rw[i];exact pastItsLine_dict (C5 e (by rw[F0];exact U2 hsz A4))) ?_);exact A0h (h _ ⟨(d.2 _ (A1a I.ne)).trans I.obj,c,I.ne⟩ d)
theorem aBZ(X:K.In s.heap)(i:makesIn K C=o4)
  (e:findIn K (.ref C) "__init__" = n_ (n_ (.ref f))) (c:W.typeIn K (.ref f)=n_ (.type "function"))
  (h:codeAny (model prog w) (A.under (.builtin "type.__call__" ⟨.ref C::vs,b⟩)) (.call (.ref f) ⟨.ref (s.heap.objs.size+1)::vs,b⟩) (W.InitBack (s.heap.objs.size+1) R)
   {s with heap:=(s.heap.push emptyDict).push (instObj C s.heap.objs.size)}) :
  codeAny (model prog w) A (.call (.ref C) ⟨vs,b⟩) R s:=by
 obtain⟨j,g,d,t,k⟩:=s;exact W.make_core (W.makes_of X i) (W.looks_findIn X e) (λa=>W.bind_fn X a c) (.inl Z) h
end
def Bb(f:Str)(v:V):List (Str×V)->List (Str×V)
|[]=>[(f,v)]
| (g,x)::r=>if g=f then(g,v)::r else(g,x)::Bb f v r
theorem An(f g:Str)(v:V):∀fs:List (Str×V),(Bb f v fs).lookup g=if g=f then n_ v else fs.lookup g
|[]=>by
 show List.lookup g [(f,v)]=_;by_cases h:g=f
 .have a:=beq_iff_eq.mpr h;simp only[List.lookup,a,A0g h]
 .have a:=beq_eq_false_iff_ne.mpr h;simp only[List.lookup,a,A0d h]
| (k,x)::r=>by
 have c:=An f g v r;rw[show Bb f v ((k,x)::r)=(if k=f then(k,v)::r else(k,x)::Bb f v r)from rfl];by_cases b:k=f
 .rw[A0g b];by_cases h:g=k
  .have a:=beq_iff_eq.mpr h;simp only[List.lookup,a,A0g (h.trans b)]
  .have a:=beq_eq_false_iff_ne.mpr h;simp only[List.lookup,a,A0d (λe:g=f=>h (e.trans b.symm))]
 .rw[A0d b];by_cases h:g=k
  .have a:=beq_iff_eq.mpr h;simp only[List.lookup,a,A0d (λe:g=f=>b (h.symm.trans e))]
  .have a:=beq_eq_false_iff_ne.mpr h;simp only[List.lookup,a];exact c
theorem OA(f:Str)(v:V):∀fs:List (Str×V),f∈(Bb f v fs).map (·.1)/\∀g,g∈fs.map (·.1)->g∈(Bb f v fs).map (·.1)
|[]=>⟨by simp[Bb],λg h=>by simp at h⟩
| (k,x)::r=>by
 obtain⟨b,c⟩:=OA f v r;rw[show Bb f v ((k,x)::r)=(if k=f then(k,v)::r else(k,x)::Bb f v r)from rfl];by_cases a:k=f
 .rw[A0g a];subst a;exact⟨by simp,λg h=>by simpa using h⟩
 .rw[A0d a];refine⟨?_,λg h=>?_⟩
  .rw[F8];exact C9 _ b
  .rw[F8]at h⊢;rcases C1.mp h with e|e
   .exact C1.mpr (.inl e)
   .exact C9 _ (c g e)
theorem BN(f:Str)(v:V):∀fs:List (Str×V),(Bb f v fs).length<=fs.length+1
|[]=>by simp[Bb]
| (k,x)::r=>by
 have b:=BN f v r;rw[show Bb f v ((k,x)::r)=(if k=f then(k,v)::r else(k,x)::Bb f v r)from rfl];by_cases a:k=f
 .rw[A0g a,F0,F0];exact F5 _ _
 .rw[A0d a,F0,F0];exact U2 b A4
theorem Le.some_of(r:Le (n_ v) o):∃u,o=n_ u/\Bh v u:=by
 cases o with
 |none=>exact(show False from r).elim
 |some u=>exact⟨u,Z,r⟩
theorem Le.none_of(r:Le o0 o):o=o0:=by
 cases o with
 |none=>rfl
 |some u=>exact(show False from r).elim
theorem Zl(r:Bh v u):handedIn u=o4:=by
 cases v with
 |non=>cases(show u=Value.none from r);rfl
 |bl b=>cases(show u=Value.bool b from r);rfl
 |int i=>obtain⟨t,e⟩:=(show ∃t,u=Value.int i t from r);cases e;rfl
 |str x=>obtain⟨t,e⟩:=(show ∃t,u=Value.str x t from r);cases e;rfl
 |byt b=>obtain⟨t,e⟩:=(show ∃t,u=Value.bytes b t from r);cases e;rfl
 |flt b=>obtain⟨t,e⟩:=(show ∃t,u=Value.float b t from r);cases e;rfl
 |ref a=>cases(show u=Value.ref a from r);rfl
 |ty n=>cases(show u=Value.type n from r);rfl
section
variable{P:N_}{w:Q_}{H H':Hp}{h h':T_}{a C dx:R_}{fs fs':List (Str×V)}
theorem Pt(c:HOk P w H h)(e:H a=n_ (.ins C dx fs)):∃b,Wr h a dx C b/\(∀f,Le (fs.lookup f) (b f))/\PySem.Within b (fs.map (·.1))/\fs.length<=1000/\H dx=n_ (.own a):=by
 obtain⟨d,z,ne,g,b,n,r,q⟩:=(show BQ P w H h a (.ins C dx fs)from c a _ e)
 exact⟨b,⟨g,n,ne⟩,r,q,z,d⟩
end
structure Cls(K:O_)(C:R_):Prop where
pg:plainGet K C Str.empty=o4
hd:hasDictIn K C=o4
po:plainOver K C=o4
sa:findIn K (.ref C) "__setattr__" = n_ (n_ (.builtin "object.__setattr__"))
theorem Cls.get{K:O_}{C:R_}(c:Cls K C)(f:Str):plainGet K C f=o4:=c.pg
def BS(K:O_)(C:R_)(f:Str):Prop:=findIn K (.ref C) f=n_ o0
theorem BS.taker{K:O_}{C:R_}{f:Str}(n:BS K C f):takerIn K C f=n_ o0:=by
 unfold takerIn;rw[show findIn K (.ref C) f=n_ o0 from n];rfl
structure Ri(K:O_)(C:R_)(m:Str)(f:R_):Prop where
at_:findIn K (.ref C) m=n_ (n_ (.ref f))
fn:isFn K (.ref f)=o4
kp:keepIn K (.ref f)=o4
section
variable{X:Cx}{n9:A_}{σ:St}{H:Hp}{s:P_}{a C dx:R_}{fs:List (Str×V)}{f:Str}{v:V}{A:Around}{E:B_}
theorem Wh(I:Inv X n9 σ H s)(e:H a=n_ (.ins C dx fs))(c:Cls X.K C)(n:BS X.K C f)(l:fs.lookup f=n_ v)
  (h:∀u i,Inv X n9 σ H i->Bh v u->Q u i):wpAny (model X.prog X.w) A (getAttr (.ref a) f b) Q E s:=by
 exact Ec (Pt I.hok e) λk O r _ d=>xa d λ_ _=>xea (Le.some_of (v:=v) (o:=k f) (by rw[<-l];exact r f)) λu j g=>aCT I.kIn O (c.get f) c.hd n j (Zl g) (h u _ (I.tok _) g)
theorem Wg(I:Inv X n9 σ H s)(e:H a=n_ (.ins C dx fs))(c:Cls X.K C)(k:Ri X.K C m g)(l:fs.lookup m=o0)
  (h:Q (.ref g,[.ref a]) s):wpAny (model X.prog X.w) A (getMethod (.ref a) m pl) Q E s:=by
 refine Ec (Pt I.hok e) λi O r _ b=>xa b λ_ _=>?_;have d:=Le.none_of (by rw[<-l];exact r m);exact aBE I.kIn O (c.get m) k.at_ k.fn d h
theorem VC(I:Inv X n9 σ H s)(e:H a=n_ (.ins C dx fs))(c:Cls X.K C)(n:BS X.K C f)(L:fs.length<1000)(F:Bh y u)
  (h:∀m,Inv X n9 σ (upd H a (.ins C dx (Bb f y fs))) m->Q () m):wpAny (model X.prog X.w) A (setAttr (.ref a) f u) Q E s:=by
 refine Ec (Pt I.hok e) λl O r p d=>xa d λ_ k=>?_;have D:(fs.map (·.1)).length<=sizeLine:=by rw[B7,sizeLine_eq];exact C5 d.1 A4
 refine aDB I.kIn O c.sa c.po n.taker c.hd p D λh' i G=>h _ ?_;have j:∃o,h'.get? dx=n_ o:=let ⟨o,_,_,e',_⟩:=i.ns;⟨o,e'⟩;refine I.write (x:=a) (e:=dx) (by rw[e];exact True.intro) (.inr k) (λb q t z=>(G.2 b t).trans z) j ⟨by rw[Ax O.ne];exact k,?_,O.ne,i.obj,_,i.ns,λg=>?_,λg B=>?_⟩
 .have:=BN f y fs;lia
 .show Le ((Bb f y fs).lookup g) (if g=f then n_ u else l g);rw[An];by_cases q:g=f
  .rw[A0g q,A0g q];exact F
  .rw[A0d q,A0d q];exact r g
 .by_cases q:g=f
  .rw[q];exact(OA f y fs).1
  .refine(OA f y fs).2 g (p g λz=>B ?_);show(if g=f then n_ u else l g)=o0;rw[A0d q];exact z
theorem Inv.made(I:Inv X n9 σ H s):Inv X n9 σ (upd (upd H s.heap.objs.size (.own (s.heap.objs.size+1))) (s.heap.objs.size+1) (.ins C s.heap.objs.size []))
  {s with heap:=(s.heap.push emptyDict).push (instObj C s.heap.objs.size)}:=by
 have c:(s.heap.push emptyDict).get? s.heap.objs.size=n_ emptyDict:=F2 s.heap Z;have g:((s.heap.push emptyDict).push (instObj C s.heap.objs.size)).get? (s.heap.objs.size+1)=n_ (instObj C s.heap.objs.size):=by
  have:=F2 (s.heap.push emptyDict) (o:=instObj C s.heap.objs.size) Z
  rwa [S2]at this
 have h:(s.heap.push emptyDict).Ns s.heap.objs.size (λ_=>o0):=⟨emptyDict,#[],_,c,Z,(λe i=>absurd i B0),λ_=>Z⟩
 have d:=I.laid (a:=s.heap.objs.size) (o:=.own (s.heap.objs.size+1)) (h':=s.heap.push emptyDict) (t':=s.toks) (λb u q=>C3 _ q) (B8 _) ⟨_,c⟩;refine d.laid (a:=s.heap.objs.size+1) (o:=.ins C s.heap.objs.size []) (t':=s.toks) (λb u q=>C3 _ q) (K8 (S2 _ _)) ?_;have ne:s.heap.objs.size≠s.heap.objs.size+1:=L8 (V3 _);refine⟨by rw[Ax ne,Af],M7 _,ne,g,λ_=>o0,(Heap.Ns1.of_empty h).at λo q=>C3 _ q,λ_=>True.intro,λy j=>absurd rfl j⟩
theorem aCI{f:Str}{s:P_}(d:attributeBase e f b (eval e b)=eval e b)
  (h:wpAny (model prog w) A (eval e b) (λo c=>wpAny (model prog w) A (getAttr o f o4) Q E c) E s):wpAny (model prog w) A (eval (.Attribute e f pos) b) Q E s :=
 Attribute_any_ h (by rw[arm_eval_Attribute,d])
end
def aHv(K:O_)(ta:TE)(f:Str):TE:=fun σ H Q=>ta σ H λx H1=>∃a C dx fs v,x=.ref a/\H1 a=n_ (.ins C dx fs)/\Cls K C/\BS K C f/\fs.lookup f=n_ v/\Q v H1
def sFld(K:O_)(ta tv:TE)(f:Str):TS:=λD σ H=>tv σ H λy H1=>ta σ H1 λx H2=>∃a C dx fs,x=.ref a/\H2 a=n_ (.ins C dx fs)/\Cls K C/\BS K C f/\fs.length<1000 /\
 D.nx σ (upd H2 a (.ins C dx (Bb f y fs)))
section
variable{X:Cx}{o e value:Expr}{f:Str}{pos pos' tpos:Pos}{ta tv:TE}
theorem AF(w:PE X e ta)(t:attributeBase e f X.env (eval e X.env)=eval e X.env):PE X (.Attribute e f pos) (aHv X.K ta f):=by
 intro b s σ H Q I h;refine aCI t (thn (w b s σ H _ I h) λu A r=>?_);refine AS r λx i j z d=>xe5 d λa C dx fs v g=>xa5 g λp m c n l q=>?_;subst p;obtain rfl:u=Value.ref a:=z;exact Wh j m c n l λD B k y=>⟨v,i,k,y,q⟩
theorem Db(p:PE X o ta)(t:PE X value tv)(r:swapsWith value (n_ (.Attribute o f pos')) pos.line X.env=pure o5):PS X (.Assign [.Attribute o f pos'] value pos) (sFld X.K ta tv f):=by
 intro b s σ H D I h;refine plainObj_wpAny_Assign_Attribute (thn (t b s σ H _ I h) λu B ⟨y,d,g,A,q⟩=>thn (p b B σ d _ g q) λv F ⟨x,E,i,z,a,C,dx,fs,m,k,c,n,l,w⟩=>?_) r;subst m;obtain rfl:v=Value.ref a:=z;exact VC i k c n l A λG j=>⟨σ,_,j,w⟩
end
section
variable{X:Cx}{n9:A_}{σ:St}{H:Hp}{s:P_}{A:Around}{E:B_}{Q:B_}{c:S_}{b:Bool}
inductive OG(K:O_)(H:Hp):V->Value->Prop where
|non:OG K H .non (.type "NoneType")
|bl (x:Bool):OG K H (.bl x) (.type "bool")
|int (i:Int):OG K H (.int i) (.type "int")
|str (x:Str):OG K H (.str x) (.type "str")
|flt (x:UInt64):OG K H (.flt x) (.type "float")
|lst {a:R_} {xs:List V} (e:H a=n_ (.lst xs)):OG K H (.ref a) (.type "list")
|frz {a:R_} {o:Obj} {xs:List V} (e:H a=n_ (.frz o (.lst xs))):OG K H (.ref a) (.type "list")
|tup {a:R_} {xs:List V} (e:H a=n_ (.tup xs)):OG K H (.ref a) (.type "tuple")
|dK {a:R_} {kvs:List (Key×V)} (e:H a=n_ (.dK kvs)):OG K H (.ref a) (.type "dict")
|dT {a:R_} {kvs:List (List Key×V)} (e:H a=n_ (.dT kvs)):OG K H (.ref a) (.type "dict")
|ins {a C dx:R_} {fs:List (Str×V)} (e:H a=n_ (.ins C dx fs)) (cl:Cls K C) (ha:findIn K (.ref C) "__class__" = n_ (n_ (.builtin "object.__class__")))
  (hn:specialIn K (.builtin "object.__class__") "__get__" = n_ (n_ (.builtin "getset_descriptor.__get__"))) (htk:takesIn K (.builtin "object.__class__")=n_ o4)
  (hm:mroIn K C (.type "object")=n_ o4):OG K H (.ref a) (.ref C)
theorem Zi{u t:S_}(I:Inv X n9 σ H s)(f:Bh x u)(G:OG X.K H x t)(e:kitOne X.K t c=n_ b)(h:∀tk,Q (.bool b) {s with toks:=tk}) :
  wpAny (model X.prog X.w) A (call (.builtin "isinstance") [u,c]) Q E s:=by
 cases G with
 |non=>cases(show u=Value.none from f);exact A3a W.kitx_none I.kIn True.intro e (λz=>nomatch z) h
 |bl y=>cases(show u=Value.bool y from f);exact A3a W.kitx_bool I.kIn True.intro e (λz=>nomatch z) h
 |int i=>obtain⟨t,q⟩:=(show ∃t,u=Value.int i t from f);cases q;exact A3a W.kitx_int I.kIn True.intro e (λz=>nomatch z) h
 |str y=>obtain⟨t,q⟩:=(show ∃t,u=Value.str y t from f);cases q;exact A3a W.kitx_str I.kIn True.intro e (λz=>nomatch z) h
 |flt y=>obtain⟨t,q⟩:=(show ∃t,u=Value.float y t from f);cases q;exact A3a W.kitx_float I.kIn True.intro e (λz=>nomatch z) h
 |@lst a xs d =>
  cases(show u=Value.ref a from f);exact Rl (show BQ X.prog X.w H s.heap a (.lst xs)from I.hok a _ d) λ_ _ n _ g=>A3a kitx_list I.kIn ⟨_,g,Z⟩ e (λz=>nomatch z) h
 |@frz a F xs d =>
  cases(show u=Value.ref a from f);obtain⟨_,_,_,n,_,g⟩:=(show BQ X.prog X.w H s.heap a (.frz F (.lst xs))from I.hok a _ d)
  exact A3a kitx_list I.kIn ⟨_,g,Z⟩ e (λz=>nomatch z) h
 |@tup a xs d =>
  cases(show u=Value.ref a from f);exact MD (show BQ X.prog X.w H s.heap a (.tup xs)from I.hok a _ d) λ_ _ _ p=>AX p λo g j _=>A3a W.kitx_tuple I.kIn ⟨o,g,j⟩ e (λz=>nomatch z) h
 |@dK a kvs d =>
  cases(show u=Value.ref a from f);exact Dh (show BQ X.prog X.w H s.heap a (.dK kvs)from I.hok a _ d) λ_ _ vs _ p=>Dw p λo r m g j _=>A3a kitx_dict I.kIn ⟨o,g,j.1⟩ e (λz=>nomatch z) h
 |@dT a kvs d =>
  cases(show u=Value.ref a from f);exact Dh (show BQ X.prog X.w H s.heap a (.dT kvs)from I.hok a _ d) λ_ _ xs _ l=>Dw l λo r m g j _=>A3a kitx_dict I.kIn ⟨o,g,j.1⟩ e (λz=>nomatch z) h
 |@ins a C dx fs d cl v D k B =>
  cases(show u=Value.ref a from f);exact xea (Pt I.hok d) λL O _=>xea O.look λM J _=>A3a (W.kitx_own (cl.get _) cl.hd v D k B) I.kIn J e (λz=>nomatch z) h
end
structure Dt(k:Nat)(A:Around):Prop where
hd:A.handled=o0
dp:A.depth+3*k+5<recursionLimit
un:A.units+16*k+200<cLine
theorem Dt.mono{j k:Nat}(r:Dt k A)(h:j<=k):Dt j A:=⟨r.hd,by have:=r.dp;lia,by have:=r.un;lia⟩
theorem Dt.deeper{k:Nat}(r:Dt (k+1) A)(a:Env):Dt k (A.deeper a) :=
 ⟨r.hd,by have:=r.dp;show A.depth+1+3*k+5<_;lia,by have:=r.un;show A.units+3+16*k+200<_;lia⟩
theorem Dt.in1{k:Nat}(r:Dt (k+1) A):Dt k A.in1 :=
 ⟨r.hd,by have:=r.dp;show A.depth+3*k+5<_;lia,by have:=r.un;show A.units+1+16*k+200<_;lia⟩
theorem Wb{A:Around}{C:R_}{us:F_}{a:List (Str×Value)}:(A.under (.builtin "type.__call__" ⟨.ref C::us,a⟩)).depth=A.depth+1:=by
 first|rfl|simp[Around.under,Code.weight,Code.isCreation,Code.isGuard,Code.isCaller,Code.frames,Code.isFrame,guardIds]
theorem Wa{A:Around}{C:R_}{us:F_}{a:List (Str×Value)}:(A.under (.builtin "type.__call__" ⟨.ref C::us,a⟩)).units=A.units+1:=by
 first|rfl|simp[Around.under,Code.cUnits,Code.frames,Code.isFrame]
theorem Dt.make{k:Nat}(r:Dt (k+1) A)(C:R_)(us:F_)(a:List (Str×Value)):Dt k (A.under (.builtin "type.__call__" ⟨.ref C::us,a⟩)) :=
 ⟨r.hd,by have:=r.dp;rw[Wb];lia,by have:=r.un;rw[Wa];lia⟩
theorem Dt.depth{k:Nat}(r:Dt k A):A.depth<recursionLimit:=by have:=r.dp;lia
theorem Dt.units{k:Nat}(r:Dt k A):A.units+64<cLine:=by have:=r.un;lia
def PF:TA:=λ_ H Q=>Q [] H
def CI(ta:TE)(tr:TA):TA:=fun σ H Q=>ta σ H λx H1=>tr σ H1 λxs H2=>Q (x::xs) H2
section
variable{X:Cx}{e:Expr}{es:List Expr}{te:TE}{t:TA}{pos:Pos}
theorem Ab:PA X [] PF:=λ_ _ _ _ H Q I h=>Calls.spliced_nil ⟨[],H,I,.nil,h⟩
theorem Aa(i:PE X e te)(j:PA X es t)(k:starEach (e::es) X.env=(o5,eval e X.env)::starEach es X.env:=by rfl):PA X (e::es) (CI te t):=by
 intro pos a s σ H Q I h;rw[k];show wpAny _ _ (spliced ((o5,eval e X.env)::backTo pos (starEach es X.env))) _ _ s;refine A7g (thn (i a s σ H _ I h) λu p b=>?_);exact AS b λx c f n l=>thn (j pos a p σ c _ f l) λus q b=>AS b λxs d g o m=>⟨x::xs,d,g,.cons n o,m⟩
def YI(t:TA):TE:=fun σ H Q=>t σ H λxs H1=>xs.length<=sizeLine/\∀p,H1 p=o0->Q (.ref p) (upd H1 p (.tup xs))
def aDH(t:TA):TE:=fun σ H Q=>t σ H λxs H1=>xs.length<=sizeLine/\∀p,H1 p=o0->Q (.ref p) (upd H1 p (.lst xs))
theorem BH{x1}(h:PA X es t):PE X (.Tuple es x1 pos) (YI t):=by
 intro a s σ H Q I i;refine wpAny_Tuple_spliced (thn (h pos a s σ H _ I i) λus c ⟨xs,f,d,r,z,q⟩=>⟨by rw[<-r.length];exact z,?_⟩);have g:=d.hok.fresh (B8 _);refine⟨.ref c.heap.objs.size,upd f c.heap.objs.size (.tup xs),d.laid (t':=c.toks) (λb u e=>C3 _ e) (B8 _) ?_,Z,q _ g⟩;exact⟨z,us,r,⟨_,F2 _ Z,Z,_,Z⟩⟩
theorem BO(h:PA X es t):PE X (.List es pos) (aDH t):=by
 intro a s σ H Q I i;refine wpAny_List_spliced (thn (h pos a s σ H _ I i) λus c ⟨xs,f,d,r,z,q⟩=>⟨by rw[<-r.length];exact z,?_⟩);have g:=d.hok.fresh (B8 _);refine⟨.ref c.heap.objs.size,upd f c.heap.objs.size (.lst xs),d.laid (t':=c.toks) (λb u e=>C3 _ e) (B8 _) ?_,Z,q _ g⟩;exact⟨z,us,0,r,F2 _ Z⟩
end
abbrev Sp:=List V->Hp->VK->XK->Prop
abbrev CXT:=List Env->Hp->Shared->XK->Value->Shared->Prop
structure Pc(P:N_)(w:Q_)(K:O_)(mg:C_)(n8:T_)(A:Around)(outer:List Env)(s:P_)(H:Hp):Prop where
frames:A.frames=n_ outer
mod:Mod K mg n8
bs:∀b o,n8.get? b=n_ o->s.heap.get? b=n_ o/\H b=o0
bsz:n8.objs.size<=s.heap.objs.size
funs:s.heap.FunFrames n8 outer
frf:∀b∈frs outer,H b=o0
hok:HOk P w H s.heap
bare:AllBare s.gens
def CE(outer:List Env)(P:N_)(w:Q_)(H:Hp)(s:P_)(Q:VK)(u:S_)(s':P_):Prop :=
 ∃v H',s'.os=s.os/\AllBare s'.gens/\Un (frs outer) [] H H' s.heap s'.heap/\HOk P w H' s'.heap/\Bh v u/\Q v H'
def CR(CX:CXT)(outer:List Env)(P:N_)(w:Q_)(H:Hp)(s:P_)(Q:VK)(E:XK)(r:Result)(s':P_):Prop :=
 match r with
 |.ok (.ret u)=>CE outer P w H s Q u s'
 |.ok _=>False
 |.error e=>CX outer H s E e s'
structure AM(P:N_)(w:Q_)(K:O_)(mg:C_)(n8:T_)(CX:CXT)(k:Nat)(f:R_)(fd:E_)(ps:K_)(sp:Sp):Prop where
len:∀vs H Q E,sp vs H Q E->vs.length=ps.length
run:∀(A:Around)(outer:List Env)(s:P_)(H:Hp)(args:Args)(us:F_)(vs:List V)(Q:VK)(E:XK),Dt k A->Pc P w K mg n8 A outer s H->BindsTo s fd args (ps.zip us)->AU vs us->sp vs H Q E ->
 codeAny (model P w) A (.call (.ref f) args) (CR CX outer P w H s Q E) s
theorem AM.imp{P:N_}{w:Q_}{K:O_}{mg:C_}{a:T_}{CX:CXT}{k:Nat}{f:R_}{e:E_}{ps:K_}{sp d:Sp}(F:AM P w K mg a CX k f e ps sp)
  (h:∀vs H Q E,d vs H Q E->sp vs H Q E):AM P w K mg a CX k f e ps d :=
 ⟨λvs H Q E q=>F.len vs H Q E (h _ _ _ _ q),λA b s H c us vs Q E j i g m l=>F.run A b s H c us vs Q E j i g m (h _ _ _ _ l)⟩
theorem Pc.make{P:N_}{w:Q_}{K:O_}{mg:C_}{b:T_}{A:Around}{a:List Env}{s:P_}{H:Hp}(e:Pc P w K mg b A a s H)(C:R_)(us:F_)(c:List (Str×Value)) :
 Pc P w K mg b (A.under (.builtin "type.__call__" ⟨.ref C::us,c⟩)) a s H:=⟨by first|exact e.frames|(simpa[Around.under,Code.envs,Code.isFrame,pushEnvs] using e.frames),e.mod,e.bs,e.bsz,e.funs,e.frf,e.hok,e.bare⟩
theorem Pc.in1{P:N_}{w:Q_}{K:O_}{mg:C_}{b:T_}{A:Around}{a:List Env}{s:P_}{H:Hp}(e:Pc P w K mg b A a s H) :
 Pc P w K mg b A.in1 a s H:=⟨e.frames,e.mod,e.bs,e.bsz,e.funs,e.frf,e.hok,e.bare⟩
section
variable{X:Cx}{n9:A_}{σ:St}{H:Hp}{s s':P_}
theorem Inv.env0(I:Inv X n9 σ H s):Pc X.prog X.w X.K X.mg X.n8 X.A X.stack s H :=
 ⟨I.ok.frames,I.ok.mod,I.bs,C5 I.ok.bsz I.sz,I.stack,I.stkFree,I.hok,I.bare⟩
theorem Inv.after(I:Inv X n9 σ H s)(h:CE X.stack X.prog X.w H s Q u s'):EP X n9 σ Q u s':=by
 refine Dx h λv i f bare un a e=>xa e λr q=>?_;obtain⟨j,g,d,t,c⟩:=s';obtain rfl:c=s.os:=f;exact⟨v,i,I.call (h':=j) (g':=g) (d':=d) (t':=t) (ch:=[]) un a bare (λb z=>absurd z B0),r,q⟩
end
def aEG(sp:Sp)(dvs:List V)(E:XK)(t:TA):TE:=fun σ H Q=>t σ H λvs H1=>sp (vs++dvs) H1 Q E
def WA(C:R_)(m:Str)(sp:Sp)(dvs:List V)(E:XK)(ta:TE)(t:TA):TE:=fun σ H Q=>ta σ H λx H1=>∃a dx fs,x=.ref a/\H1 a=n_ (.ins C dx fs)/\fs.lookup m=o0 /\
 t σ H1 λvs H2=>sp (x::(vs++dvs)) H2 Q E
def WB(C:R_)(sp:Sp)(dvs:List V)(E:XK)(t:TA):TE:=fun σ H Q=>t σ H λvs H1=>∀x dx,H1 x=o0->H1 dx=o0->dx≠x ->
 sp (.ref x::(vs++dvs)) (upd (upd H1 dx (.own x)) x (.ins C dx [])) (λv H2=>v=.non/\Q (.ref x) H2) E
def CY(K:O_)(fd:E_)(ps:K_)(ds:F_):Prop :=
 ∀(s:P_)(us:F_),K.In s.heap->(us++ds).length=ps.length->BindsTo s fd ⟨us,[]⟩ (ps.zip (us++ds))
theorem CY.all{K:O_}{a:E_}{ps:K_}(h:∀us:List Value,us.length=ps.length->bindArgs a ⟨us,[]⟩=pure (ps.zip us)):CY K a ps []:=λs us _ b=>by
 rw[Z9]at b⊢;exact .of_eq (h us b)
def GV(CX:CXT)(X:Cx)(E:XK):Prop:=∀(n9:A_)(σ:St)(H:Hp)(s:P_)(e:S_)(s':P_),Inv X n9 σ H s->CX X.stack H s E e s'->X.xe e s'
section
variable{X:Cx}{CX:CXT}{k:Nat}{f C:R_}{fd:E_}{ps:K_}{sp:Sp}{dvs:List V}{ds:F_}{E:XK}{x m:Str}{p pos apos:Pos}{e o:Expr}{es:List Expr}{ta:TE}{t:TA}
theorem aB8(F:AM X.prog X.w X.K X.mg X.n8 CX k f fd ps sp)(l:Dt k X.A)(g:CY X.K fd ps ds)(i:AU dvs ds)(n:GV CX X E)
  (I:Inv X a σ H s) (r:AU vs us) (h:sp (vs++dvs) H Q E):wpAny (model X.prog X.w) X.A (call (.ref f) us) (EP X a σ Q) X.xe s:=by
 have c:=r.append i;have j:(us++ds).length=ps.length:=by rw[<-c.length];exact F.len _ _ _ _ h
 refine wpAny_call (A8d (F.run X.A X.stack s H ⟨us,[]⟩ (us++ds) (vs++dvs) Q E l I.env0 (g s us I.kIn j) c h) λr q b=>?_);cases r with
 |error e=>exact n a σ H s e q I b
 |ok d =>
  cases d with
  |ret u=>exact I.after b
  |next=>exact False.elim b
  |brk=>exact False.elim b
  |cont=>exact False.elim b
theorem aCy(F:AM X.prog X.w X.K X.mg X.n8 CX k f fd ps sp)(y:Dt k X.A)(n:Gl X x)(v:X.mg x=n_ (.ref f))(u:keepIn X.K (.ref f)=o4)(i:CY X.K fd ps ds)(j:AU dvs ds)(z:GV CX X E)
  (g:PA X (e::es) t) (b:(x==("__debug__" : Str))=o5:=by decide) (l:starEach (e::es) X.env=(o5,eval e X.env)::starEach es X.env:=by rfl) (c:(backTo pos (starEach es X.env)).any (·.1)=o5:=by rfl) :
  PE X (.Call (.Name x p) (e::es) [] pos) (aEG sp dvs E t):=by
 intro a s σ H Q I h;refine A5a (Pr I n v ?_ b);refine A9a (h₀:=X.n8) I.ok.mod.kin u (thn (g pos a s σ H _ I h) λus D ⟨vs,B,d,r,q⟩=>⟨d.kIn,?_⟩) l c;exact aB8 F y i j z d r q
theorem aC1(O:PE X o ta)(c:Cls X.K C)(v:Ri X.K C m f)(F:AM X.prog X.w X.K X.mg X.n8 CX k f fd ps sp)(P:Dt k X.A)(M:CY X.K fd ps ds)(N:AU dvs ds)(S:GV CX X E)(L:PA X (e::es) t)
  (g:starEach (e::es) X.env=(o5,eval e X.env)::starEach es X.env:=by rfl) (d:(backTo pos (starEach es X.env)).any (·.1)=o5:=by rfl)
  (R:eval (.Call (.Attribute o m apos) (e::es) [] pos) X.env=(do
   let y <-eval o X.env
   standAt apos.atName
   let (f,first) <-holding [y] (getMethod y m pl)
   callWith pos f first (backTo pos (starEach (e::es) X.env)) (backToKw pos (keywordEach [] X.env))):=by rfl) :
  PE X (.Call (.Attribute o m apos) (e::es) [] pos) (WA C m sp dvs E ta t):=by
 intro b s σ H Q I h;refine W.methodCall_KW (pl:=pl) (thn (O b s σ H _ I h) λu V G=>?_) R;refine AS G λx z j U i=>Go i λa dx fs D B l q=>?_;subst D;obtain rfl:u=Value.ref a:=U;refine Wg j B c v l (A9a (first:=[.ref a]) (h₀:=X.n8) I.ok.mod.kin v.kp (thn (L pos b V σ z _ j q) λus s2 ⟨vs,Y,n,r,T⟩=>⟨n.kIn,?_⟩) g d);exact aB8 (us:=.ref a::us) (vs:=.ref a::vs) F P M N S n (.cons Z r) T
structure Mk(K:O_)(C f:R_):Prop where
makes:makesIn K C=o4
init:findIn K (.ref C) "__init__" = n_ (n_ (.ref f))
fn:isFn K (.ref f)=o4
kp:keepIn K (.ref C)=o4
theorem Uf(M:Mk X.K C f)(F:AM X.prog X.w X.K X.mg X.n8 CX k f fd ps sp)(D:Dt (k+1) X.A)(y:CY X.K fd ps ds)(z:AU dvs ds)
  (G:GV CX X E) (I:Inv X b σ H s) (r:AU vs us)
  (h:∀x dx,H x=o0->H dx=o0->dx≠x->sp (.ref x::(vs++dvs)) (upd (upd H dx (.own x)) x (.ins C dx [])) (λv j=>v=.non/\Q (.ref x) j) E) :
  wpAny (model X.prog X.w) X.A (call (.ref C) us) (EP X b σ Q) X.xe s:=by
 have d:=h (s.heap.objs.size+1) s.heap.objs.size (I.hok.fresh (T5 _)) (I.hok.fresh (B8 _)) (L8 (V3 _));have c:=Inv.made (C:=C) I;have g:AU (V.ref (s.heap.objs.size+1)::(vs++dvs)) (Value.ref (s.heap.objs.size+1)::(us++ds)):=.cons Z (r.append z);have B:(Value.ref (s.heap.objs.size+1)::us++ds).length=ps.length:=by
  have e:=g.length;rw[F.len _ _ _ _ d]at e;exact e.symm
 refine wpAny_call (aBZ (f:=f) I.kIn M.makes M.init (beq_iff_eq.mp M.fn) (A8d (F.run _ X.stack _ _ ⟨Value.ref (s.heap.objs.size+1)::us,[]⟩ (Value.ref (s.heap.objs.size+1)::(us++ds)) _ _ E (D.make C us [])
  (c.env0.make C us []) (y _ (Value.ref (s.heap.objs.size+1)::us) c.kIn B) g d) λr O a=>?_))
 cases r with
 |error e=>exact G b σ _ _ e O c a
 |ok q =>
  cases q with
  |ret u =>
   refine Ep (c.after a) λv i l N n L=>?_;subst n;exact⟨N,⟨V.ref (s.heap.objs.size+1),i,l,Z,L⟩⟩
  |next=>exact False.elim a
  |brk=>exact False.elim a
  |cont=>exact False.elim a
theorem aC0(M:Mk X.K C f)(F:AM X.prog X.w X.K X.mg X.n8 CX k f fd ps sp)(v:Dt (k+1) X.A)(n:Gl X x)(u:X.mg x=n_ (.ref C))(i:CY X.K fd ps ds)(j:AU dvs ds)(y:GV CX X E)
  (g:PA X (e::es) t) (b:(x==("__debug__" : Str))=o5:=by decide) (l:starEach (e::es) X.env=(o5,eval e X.env)::starEach es X.env:=by rfl) (c:(backTo pos (starEach es X.env)).any (·.1)=o5:=by rfl) :
  PE X (.Call (.Name x p) (e::es) [] pos) (WB C sp dvs E t):=by
 intro a s σ H Q I h;refine A5a (Pr I n u ?_ b);refine A9a (h₀:=X.n8) I.ok.mod.kin M.kp (thn (g pos a s σ H _ I h) λus B ⟨vs,z,d,r,q⟩=>⟨d.kIn,?_⟩) l c;exact Uf M F v i j y d r q
theorem aB3(M:Mk X.K C f)(F:AM X.prog X.w X.K X.mg X.n8 CX k f fd ps sp)(j:Dt (k+1) X.A)(g:Gl X x)(i:X.mg x=n_ (.ref C))(c:CY X.K fd ps ds)(d:AU dvs ds)(l:GV CX X E)
  (a:(x==("__debug__" : Str))=o5:=by decide):PE X (.Call (.Name x p) [] [] pos) (WB C sp dvs E PF):=by
 intro b s σ H Q I h;refine A5a (Pr I g i ?_ a);exact W.callWith_K0 I.kIn M.kp (Uf (us:=[]) M F j c d l I .nil h)
end
def PK(X:Cx)(kws:List Keyword)(t:TA):Prop :=
 ∀(pos:Pos)(n9:A_)(s:P_)(σ:St)(H:Hp)(Q:List V->Hp->Prop),Inv X n9 σ H s->t σ H Q->wpAny (model X.prog X.w) X.A (evalAll ((backToKw pos (keywordEach kws X.env)).map (·.2))) (AP X n9 σ Q) X.xe s
section
variable{X:Cx}{CX:CXT}{k:Nat}{f C:R_}{fd:E_}{ps ks:K_}{sp:Sp}{E:XK}{x m:Str}{p pos apos kpos:Pos}{e o:Expr}{es:List Expr}{kws:List Keyword}{te ta:TE}{t tk:TA}{nm:Option Str}
theorem aFW:PK X [] PF:=λ_ _ _ _ H Q I h=>wpAny_evalAll_nil ⟨[],H,I,.nil,h⟩
theorem aC2(j:PE X e te)(l:PK X kws t):PK X (⟨nm,e,kpos⟩::kws) (CI te t):=by
 intro pos a s σ H Q I h;show wpAny _ _ (evalAll ((do let v <-eval e X.env;standAt pos;pure v)::(backToKw pos (keywordEach kws X.env)).map (·.2))) _ _ s;refine wpAny_evalAll_cons (A0c (thn (j a s σ H _ I h) λu y ⟨x,b,d,r,n⟩=>A0c (B0a (A0h ?_))));exact thn (l pos a y σ b _ d n) λus z i=>AS i λxs c g w q=>⟨x::xs,c,g,.cons r w,q⟩
variable{g:List Value->List Value->List Value}{gV:List V->List V->List V}
end
structure Aw(N P:K_)(sc:Scope):Prop where
kind:sc.kind=.function
co:sc.isCoroutine=o5
gen:sc.isGenerator=o5
nd:N.Nodup
pre:N.take P.length=P
par:∀x∈P,sc.names.lookup x=n_ .local\/sc.names.lookup x=n_ .cell
nofree:∀y∈sc.names,y.2≠.free
theorem RV{a:Str->Option NameKind}{x:Str}:∀{binds:List (Str×Value)}{m:C_},(∀v,(x,v)∉binds)->bindL a binds m x=m x
|[],_,_=>rfl
| (n,v)::r,m,h=>by
 unfold bindL;rw[RV λw b=>h w (C9 _ b)];split
 .have:x≠n:=by rintro rfl;exact h v C8
  simp[this]
 .rfl
theorem RX{a:Str->Option NameKind}{x:Str}:∀{binds:List (Str×Value)}{m:C_},(∀v,(x,v)∉binds)->bindC a binds m x=m x
|[],_,_=>rfl
| (n,v)::r,m,h=>by
 unfold bindC;rw[RX λw b=>h w (C9 _ b)];split
 .rfl
 .have:x≠n:=by rintro rfl;exact h v C8
  simp[this]
theorem RW{a:Str->Option NameKind}{x:Str}{v:S_}:∀{P:K_}{vs:F_}{i:Nat}{m:C_},P.Nodup->P[i]?=n_ x->vs[i]?=n_ v->a x=n_ .local ->
 bindL a (P.zip vs) m x=n_ v
|[],_,_,_,_,h,_,_=>by simp at h
|_::_,[],_,_,_,_,h,_=>by simp at h
|p::P,w::vs,0,m,nd,h1,h2,hk=>by
 simp at h1 h2;subst h1;subst h2;show bindL a ((p,w)::P.zip vs) m p=_;unfold bindL;rw[RV λv b=>(N4.mp nd).1 (List.of_mem_zip b).1,A0g hk];simp
|p::P,w::vs,i+1,m,nd,h1,h2,hk=>by
 show bindL a ((p,w)::P.zip vs) m x=_;unfold bindL;exact RW (i:=i) (N4.mp nd).2 (by simpa using h1) (by simpa using h2) hk
theorem RY{a:Str->Option NameKind}{x:Str}{v:S_}:∀{P:K_}{vs:F_}{i:Nat}{m:C_},P.Nodup->P[i]?=n_ x->vs[i]?=n_ v->a x≠n_ .local ->
 bindC a (P.zip vs) m x=n_ v
|[],_,_,_,_,h,_,_=>by simp at h
|_::_,[],_,_,_,_,h,_=>by simp at h
|p::P,w::vs,0,m,nd,h1,h2,hk=>by
 simp at h1 h2;subst h1;subst h2;show bindC a ((p,w)::P.zip vs) m p=_;unfold bindC;rw[RX λv b=>(N4.mp nd).1 (List.of_mem_zip b).1,A0d hk];simp
|p::P,w::vs,i+1,m,nd,h1,h2,hk=>by
 show bindC a ((p,w)::P.zip vs) m x=_;unfold bindC;exact RY (i:=i) (N4.mp nd).2 (by simpa using h1) (by simpa using h2) hk
def OI(N:K_)(vs:List V):St:=vs.map n_++List.replicate (N.length-vs.length) o0
def Zs(CX:CXT)(P:N_)(w:Q_)(K:O_)(mg:C_)(n8:T_)(N:K_)(qual:Str)(scope:Scope)(f:R_)(cd:S_)(A:Around)(outer:List Env)(s:P_)(H:Hp)(E:XK):Cx where
 prog:=P
 w:=w
 K:=K
 mg:=mg
 n8:=n8
 A:=A.deeper (envOfC qual scope s.heap.objs.size f cd)
 N:=N
 s₀:=s
 H₀:=H
 env:=envOfC qual scope s.heap.objs.size f cd
 outer:=outer
 stack:=envOfC qual scope s.heap.objs.size f cd::outer
 ex:=[]
 calm:=o4
 fn:=λ_=>o4
 pn:=[]
 xe:=λe s'=>wpAny (model P w) (A.deeper (envOfC qual scope s.heap.objs.size f cd)) (leaving (envOfC qual scope s.heap.objs.size f cd) e) (λ_ s''=>CX outer H s E e s'') (λe' s''=>CX outer H s E e' s'') s'
theorem Vb{a:Scope}{n:Nat}{x:Str}(h:a.names.lookup x=n_ .cell):∃c,(cellsFrom n a.names []).lookup x=n_ c:=by
 have q:=W.cellsFrom_some a.names n [] (.inl h);exact Option.isSome_iff_exists.mp q
theorem Zj{CX:CXT}{P:N_}{w:Q_}{K:O_}{mg:C_}{m:T_}{N ps:K_}{j:Str}{d:Scope}{f:R_}{F:S_}{A:Around}{g:List Env}{s Q:P_}{H:Hp}{E:XK}{us:F_}{vs:List V}
  (S:Aw N ps d) (T:A.handled=o0) (o:Pc P w K mg m A g s H) (hl:vs.length=ps.length) (r:AU vs us)
  (x:InCallC s s.heap.objs.size (bindL (envOfC j d s.heap.objs.size f F).kindOf (ps.zip us) λ_=>o0) (cellsFrom (s.heap.objs.size+1) d.names []) (bindC (envOfC j d s.heap.objs.size f F).kindOf (ps.zip us) λ_=>o0) Q) :
  Inv (Zs CX P w K mg m N j d f F A g s H E) [] (OI N vs) H Q:=by
 have U:ps.length<=N.length:=by have:=A2c List.length S.pre;rw[L7]at this;lia
 refine Cw x.done λG tk L M=>?_;subst L;have B:∀b:Addr,b∉(Zs CX P w K mg m N j d f F A g s H E).ex:=λb z=>absurd (show b∈([]:H_)from z) B0;refine⟨⟨o.mod,S.kind,Z,Z,B8 _,λy z c G l=>?_,λy t=>?_,λy c _ h=>?_,λ_=>T,Around.frames_deeper o.frames,.inr ⟨Z,Z⟩,λb z=>absurd z (B b),o.bs,o.bsz,λb _ _=>B b,λb z=>absurd z (B b),o.funs,o.frf⟩,
  rfl,o.bare,Un.kept M,⟨_,x.toInCall.ns,λi y v G l Y=>?_⟩,λy c h=>⟨_,x.cell y c h⟩,o.hok.fresh (B8 _),λy c h=>?_,λp C=>absurd (show p∈([]:A_)from C) B0,o.hok.kept M,?_⟩
 .exact name_of_addr x.apart (A3g G) (A3g l)
 .have t:=t;rcases t with t|t
  .exact Vb t
  .exact absurd Z (S.nofree _ (A3g t))
 .exact Q7 (x.above y c (A3g h))
 .have I:i<vs.length:=by
   unfold OI at l;by_cases I:i<vs.length
   .exact I
   .rw[L9 (by simpa using I)]at l;rw[Z1]at l;split at l<;>cases l
  have R:vs[i]?=n_ v:=by
   unfold OI at l;rw[N5 (by simpa using I),C0]at l;cases e:vs[i]? with
   |none=>rw[e]at l;cases l
   |some a=>rw[e]at l;cases l;rfl
  refine xea (r.get R) λu O X=>?_;have C:ps[i]?=n_ y:=by
   rw[<-S.pre,Y8 A3];exact G
  have D:ps.Nodup:=by rw[<-S.pre];exact S.nd.sublist (List.take_sublist _ _)
  refine⟨u,X,?_⟩;rcases S.par y (D8 C)with k|k
  .exact .inl ⟨k,RW D C O k⟩
  .obtain⟨c,e⟩:=Vb (n:=s.heap.objs.size+1) k;refine .inr ⟨.inl k,c,e,?_⟩;have q:=x.cell y c e;rw[RY D C O (by show d.names.lookup y≠_;rw[k];decide)]at q;exact q
 .exact o.hok.fresh (Q7 (x.above y c (A3g h)))
 .unfold OI;show _=N.length;rw[C6,B7,S3];lia
theorem aGl{CX:CXT}{P:N_}{w:Q_}{K:O_}{mg:C_}{g:T_}{k:Nat}{f:R_}{name d:Str}{i:Arguments}{j:List Stmt}{a:Scope}{dV kV B pm h Y oc:S_}{U od:Option Addr}
  {M:Array (Option Value)} {N ps:K_} {sp:Sp} (lk:K.lookup f=n_ ⟨oc,od,.func (W.fnOf name d i j a dV kV B pm U h Y),M⟩) (F:W.codeIn K h d=o4) (S:Aw N ps a)
  (len:∀vs H Q E,sp vs H Q E->vs.length=ps.length)
  (m:∀(A:Around)(c:List Env)(s:P_)(H:Hp)(vs:List V)(Q:VK)(E:XK),Dt k (A.deeper (envOfC d a s.heap.objs.size f h))->sp vs H Q E ->
   ∃t,PSs (Zs CX P w K mg g N d a f h A c s H E) j t/\t {nx:=λ_ l=>Q .non l,rt:=Q} (OI N vs) H) :
  AM P w K mg g CX (k+1) f (W.fnOf name d i j a dV kV B pm U h Y) ps sp:=by
 refine⟨len,λA c s H X us vs Q E G C hb r D=>?_⟩;have hl:=len _ _ _ _ D;have T:=C.mod.kin.keeps λb o e=>(C.bs b o e).1;have L:=C.mod.nolimit.keeps λb o e=>(C.bs b o e).1;have p:∀y∈ps.zip us,a.names.lookup y.1=n_ .local\/(a.names.lookup y.1=n_ .cell/\((cellsFrom (s.heap.objs.size+1) a.names []).lookup y.1).isSome=o4):=λ⟨n,v⟩ hy=>by
  rcases S.par n (List.of_mem_zip hy).1 with q|q
  .exact .inl q
  .exact .inr ⟨q,W.cellsFrom_some _ _ _ (.inl q)⟩
 refine codeAny_call_function G.depth (T _ _ lk) Z S.co S.gen Z (W.codeRec_of T F) (hb _ _ _ _ ?_);refine wpAny_newFunctionEnv_cells S.kind p λaa he s1 x=>?_;subst he;refine⟨L.keeps x.toInCall.keep,codeAny_func ?_⟩;refine xea (m A c s H vs Q E (G.deeper _) D) λt ht hq=>?_;have I:Inv (Zs CX P w K mg g N d a f h A c s H E) [] (OI N vs) H s1:=Zj S G.hd C hl r x;refine A3d (ht [] s1 (OI N vs) H _ I hq) (λfl R z=>?_) λe R z=>z;have fin:∀{σ':St}{l:Hp}{v:V}{u:S_},Inv (Zs CX P w K mg g N d a f h A c s H E) [] σ' l R->Bh v u->Q v l->CE c P w H s Q u R :=
  λ{σ' l v u} J O q=>⟨v,l,J.os,J.bare,J.n8,J.hok,O,q⟩
 cases fl with
 |ret u =>
  exact Dw z λv σ' l J O q=>fin J O q
 |next =>
  exact Cw z fun σ' l J q=>fin (v:=V.non) (u:=Value.none) J Z q
 |brk =>
  exact Cw z λ_ _ _ q=>False.elim q
 |cont =>
  exact Cw z λ_ _ _ q=>False.elim q
section
variable{X:Cx}{x:Str}{p pos:Pos}{e:Expr}{es:List Expr}{t:TA}{id T:String}{r:List V->Hp->VK->Prop}
def tCB(r:List V->Hp->VK->Prop)(t:TA):TE:=fun σ H Q=>t σ H λvs H1=>r vs H1 Q
theorem AN(i:GX X (.builtin id) r)(k:Gl X x)(l:X.mg x=o0)(n:bootBuiltins x=n_ (.builtin id))(g:PA X (e::es) t)(m:x≠"__name__" := by decide)(b:(x==("__debug__" : Str))=o5:=by decide)
  (j:starEach (e::es) X.env=(o5,eval e X.env)::starEach es X.env:=by rfl) (c:(backTo pos (starEach es X.env)).any (·.1)=o5:=by rfl):PE X (.Call (.Name x p) (e::es) [] pos) (tCB r t):=by
 intro a s σ H Q I h;refine A5a (LQ I k l n ?_ m b);exact PyProof.Rows.callWith_builtin1 (thn (g pos a s σ H _ I h) λus u ⟨vs,d,f,q,o⟩=>i a u σ d vs us Q f q o) j c
theorem BK(i:GX X (.type T) r)(k:Gl X x)(l:X.mg x=o0)(n:bootBuiltins x=n_ (.type T))(g:PA X (e::es) t)(m:x≠"__name__" := by decide)(b:(x==("__debug__" : Str))=o5:=by decide)
  (j:starEach (e::es) X.env=(o5,eval e X.env)::starEach es X.env:=by rfl) (c:(backTo pos (starEach es X.env)).any (·.1)=o5:=by rfl):PE X (.Call (.Name x p) (e::es) [] pos) (tCB r t):=by
 intro a s σ H Q I h;refine A5a (LQ I k l n ?_ m b);exact A3h (thn (g pos a s σ H _ I h) λus u ⟨vs,d,f,q,o⟩=>i a u σ d vs us Q f q o) j c
end
end L2
namespace HT
open PySem PyProof.Rows
section
variable{prog:N_}{w:Q_}{A:Around}{E:B_}{s:P_}
def sIx(n d:Nat):Option Int->Nat
|none=>d
|some v=>if v<0 then(v+(n:Int)).toNat else min v.toNat n
end
end HT
namespace L2
open PySem PySem.Spec PyProof.Rows
abbrev TO:=St->Hp->(Option Int->Hp->Prop)->Prop
def PO(X:Cx)(e:Option Expr)(t:TO):Prop :=
 ∀(n9:A_)(s:P_)(σ:St)(H:Hp)(Q:Option Int->Hp->Prop),Inv X n9 σ H s->t σ H Q ->
  wpAny (model X.prog X.w) X.A (evalPart e X.env) (λu s'=>∃o H',Inv X n9 σ H' s'/\IsPart u o/\Q o H') X.xe s
def aDI:TO:=λ_ H Q=>Q o0 H
def aHy(t:TE):TO:=fun σ H Q=>t σ H λx H1=>∃i,x=.int i/\Q (n_ i) H1
section
variable{X:Cx}{e:Expr}{te:TE}{lo hi:Option Expr}{tl th:TO}{pos p2:Pos}
theorem WW:PO X o0 aDI:=by
 intro a s σ H Q I h;rw[evalPart_none];exact A0h ⟨o0,H,I,.none,h⟩
theorem Pm(h:PE X e te):PO X (n_ e) (aHy te):=by
 intro a s σ H Q I j;rw[evalPart_some];refine thn (h a s σ H _ I j) λu l g=>AS g λx d f k c=>xea c λi b q=>?_;clear c;subst b;obtain⟨t,rfl⟩:=k;exact⟨n_ i,d,f,.int i t,q⟩
def SlR(X:Cx)(r:V->Option Int->Option Int->Hp->VK->Prop):Prop :=
 ∀(n9:A_)(s:P_)(σ:St)(H:Hp)(x:V)(v vl vu:S_)(lo hi:Option Int)(sl:R_)(Q:VK),Inv X n9 σ H s->Bh x v->s.heap.IsSliceOf sl vl vu .none->IsPart vl lo->IsPart vu hi->r x lo hi H Q ->
  ∃T id,typeLookup (.type T) "__getitem__" = pure (n_ (.builtin id))/\s.TypeIs v T/\wpAny (model X.prog X.w) X.A (getItem v (.ref sl)) (EP X n9 σ Q) X.xe s
def tSl(r:V->Option Int->Option Int->Hp->VK->Prop)(te:TE)(tl th:TO):TE:=fun σ H Q=>te σ H λx H1=>tl σ H1 λl H2=>th σ H2 λu H3=>r x l u H3 Q
theorem Qh{r:V->Option Int->Option Int->Hp->VK->Prop}(C:SlR X r)(y:PE X e te)(B:PO X lo tl)(E:PO X hi th):PE X (.Subscript e (.Slice lo hi o0 p2) pos) (tSl r te tl th):=by
 intro a s σ H Q I h;refine Subscript_ (thn (y a s σ H _ I h) λv N t=>?_);refine AS t λx i k M G=>wpAny_Slice (thn (B a N σ i _ k G) λd O ⟨l,j,m,pl,K⟩=>thn (E a O σ j _ m K) λf c ⟨u,g,n,F,L⟩=>?_);rw[evalPart_none];refine A0h ?_;have o:Inv X a σ g {c with heap:=c.heap.push {cls:=.type "slice",data:=.fields #[d,f,.none]} }:=n.kept (t':=c.toks) λb P q=>C3 _ q;refine AS (C a {c with heap:=c.heap.push {cls:=.type "slice",data:=.fields #[d,f,.none]} } σ g x v d f l u c.heap.objs.size Q o M (Heap.IsSliceOf.new ..) pl F L) λT id p D z=>?_;show wpAny (model X.prog X.w) X.A (subscriptTail e (.Slice lo hi o0 p2) v (.ref c.heap.objs.size)) (EP X a σ Q) X.xe {c with heap:=c.heap.push {cls:=.type "slice",data:=.fields #[d,f,.none]} };exact tail_any (ops:=[.ref c.heap.objs.size,v]) D p z (by with_unfolding_all rfl)
def Tl(xs:List V)(lo hi:Option Int):List V:=(xs.drop (HT.sIx xs.length 0 lo)).take (HT.sIx xs.length xs.length hi-HT.sIx xs.length 0 lo)
theorem UW(xs:List V)(lo hi:Option Int):(Tl xs lo hi).length<=xs.length:=by
 unfold Tl;rw[L7,List.length_drop];lia
end
def ixN(n:Nat)(i:Int):Option Nat:=if 0<=i then(if i<n then n_ i.toNat else o0)else if -(n:Int)<=i then n_ (i+n).toNat else o0
def atI{α:Type}(xs:List α)(i:Int):Option α:=(ixN xs.length i).bind λj=>xs[j]?
theorem Yl{j:Nat}(h:ixN n i=n_ j):seqIndex? i n=n_ j/\j<n/\-(n:Int)<=i/\i<n:=by
 unfold ixN at h;by_cases b:0<=i
 .rw[A0g b]at h;by_cases a:i<n
  .rw[A0g a]at h;have e:=A1f h;exact⟨by rw[seqIndex_of b a,e],by lia,by lia,a⟩
  .rw[A0d a]at h;cases h
 .rw[A0d b]at h;by_cases a:-(n:Int)<=i
  .rw[A0g a]at h;have e:=A1f h;exact⟨by rw[seqIndex_neg (V6 b) a,e],by lia,a,by lia⟩
  .rw[A0d a]at h;cases h
theorem Tr{α:Type}{xs:List α}{i:Int}{v:α}(h:atI xs i=n_ v):∃j,seqIndex? i xs.length=n_ j/\xs[j]?=n_ v/\j<xs.length/\-(xs.length:Int)<=i/\i<xs.length:=by
 unfold atI at h;cases e:ixN xs.length i with
 |none=>rw[e]at h;cases h
 |some j =>
  rw[e]at h;exact xa3 (Yl e) λa b c d=>⟨j,a,h,b,c,d⟩
theorem Ai{α:Type}{xs:List α}{j:Nat}{v:α}(h:xs[j]?=n_ v):atI xs (j:Int)=n_ v:=by
 have a:=(B9.mp h).1;have e:ixN xs.length (j:Int)=n_ j:=by
  unfold ixN;rw[A0g (O4 _),A0g A3];simp
 unfold atI;rw[e];exact h
def aCE(b:Expr):Prop:=∀o i,subscripted b o5 o i=operate [o,i] (getItem o i)
def IxR(X:Cx)(r:R2):Prop :=
 ∀(value slice:Expr)(n9:A_)(s:P_)(σ:St)(H:Hp)(x y:V)(v u:S_)(Q:VK),Inv X n9 σ H s->Bh x v->Bh y u->r x y H Q ->
  subscripted slice o5 v u=operate [v,u] (getItem v u)->wpAny (model X.prog X.w) X.A (subscriptTail value slice v u) (EP X n9 σ Q) X.xe s
def MtR(X:Cx)(id:String)(r:V->List V->Hp->VK->Prop):Prop :=
 ∀(n9:A_)(s:P_)(σ:St)(H:Hp)(x:V)(xs:List V)(v:S_)(us:F_)(Q:VK),Inv X n9 σ H s->Bh x v->AU xs us->r x xs H Q ->
  wpAny (model X.prog X.w) X.A (call (.builtin id) (v::us)) (EP X n9 σ Q) X.xe s
section
variable{X:Cx}{a b:Expr}{ta tb:TE}{pos:Pos}
theorem Aj(i:IxR X r)(f:PE X a ta)(g:PE X b tb)(j:aCE b):PE X (.Subscript a b pos) (tOp r ta tb):=by
 intro c s σ H Q I h;exact Subscript_ (aEQ f g I h λv u m x y d e k l q=>i a b c m σ d x y v u Q e k l q (j _ _))
def aFa(K:O_):R2:=λx y H Q=>∃p xs i v,x=.ref p/\y=.int i/\SqL K H p xs/\atI xs i=n_ v/\Q v H
def Lo(K:O_):R2:=λx y H Q=>∃p xs i v,x=.ref p/\y=.int i/\SqT K H p xs/\atI xs i=n_ v/\Q v H
def rIxS:R2:=λx y H Q=>∃z i c,x=.str z/\y=.int i/\z.length<=sizeLine/\atI z.cps.toList i=n_ c/\Q (.str ⟨#[c]⟩) H
theorem Az:IxR X (aFa X.K):=by
 intro o n c s σ H x y v u Q I N O h C;refine CM h λp xs i z f g M G q=>?_;clear h;subst f;subst g;cases N;obtain⟨t,rfl⟩:=O;refine AX (I.list M) λl r pl T=>Ec (Tr G) λj e D R A=>xa A λE F=>xea (r.get D) λw B m=>?_;have L:=r.length;have S:=Oz;have fin:EP X c σ Q w s:=⟨z,H,I,m,q⟩
 by_cases d:0<=i
 .have k:i.toNat=j:=by
   rw[seqIndex_of d F]at e;exact A1f e
  exact item_listR pl.isList d A3 (by rw[k];simpa using B) fin C
 .have k:(i+(l.toArray.size:Int)).toNat=j:=by
   rw[seqIndex_neg (V6 d) E]at e;rw[F4,<-L];exact A1f e
  exact subscriptTail_builtinR (x:=w) pl.isList.typeIs slot_list_getitem.lookup
   (wpAny_getItem_list_neg (Q:=λr P=>r=w/\EP X c σ Q r P) pl.isList (V6 d) (by rw[F4]<;>lia) A3 (by rw[k];simpa using B) ⟨Z,fin⟩) C
theorem Al:IxR X (Lo X.K):=by
 intro k g c s σ H x y v u Q I F G h D;refine CM h λp xs i z d e C A q=>?_;clear h;subst d;subst e;cases F;obtain⟨t,rfl⟩:=G;refine AX (I.tuple C) λE r pl R=>Ec (Tr A) λj n o M l=>xa l λN O=>xea (r.get o) λw m f=>?_;have B:=r.length;have P:=Oz;have fin:EP X c σ Q w s:=⟨z,H,I,f,q⟩
 exact subscriptTail_builtinR (x:=w) pl.typeIs slot_tuple_getitem.lookup
  (getItem_tuple (j:=j) (Q:=λr L=>r=w/\EP X c σ Q r L) pl A3 A3 (by rw[F4,<-B];exact n) (by simpa using m) ⟨Z,fin⟩) D
theorem aBH:IxR X rIxS:=by
 intro g f m s σ H x y v u Q I D E h C;refine CV h λz i c d e K A q=>?_;clear h;subst d;subst e;obtain⟨t,rfl⟩:=D;obtain⟨t',rfl⟩:=E;refine Ec (Tr A) λj l p F k=>xa k λr w=>?_;have B:z.cps.toList.length=z.length:=by simp[Str.length]
 rw[B]at l r w;have G:=Oz;exact tail_any (A8e s z t) slot_str_getitem.lookup (getItem_str (c:=c) (by
  have n:decide (i < -(2^63:Int))=o5:=A0f A3;have o:decide (i ≥ 2^63)=o5:=A0f A3;rw[n,o,Bool.or_false]) (by rw[l];simpa using p) ⟨.str ⟨#[c]⟩,H,I.tok _,⟨_,Z⟩,q⟩) C
theorem VZ(c:F_)(n j:Nat)(u:S_):Obj.mapSeq (·.setIfInBounds j u) {cls:=.type "list",data:=.seq c.toArray n}={cls:=.type "list",data:=.seq (c.set j u).toArray n}:=by
 simp[Obj.mapSeq]
theorem Inv.lst{d:A_}{σ:St}{H:Hp}{s:P_}{p:R_}{xs:List V}(I:Inv X d σ H s)(h:H p=n_ (.lst xs)) :
  ∃(c:F_)(n:Nat),AU xs c/\s.heap.get? p=n_ {cls:=.type "list",data:=.seq c.toArray n}/\xs.length<=sizeLine:=by
 exact Rl (I.hok p _ h) λz c n r e=>⟨c,n,r,e,z⟩
theorem Inv.lstUpd{c:A_}{σ:St}{H:Hp}{s:P_}{p:R_}{xs ys:List V}{d its':F_}{n g:Nat}{f:Obj->Obj}(I:Inv X c σ H s)(h:H p=n_ (.lst xs))
  (k:s.heap.get? p=n_ {cls:=.type "list",data:=.seq d.toArray n}) (i:f {cls:=.type "list",data:=.seq d.toArray n}={cls:=.type "list",data:=.seq its'.toArray g}) (r:AU ys its') (l:ys.length<=sizeLine) (t:Nat) :
  Inv X c σ (upd H p (.lst ys)) {s with heap:=s.heap.update p f,toks:=t}:=by
 have e:(s.heap.update p f).get? p=n_ {cls:=.type "list",data:=.seq its'.toArray g}:=by
  rw[X5 f k (by rw[i]<;>rfl),i]
 refine I.write (x:=p) (e:=p) (by rw[h];trivial) (.inl Z) (λb u j q=>(Z7 _ _ (A1a j)).trans q) ⟨_,e⟩ ?_;exact⟨l,its',g,r,e⟩
def aHR:V->V->V->Hp->(Hp->Prop)->Prop:=λo i v H Q=>∃p xs k j,o=.ref p/\i=.int k/\H p=n_ (.lst xs)/\ixN xs.length k=n_ j/\Q (upd H p (.lst (xs.set j v)))
theorem Ua:aF3 X aHR:=by
 intro d s σ H o i v N M u Q I F E G h;refine CM h λp xs k j g l B C q=>?_;clear h;subst g;subst l;cases F;obtain⟨t,rfl⟩:=E;refine AS (I.lst B) λc n r x D=>xa3 (Yl C) λf K z A=>?_;have w:=r.length;have L:=Oz;have y:Inv X d σ (upd H p (.lst (xs.set j v))) {s with heap:=s.heap.update p (Obj.mapSeq (·.setIfInBounds j u))} :=
  I.lstUpd B x (VZ c n j u) (r.set G j) (by rw[List.length_set];exact D) s.toks
 by_cases e:0<=k
 .have m:k.toNat=j:=by
   rw[seqIndex_of e A]at f;exact A1f f
  exact W.ki_setAt x e A3 (by rw[F4,<-w];exact A) (by rw[m];exact⟨_,y,q⟩)
 .have m:(k+(c.toArray.size:Int)).toNat=j:=by
   rw[seqIndex_neg (V6 e) z]at f;rw[F4,<-w];exact A1f f
  exact W.ki_setBack x (V6 e) (by rw[F4,<-w];exact z) A3 (by rw[m];exact⟨_,y,q⟩)
theorem Sr(lo c:Option Int)(n:Nat):(sliceBounds lo c o0 n).1=((HT.sIx n 0 lo:Nat):Int)/\(sliceBounds lo c o0 n).2.1=((HT.sIx n n c:Nat):Int)/\(sliceBounds lo c o0 n).2.2=1:=by
 refine⟨?_,?_,Z⟩
 .cases lo with
  |none=>simp[sliceBounds,HT.sIx]
  |some i =>
   simp only[sliceBounds,HT.sIx,Option.getD_none,show(1:Int) > 0 by decide,A7d];by_cases h:i<0
   .simp only[h,A7d]<;>lia
   .simp only[h,A5h]<;>lia
 .cases c with
  |none=>simp[sliceBounds,HT.sIx]
  |some i =>
   simp only[sliceBounds,HT.sIx,Option.getD_none,show(1:Int) > 0 by decide,A7d];by_cases h:i<0
   .simp only[h,A7d]<;>lia
   .simp only[h,A5h]<;>lia
theorem QN(c:F_)(lo d:Option Int):slicePick c.toArray lo d o0=((c.drop (HT.sIx c.length 0 lo)).take (HT.sIx c.length c.length d-HT.sIx c.length 0 lo)).toArray:=by
 refine xa2 (Sr lo d c.toArray.size) λe f g=>?_;unfold slicePick;rw[e,f,g];simp only[sliceRange_one,pick_run,F4]<;>rfl
def rSlL(K:O_):V->Option Int->Option Int->Hp->VK->Prop:=λx lo hi H Q=>∃a xs,x=.ref a/\SqL K H a xs/\∀p,H p=o0->Q (.ref p) (upd H p (.lst (Tl xs lo hi)))
theorem Ss:SlR X (rSlL X.K):=by
 intro g s σ H x v u w lo e t Q I n i pl m h;refine AS h λa xs d j q=>?_;clear h;subst d;cases n;refine AX (I.list j) λl r f k=>?_;have c:=r.length;refine⟨"list",_,slot_list_getitem.lookup,f.isList.typeIs,?_⟩;refine wpAny_getItem_list_slice f.isList i pl m .none B0 ?_ (by rw[F4]<;>lia);rw[QN,<-c];refine⟨.ref s.heap.objs.size,_,I.laid (t':=s.toks) (o:=.lst (Tl xs lo e)) (λb p q=>C3 _ q) (B8 _) ?_,Z,q _ (I.hok.fresh (B8 _))⟩;exact⟨C5 (UW xs lo e) k,_,0,(r.drop (HT.sIx xs.length 0 lo)).take (HT.sIx xs.length xs.length e-HT.sIx xs.length 0 lo),F2 _ Z⟩
def NO:V->Bool
|.non=>o4
|.bl _=>o4
|.int _=>o4
|.str _=>o4
|_=>o5
def eqV:V->V->Bool
|.non,.non=>o4
|.bl a,.bl b=>a==b
|.bl a,.int b=>(if a then 1 else 0)==b
|.int a,.bl b=>a==(if b then 1 else 0)
|.int a,.int b=>a==b
|.str a,.str b=>a==b
|_,_=>o5
theorem aEZ(d:Bh y u)(c:Bh x v)(e:NO y=o4)(fx:NO x=o4):SeqAt.EqAt A s u v (eqV y x):=by
 cases y with
 |non =>
  cases d;cases x with
  |non=>cases c;exact SeqAt.EqAt.same _
  |bl b=>cases c;exact SeqAt.EqAt.none_bool b
  |int b=>obtain⟨t,rfl⟩:=c;exact SeqAt.EqAt.none_int b t
  |str b=>obtain⟨t,rfl⟩:=c;exact SeqAt.EqAt.none_str b t
  |_=>exact absurd (show o5=o4 from fx) F1
 |bl a =>
  cases d;cases x with
  |non=>cases c;exact SeqAt.EqAt.bool_none a
  |bl b=>cases c;exact SeqAt.EqAt.bool_bool a b
  |int b=>obtain⟨t,rfl⟩:=c;exact SeqAt.EqAt.bool_int a b t
  |str b=>obtain⟨t,rfl⟩:=c;exact SeqAt.EqAt.bool_str a b t
  |_=>exact absurd (show o5=o4 from fx) F1
 |int a =>
  obtain⟨t',rfl⟩:=d;cases x with
  |non=>cases c;exact SeqAt.EqAt.int_none a t'
  |bl b=>cases c;exact SeqAt.EqAt.int_bool a t' b
  |int b=>obtain⟨t,rfl⟩:=c;exact SeqAt.EqAt.int_int a t' b t
  |str b=>obtain⟨t,rfl⟩:=c;exact SeqAt.EqAt.int_str a t' b t
  |_=>exact absurd (show o5=o4 from fx) F1
 |str a =>
  obtain⟨t',rfl⟩:=d;cases x with
  |non=>cases c;exact SeqAt.EqAt.str_none a t'
  |bl b=>cases c;exact SeqAt.EqAt.str_bool a t' b
  |int b=>obtain⟨t,rfl⟩:=c;exact SeqAt.EqAt.str_int a t' b t
  |str b=>obtain⟨t,rfl⟩:=c;exact SeqAt.EqAt.str_str a t' b t
  |_=>exact absurd (show o5=o4 from fx) F1
 |_=>exact absurd (show o5=o4 from e) F1
def eqU(x:V)(u:S_):Bool:=match u with
|.none=>eqV .non x
|.bool b=>eqV (.bl b) x
|.int i _=>eqV (.int i) x
|.str z _=>eqV (.str z) x
|_=>o5
theorem aA3(r:Bh y u)(f:NO y=o4):eqU x u=eqV y x:=by
 cases y with
 |non=>cases r;rfl
 |bl b=>cases r;rfl
 |int i=>obtain⟨t,rfl⟩:=r;rfl
 |str z=>obtain⟨t,rfl⟩:=r;rfl
 |_=>exact absurd (show o5=o4 from f) F1
theorem Tu:∀{xs:List V}{us:F_},AU xs us->xs.all NO=o4->us.any (eqU x)=xs.any λy=>eqV y x
|_,_,.nil,_=>rfl
|y::xs,u::us,.cons r t,f=>by
 rw[List.all_cons,S1]at f;rw[V7,V7,aA3 r f.1,Tu t f.2]
theorem Qz(d:Bh x v)(fx:NO x=o4):∀{xs:List V}{us:F_},AU xs us->xs.all NO=o4->∀u∈us,SeqAt.EqAt A s u v (eqU x u)
|_,_,.nil,_=>λu c=>by cases c
|y::xs,u::us,.cons r t,f=>λe c=>by
 rw[List.all_cons,S1]at f;rcases C1.mp c with rfl|c
 .rw[aA3 r f.1];exact aEZ r d f.1 fx
 .exact Qz d fx t f.2 e c
def inV(x:V)(xs:List V):Bool:=xs.any λy=>eqV y x
def rIn(K:O_)(neg:Bool):R2:=λx y H Q=>∃p xs,y=.ref p/\(SqL K H p xs\/SqT K H p xs)/\NO x=o4/\xs.all NO=o4/\Q (.bl (if neg then !inV x xs else inV x xs)) H
theorem On:OpR X (compareOp .In) (rIn X.K o5):=by
 intro g s σ H x y v u Q I i k h;refine Dx h λp xs e d fx fs q=>?_;clear h;subst e;cases k;rcases d with d|d
 .refine AX (I.list d) λc r pl j=>SeqAt.in_listAt (eqU x) pl.isList (λw f=>Qz i fx r fs w (by simpa using f)) ⟨.bl _,H,I,Z,?_⟩;rw[show c.toArray.any (eqU x)=c.any (eqU x) by simp,Tu r fs];exact q
 .refine AX (I.tuple d) λc r pl j=>SeqAt.in_tupleAt (eqU x) pl (λw f=>Qz i fx r fs w (by simpa using f)) ⟨.bl _,H,I,Z,?_⟩;rw[show c.toArray.any (eqU x)=c.any (eqU x) by simp,Tu r fs];exact q
theorem BJ:GX X (.builtin "len") (λxs H Q=>∃p ys,xs=[.ref p]/\(SqL X.K H p ys\/SqT X.K H p ys)/\Q (.int ys.length) H):=by
 intro j s σ H xs us Q I r h;refine AS h λp ys f d q=>?_;clear h;subst f;refine xea (Ro r) λu e l=>?_;subst e;cases l;have m:=Oz;rcases d with d|d
 .refine AX (I.list d) λg i pl k=>?_;have c:=i.length;exact Calls.call_len_list pl.isList (by simp only[F4]<;>lia) ⟨.int ys.length,H,I.tok _,⟨s.toks+1,by rw[F4,c]⟩,q⟩
 .refine AX (I.tuple d) λg i pl k=>?_;have c:=i.length;exact len_tuple pl (by simp only[F4]<;>lia) ⟨.int ys.length,H,I.tok _,⟨s.toks+1,by rw[F4,c]⟩,q⟩
theorem JO:GX X (.builtin "len") (λxs H Q=>∃z,xs=[.str z]/\z.length<=sizeLine/\Q (.int z.length) H):=by
 intro f s σ H xs us Q I r h;refine AX h λz c i q=>?_;clear h;subst c;refine xea (Ro r) λu c d=>xe d λt e=>?_;clear d;subst c;subst e;have g:=Oz;exact len_str A3 ⟨.int z.length,H,I.tok _,⟨_,Z⟩,q⟩
theorem Tp:GX X (.type "list") (λxs H Q=>∃p ys,xs=[.ref p]/\(SqL X.K H p ys\/SqT X.K H p ys)/\∀l,H l=o0->Q (.ref l) (upd H l (.lst ys))):=by
 intro k s σ H xs us Q I r h;refine AS h λp ys t i q=>?_;clear h;subst t;refine xea (Ro r) λu m z=>?_;subst m;cases z;have fin:∀(c:F_),AU ys c->ys.length<=sizeLine->∀(h':T_)(d:Nat),(∀b o',s.heap.get? b=n_ o'->h'.get? b=n_ o') ->
   h'.get? s.heap.objs.size=n_ {cls:=.type "list",dict:=o0,data:=.seq c.toArray d,slots:=#[]}->EP X k σ Q (.ref s.heap.objs.size) {s with heap:=h'}:=λc f j h' d kp e =>
  ⟨.ref s.heap.objs.size,_,I.laid (t':=s.toks) kp (B8 _) (show BQ X.prog X.w _ h' _ (.lst ys)from⟨j,c,d,f,e⟩),Z,q _ (I.hok.fresh (B8 _))⟩
 rcases i with i|i
 .refine AX (I.list i) λc f pl j=>?_;have g:=f.length;obtain⟨o,y,v,n,x⟩:=pl.isList;exact call_list_seq p (.inl Z) y v x (λh' d kp e=>fin c f j h' d kp e) (by simp only[F4]<;>lia)
 .obtain⟨c,f,pl,j⟩:=I.tuple i;have g:=f.length;obtain⟨o,y,v,n,x⟩:=pl;exact call_list_seq p (.inr Z) y v x (λh' d kp e=>fin c f j h' d kp e) (by simp only[F4]<;>lia)
theorem BU:GX X (.type "tuple") (λxs H Q=>∃p ys,xs=[.ref p]/\((SqL X.K H p ys/\∀l,H l=o0->Q (.ref l) (upd H l (.tup ys)))\/(SqT X.K H p ys/\Q (.ref p) H))):=by
 intro d s σ H xs us Q I r h;obtain⟨p,ys,rfl,h⟩:=h;obtain⟨u,rfl,n⟩:=Ro r;cases n;rcases h with ⟨f,q⟩|⟨f,q⟩
 .obtain⟨c,g,pl,k⟩:=I.list f;have j:=g.length;refine call_tuple_list pl.isList (λh' kp=>?_) (by simp only[F4]<;>lia);have i:=I.kept (t':=s.toks) kp;have m:Inv X d σ (upd H h'.objs.size (.tup ys)) {s with heap:=h'.push {cls:=.type "tuple",data:=.seq c.toArray} } :=
   i.laid (t':=s.toks) (λb o e=>C3 _ e) (B8 _) (show BQ X.prog X.w _ _ _ (.tup ys)from⟨k,c,g,IsTup.new _ _⟩)
  exact⟨.ref h'.objs.size,_,m,Z,q _ (i.hok.fresh (B8 _))⟩
 .obtain⟨c,g,pl,k⟩:=I.tuple f;exact call_tuple_same pl ⟨.ref p,H,I,Z,q⟩
def tyV(K:O_)(T:String)(x:V)(H:Hp):Prop:=match x with
|.str _=>T="str"
|.int _=>T="int"
|.ref p=>(T="list" /\ ∃xs,SqL K H p xs)\/(T="tuple" /\ ∃o,K.lookup p=n_ o/\o.cls=.type "tuple" /\ o.dict=o0) \/
  (T="dict" /\ ((∃kvs,H p=n_ (.dK kvs))\/∃kvs,H p=n_ (.dT kvs)))\/(T="set" /\ ∃S n,H p=n_ (.set S n))
|_=>False
theorem aFx(I:Inv X h σ H s)(r:Bh x v)(j:tyV X.K T x H) :
  s.TypeIs v T/\∀a,v=.ref a->∃m,s.heap.get? a=n_ m/\m.dict=o0:=by
 cases x with
 |str z =>
  obtain⟨t,rfl⟩:=r;cases(show T="str" from j);exact⟨A8e s z t,λ_ e=>nomatch e⟩
 |int i =>
  obtain⟨t,rfl⟩:=r;cases(show T="int" from j);exact⟨typeIs_int s i t,λ_ e=>nomatch e⟩
 |ref p =>
  cases r;rcases j with ⟨rfl,xs,u⟩|⟨rfl,o,f,q,l⟩|⟨rfl,f⟩|⟨rfl,S,n,f⟩
  .refine AX (I.list u) λw _ pl _=>⟨pl.isList.typeIs,λa e=>?_⟩
   cases e;exact Ep pl λo n e c l _=>⟨o,e,l⟩
  .refine⟨⟨o,I.kIn p o f,q⟩,λa e=>?_⟩;cases e;exact⟨o,I.kIn _ o f,l⟩
  .have z:∃o,s.heap.get? p=n_ o/\o.ExactDict:=by
    rcases f with ⟨kvs,f⟩|⟨kvs,f⟩
    .exact Dh (I.hok p _ f) λ_ _ _ _ d=>Dw d λo _ _ e g _=>⟨o,e,g⟩
    .exact Dh (I.hok p _ f) λ_ _ _ _ d=>Dw d λo _ _ e g _=>⟨o,e,g⟩
   refine xea z λo e g=>⟨⟨o,e,g.1⟩,λa k=>?_⟩
   cases k;exact⟨o,e,g.2.1⟩
  .refine xe4 (I.hok p _ f) λo _ _ _ d=>xa2 d λe g _=>⟨⟨o,e,g.1⟩,λa k=>?_⟩;cases k;exact⟨o,e,g.2.1⟩
 |_=>exact False.elim j
def tBM(K:O_)(T:String)(r:V->List V->Hp->VK->Prop)(to:TE)(t:TA):TE:=fun σ H Q=>to σ H λx H1=>tyV K T x H1/\t σ H1 λxs H2=>r x xs H2 Q
variable{o e:Expr}{es:List Expr}{to:TE}{t:TA}{name:Str}{apos cpos:Pos}{T id:String}{r:V->List V->Hp->VK->Prop}
theorem Du(E:PlainAttrs T)(j:Slot T name id)(l:typeOf (.builtin id)=pure (.type "method_descriptor"))(B:MtR X id r)(C:PE X o to)(A:PA X (e::es) t)
  (f:attributeBase o name X.env (eval o X.env)=eval o X.env:=by rfl)
  (i:((backTo cpos (starEach (e::es) X.env)).all (λx=>!x.1) && (backToKw cpos (keywordEach [] X.env)).all (λx=>x.1.isSome)
   && decide ((e::es).length+([]:List Keyword).length+(if([]:List Keyword).isEmpty then 0 else 1)<30))=o4:=by rfl)
  (g:(apos.endLine==cpos.line)=o4:=by rfl) (D:starEach (e::es) X.env=(o5,eval e X.env)::starEach es X.env:=by rfl) (d:(backTo cpos (starEach es X.env)).any (·.1)=o5:=by rfl) :
  PE X (.Call (.Attribute o name apos) (e::es) [] cpos) (tBM X.K T r to t):=by
 intro c s σ H Q I h;refine wpAny_Call_method_late f i g Z (thn (C c s σ H _ I h) λv M k=>?_);refine Ep k λx q m p O F=>?_;obtain⟨y,z⟩:=aFx m p O;refine⟨T,id,E,j,l,y,z,?_⟩;have n:=A cpos c M σ q _ m F;rw[D]at n⊢;refine A8f (by show(o5 || (backTo cpos (starEach es X.env)).any (·.1))=o5;rw[d]<;>rfl) (A9d ?_);exact thn n λus N k=>AS k λvs u w L G=>B c N σ u x vs v us Q w p L G
end
def MtM(X:Cx)(id:String)(r:V->List V->Hp->VK->Prop):Prop :=
 ∀(n9:A_)(s:P_)(σ:St)(H:Hp)(x:V)(xs:List V)(v:S_)(us:F_)(Q:VK),Inv X n9 σ H s->Bh x v->AU xs us->r x xs H Q ->
  wpAny (model X.prog X.w) X.A (call (.builtin id) (v::us)) (EP X n9 σ Q) X.xe s
theorem AU.one:∀{x:V}{us:F_},AU [x] us->∃u,us=[u]/\Bh x u
:= λh=>by
 cases h with
 |cons r t =>
  cases t;exact⟨_,Z,r⟩
theorem AU.two:∀{x y:V}{us:F_},AU [x,y] us->∃u v,us=[u,v]/\Bh x u/\Bh y v
:= λh=>by
 cases h with
 |cons r t =>
  refine xea (AU.one t) λ_ a q=>?_;subst a;exact⟨_,_,Z,r,q⟩
theorem AU.rep(h:AU xs us):∀k:Nat,AU (List.replicate k xs).flatten (List.replicate k us).flatten
|0=>.nil
|k+1=>by
 rw[U8,U8,U0,U0];exact AU.append h (AU.rep h k)
theorem RK(b:F_):∀(k:Nat)(a:F_),
 List.foldl (λd f=>d++f) a.toArray (List.replicate k b.toArray)=(a++(List.replicate k b).flatten).toArray
|0,a=>by simp
|k+1,a=>by
 have e:a.toArray++b.toArray=(a++b).toArray:=by simp
 have c:(a++b)++(List.replicate k b).flatten=a++(List.replicate (k+1) b).flatten:=by
  rw[U8,U0,U1]
 rw[<-c,<-RK b k (a++b),<-e,U8,W1]
section
variable{X:Cx}{n9:A_}{σ:St}{H:Hp}{s:P_}{l b:R_}{xs ys zs:List V}
theorem Inv.lset{a its':F_}{n:Nat}{f:Array Value->Array Value}{t':Nat}(I:Inv X n9 σ H s)(c:H l=n_ (.lst xs))
  (e:s.heap.get? l=n_ {cls:=.type "list",data:=.seq a.toArray n}) (g:f a.toArray=its'.toArray) (i:AU ys its') (j:ys.length<=sizeLine) :
  Inv X n9 σ (upd H l (.lst ys)) {s with heap:=s.heap.update l (Obj.mapSeq f),toks:=t'}:=by
 have q:=PySem.IsL.update e f;rw[g]at q;refine I.write (x:=l) (e:=l) (by rw[c];exact trivial) (.inl Z) (λk u d h=>(Z7 s.heap (Obj.mapSeq f) (A1a d)).trans h) ⟨_,q⟩ ?_;exact⟨j,its',_,i,q⟩
theorem Inv.lnew(I:Inv X n9 σ H s)(c:AU ys a)(d:ys.length<=sizeLine) :
  Inv X n9 σ (upd H s.heap.objs.size (.lst ys)) {s with heap:=s.heap.push {cls:=.type "list",data:=.seq a.toArray},toks:=t'} :=
 I.laid (λ_ _ q=>C3 _ q) (B8 _) ⟨d,a,0,c,F2 _ Z⟩
theorem Inv.fresh(I:Inv X n9 σ H s):H s.heap.objs.size=o0:=I.hok.fresh (B8 _)
theorem Inv.lstM(I:Inv X n9 σ H s)(c:H l=n_ (.lst xs)):xs.length<=sizeLine/\∃(a:F_)(n:Nat),AU xs a/\xs.length=a.length/\s.heap.get? l=n_ {cls:=.type "list",data:=.seq a.toArray n}:=by
 exact Rl (I.hok l _ c) λz a n r e=>⟨z,a,n,r,r.length,e⟩
theorem aBj(h:n<=sizeLine):Builtin.List.listTooLong n=o5:=by
 unfold Builtin.List.listTooLong;exact A0f (Nat.not_lt_of_le h)
end
section
variable{X:Cx}
def WV:V->List V->Hp->VK->Prop:=λx vs H Q=>∃l xs y,x=.ref l/\vs=[y]/\H l=n_ (.lst xs)/\xs.length<sizeLine/\Q .non (upd H l (.lst (xs++[y])))
theorem BL:MtM X "list.append" WV:=by
 intro g s σ H x vs v us Q I m k h;refine CV h λl xs y c d f i q=>?_;clear h;subst c;subst d;cases m;refine xea k.one λu b j=>?_;subst b;refine PB (I.lstM f) λz a n r o e=>A6g F.slot_list_append ⟨_,e,Z⟩ F.entry_list_append (F.args_list_append_2 _ _) (PySem.list_append l a.toArray n u (by rw[F4];lia)) ⟨e,?_⟩;refine⟨.non,_,I.lset (its':=a++[u]) f e B0 (r.append (.cons j .nil)) ?_,Z,q⟩;rw[C6,T8];exact Y5 i
def rCat:R2:=λx y H Q=>∃l b xs zs,x=.ref l/\y=.ref b/\H l=n_ (.lst xs)/\H b=n_ (.lst zs)/\xs.length+zs.length<=sizeLine/\∀p,H p=o0->Q (.ref p) (upd H p (.lst (xs++zs)))
theorem Oo:OpR X (binaryOp .Add) rCat:=by
 intro i s σ H x y v u Q I A B h;refine CM h λl b xs F f g o m d=>xa d λt q=>?_;clear d;clear h;subst f;subst g;cases A;cases B;refine PB (I.lstM o) λz c n r C e=>PB (I.lstM m) λE a D w p j=>PySem.P.add_list e j ?_ (by rw[F4,F4];lia);have k:c.toArray++a.toArray=(c++a).toArray:=by simp
 rw[k];exact⟨.ref _,_,I.lnew (t':=s.toks) (r.append w) (by rw[C6];exact t),Z,q _ I.fresh⟩
def rRep:R2:=λx y H Q=>∃l k xs,x=.ref l/\y=.int k/\H l=n_ (.lst xs)/\-(2^63)<=k/\k<2^63/\xs.length*k.toNat<=sizeLine /\
 ∀p,H p=o0->Q (.ref p) (upd H p (.lst (List.replicate k.toNat xs).flatten))
theorem aCY{α:Type}(xs:List α)(k:Nat):(List.replicate k xs).flatten.length=k*xs.length:=by
 induction k with
 |zero=>simp
 |succ k a=>rw[U8,U0,C6,a,K6,W5]
theorem aFR:OpR X (binaryOp .Mult) rRep:=by
 intro C s σ H x y v u Q I M N h;refine CV h λl k xs o p K E j=>xa2 j λG B q=>?_;clear j;clear h;subst o;subst p;cases M;obtain⟨t,rfl⟩:=N;refine PB (I.lstM K) λz b n r L e=>?_;have g:b.toArray.size*k.toNat<=sizeLine:=by rw[F4,<-L];exact B
 have d:¬b.toArray.size*k.toNat > (2^63-1)/8:=by
  have:(sizeLine:Nat)<=(2^63-1)/8:=by decide
  lia
 have f:¬(!Builtin.List.listFitsIndex k)=o4:=by
  rw[fitsIndex_both E G];exact F1
 have c:¬Builtin.List.listTooLong (b.toArray.size*k.toNat)=o4:=by
  rw[aBj g];exact F1
 have i:List.foldl (λw A=>w++A) #[] (List.replicate (if b.toArray.isEmpty=o4 then 0 else k.toNat) b.toArray)=(List.replicate k.toNat b).flatten.toArray:=by
  have D:∀m:Nat,List.foldl (λw A=>w++A) #[] (List.replicate m b.toArray)=(List.replicate m b).flatten.toArray:=λm=>by
   have:=RK b m [];rw[List.nil_append]at this;exact this
  rw[D];cases b with
  |nil=>simp
  |cons a P=>rw[A0d B0]
 refine wpAny_binaryOp_repeat_ref (T:="list") (U:="int") A4 ⟨_,e,Z⟩ (λO=>typeIs_int O k t) noFill_list_mul F.fills_int_mul F.slot_int_rmul repeat_list F.slot_int_index.lookup
  (A6g F.slot_int_rmul (typeIs_int s k t) F.entry_int_rmul (F.args_int_rmul_2 _ _) (int___rmul___int_list k t l b.toArray n)
   ⟨e,Z,⟨_,e,Z⟩,A6g F.slot_list_mul ⟨_,e,Z⟩ F.entry_list_mul (F.args_list_mul_2 _ _) (AutoListH.list___mul___list_int_3 l b.toArray n k t f d c) ⟨e,?_⟩⟩)
 rw[i];exact⟨.ref _,_,I.lnew (t':=s.toks) (r.rep k.toNat) (by rw[aCY,U4];exact B),Z,q _ I.fresh⟩
end
end L2
namespace Att
open PySem PySem.W PySem.Calls PyProof.Rows
theorem Pa:∀(ns:I_)(vs:F_),WellAll P h vs (ns.map WData.int)->IntsAre vs ns:=by
 intro ns;induction ns with
 |nil =>
  intro vs w;rw[Z5]at w;cases w;exact .nil
 |cons n ns c =>
  intro vs w;rw[F8]at w;cases w with
  |cons a b =>
   cases a;exact .cons _ _ (c _ b)
theorem YK{l:OpenLaw}{n:Nat}(v:l.most=n_ n){P:Params}{h:T_}{args:List WData}{c:F_}
  (b:l.row.toRowW.claim.pre args=o4) (o:WellAll P h c args) :
  ∃a vs ns,c=[Value.ref a]/\args=[WData.list (ns.map WData.int)]/\h.get? a=n_ {cls:=.type "list",data:=.seq vs.toArray}/\IntsAre vs ns/\ns.length<=n:=by
 have m:=(pre_splitW b).1;have p:l.pre.holds [] {args:=args}=o4:=(pre_splitW b).2;refine AS (hasAllW_cons m) λd r k s t=>?_;subst k;obtain rfl:=hasAllW_nil t;refine xea (hasW_list s) λxs j u=>?_;subst j;obtain⟨ns,rfl⟩:=items_int u;have f:ns.length<=n:=by
  unfold OpenLaw.pre at p;have g:(WTm.not (.lt (.lit (.int (n:Int))) (.len (.arg 0)))).holds [] {args:=[.list (ns.map .int)]}=o4:=by
   have g:=(holds_andW p).1;rw[v]at g;exact g
  have i:=condW_of g (w_not (w_lt w_lit (w_len_list (w_arg Z))));rw[B7]at i;refine N9 λq=>?_;have x:(n:Int)<((ns.length:Nat):Int):=by lia
  first
   | (rw[A0e x]at i;exact absurd i A4)
   | (simp at i;lia)
 cases o with
 |cons y z =>
  cases z;cases y with
  |list w e=>exact⟨_,_,ns,Z,Z,w,Pa ns _ e,f⟩
theorem YL(l:OpenLaw)(args:List WData):l.row.toRowW.claim.post args (.bool o4) args=o4 :=
 postW_of (r:=l.row.toRowW) (X:=(o4==o4))
  (show WShape.has [] (.bool o4) .bool=o4 by first|rfl|decide|simp[WShape.has,WShape.arms,WShape.armsAll])
  (show(WTm.eq .res (.lit (.bool o4))).value [] {args:=args,res:=n_ (.bool o4),after:=args}=n_ (.bool (o4==o4))from w_eq_bool (w_res Z) w_lit) Z
theorem Ve{l:OpenLaw}{n:Nat}{q:N_}{c:K_}{D:(Str->Option Value)->Heap->Prop}{E:World->Heap->Prop}{d:DefRec}
  (U:l.most=n_ n) (y:d.params.defaults=[])
  (call:∀(w:Q_)(e b:P_)(mg B:C_)(i:R_)(o:Obj)(C p g:S_)(a:R_)(vs:F_)(ns:I_),
   Ground q c [] D w e mg B b.heap->E w b.heap ->
   b.heap.get? i=n_ o->o.data=.func (docDef d.name d.params d.body d.scope C p g)->b.heap.CodeRec p d.name->mg d.name=n_ (.ref i) ->
   b.heap.get? a=n_ {cls:=.type "list",data:=.seq vs.toArray}->IntsAre vs ns->ns.length<=n->b.gens=#[] ->
   codeAny (model l.prog w) callerA (.call (.ref i) ⟨[.ref a],[]⟩) (λr s=>r=.ok (.ret (.bool o4))/\OldK b.heap s.heap/\s.os=b.os/\AllBare s.gens) b) :
  WalkO q c D E l.row.toRowW d [] (λf vs=>PySem.call f vs):=by
 intro w e b mg B G Y i o C p g M kV V Q x H z R F L as m I W A S;obtain rfl:M=.none:=Dflts.none H y;obtain rfl:kV=.none:=Dflts.noKw H;refine CV (YK U m A) λa vs ns u v k h j=>?_;subst u;subst v;refine enter_call (A8d (call w e b mg B i o C p g a vs ns G Y V (fd_plain Q) x z k h j R) λr s K=>?_);refine xa3 K λt N O P=>?_;clear K;subst t;exact⟨.inl ⟨.bool o4,.bool o4,[],Z,λ_=>Z,.bool o4,YL l _,λ_=>⟨List.Pairwise.nil,λ_ T=>(nomatch T)⟩⟩,N,O,P⟩
end Att
namespace L2
open PySem PySem.Spec PyProof.Rows
theorem Rn:∀{vs:F_}{ns:I_},IntsAre vs ns->AU (ns.map V.int) vs
|_,_,.nil=>.nil
|_,_,.cons n t h=>.cons ⟨t,Z⟩ (Rn h)
def aEK(H:Hp):Prop:=∀b,H b=o0\/∃o xs,H b=n_ (.frz o (.lst xs))
theorem aBS{P:N_}{w:Q_}{K:O_}{mg X:C_}{CX:CXT}{k:Nat}{Q a:R_}{fd:E_}{x:Str}{sp:Sp}{c:P_}{vs:F_}{ns:I_}
  (KX:K.In c.heap) (B:c.heap.Ns mainGlobals mg) (g:c.heap.Ns builtinsNs X) (S:∀x:Str,x≠"__name__" -> X x=bootBuiltins x) (A:c.heap.NoLimit) (hg:c.gens=#[])
  (N:c.heap.get? a=n_ {cls:=.type "list",data:=.seq vs.toArray}) (hi:IntsAre vs ns) (hl:ns.length<=sizeLine) (hr:Dt k callerA)
  (F:∀i:Heap,K.In i->i.Ns mainGlobals mg->AM P w K mg i CX k Q fd [x] sp) (t:∀(s:P_)(u:S_),BindsTo s fd ⟨[u],[]⟩ [(x,u)])
  (U:∀H:Hp,aEK H->SqL K H a (ns.map V.int)->sp [.ref a] H (λv _=>v=.bl o4) λ_ _ _=>False)
  (R:∀H e j,CX [] H c (λ_ _ _=>False) e j->False) :
  codeAny (model P w) callerA (.call (.ref Q) ⟨[.ref a],[]⟩) (λr j=>r=.ok (.ret (.bool o4))/\OldK c.heap j.heap/\j.os=c.os/\AllBare j.gens) c:=by
 have rv:=Rn hi;have E:=hi.length;have p:∀H:Hp,aEK H->SqL K H a (ns.map V.int)->HOk P w H c.heap->(∀b,H b≠o0->b=a)->(H a≠o0->K.lookup a=o0) ->
   codeAny (model P w) callerA (.call (.ref Q) ⟨[.ref a],[]⟩) (λr j=>r=.ok (.ret (.bool o4))/\OldK c.heap j.heap/\j.os=c.os/\AllBare j.gens) c:=by
  intro H hO hS C hA hK;have f:∀{b:R_}{o:Obj},c.heap.get? b=n_ o->H b=o0->(Te c.heap H).get? b=n_ o:=λe n=>aBF e n;have Y:∀{b:R_}{o:Obj}{M:Array DictEntry}{L:Nat},c.heap.get? b=n_ o->o.data=.dict M L->H b=o0:=λ{b o M L} e d=>by
   cases q:H b with
   |none=>rfl
   |some u =>
    have O:=hA b (by rw[q];simp);subst O;rw[N]at e;cases e;have d':=d;cases d'
  have l:∀{b:R_}{m:C_},c.heap.Ns b m->(Te c.heap H).Ns b m:=λ{b m} ⟨o,M,L,e,d,r⟩=>⟨o,M,L,f e (Y e d),d,r⟩
  have y:K.In (Te c.heap H):=λb o e=>f (KX b o e) (by
   cases q:H b with
   |none=>rfl
   |some u =>
    have O:=hA b (by rw[q];simp);subst O;rw[hK (by rw[q];simp)]at e;cases e)
  have hM:Mod K mg (Te c.heap H):=⟨y,l B,⟨X,l g,S⟩,let ⟨mc,h1,h2⟩:=A;⟨mc,l h1,h2⟩⟩
  have e0:Pc P w K mg (Te c.heap H) callerA [] c H:=⟨Z,hM,λb o e=>aCj e,K8 (Zk _ _),trivial,λb g=>absurd (show b∈([]:H_)from g) B0,C,.of_eq hg⟩
  refine A8d ((F _ y (l B)).run callerA [] c H ⟨[.ref a],[]⟩ [.ref a] [.ref a] _ _ hr e0 (t c (.ref a)) (.cons Z .nil) (U H hO hS)) λr j h=>?_;cases r with
  |error e=>exact(R H e j h).elim
  |ok fl =>
   cases fl with
   |next=>exact False.elim h
   |brk=>exact False.elim h
   |cont=>exact False.elim h
   |ret u =>
    refine Dx h λv H' G bare un D aa=>xa aa λr' q=>?_;have q':=q;subst q';obtain rfl:u=Value.bool o4:=r';refine⟨Z,OldK.of_keep λb o e=>?_,G,bare⟩;cases q:H b with
    |none=>exact un.keep b o e q (by intro z;exact absurd (show b∈([]:H_)from z) B0) B0
    |some u =>
     rcases hO b with z|⟨ob,xs,z⟩
     .rw[q]at z;cases z
     .have z2:=un.frzs b ob _ z;obtain⟨e1,_⟩:=C b _ z;obtain⟨e2,_⟩:=D b _ z2;rw[e]at e1;cases e1;exact e2
 cases T:K.lookup a with
 |some o =>
  have e:=KX a o T;rw[N]at e;cases e;refine p (λ_=>o0) (λ_=>.inl Z) (.inr ⟨_,vs.toArray,_,T,Z,Z,Z,by rw[F4,E];exact hl,by simpa using rv⟩) (λb u z=>by have I:=z;cases I) (λb z=>absurd Z z) λz=>absurd Z z
 |none =>
  refine p (λb=>if b=a then n_ (.frz {cls:=.type "list",data:=.seq vs.toArray} (.lst (ns.map V.int)))else o0) (λb=>?_) (.inl (.inr ⟨{cls:=.type "list",data:=.seq vs.toArray},A0g Z⟩)) (λb u z=>?_) (λb z=>?_) λ_=>T
  .by_cases g:b=a
   .exact .inr ⟨_,_,A0g g⟩
   .exact .inl (A0d g)
  .by_cases g:b=a
   .have I:=(A0g g).symm.trans z;cases I;subst g;exact⟨N,by rw[B7];exact hl,vs,_,rv,N⟩
   .have I:=(A0d g).symm.trans z;cases I
  .by_cases g:b=a
   .exact g
   .exact absurd (A0d g) z
theorem Wt{l:W.OpenLaw}{n k:Nat}{q:N_}{m:K_}{N:(Str->Option Value)->Heap->Prop}{L:World->Heap->Prop}{d:DefRec}{K:Params->W.Frag}{CX:World->CXT}{sp:World->Sp}{x:Str}
  (hn:l.most=n_ n) (C:n<=sizeLine) (A:d.params.defaults=[]) (hr:Dt k callerA)
  (S:∀(w:Q_)(h:T_),L w h->(K w.params).In h)
  (F:∀(w:Q_)(mg:C_)(t:R_)(h:T_),(K w.params).In h->h.Ns mainGlobals mg->mg d.name=n_ (.ref t) ->
   ∃y:FuncData,(∀(s:P_)(u:S_),BindsTo s y ⟨[u],[]⟩ [(x,u)]) /\
    ∀c:Heap,(K w.params).In c->c.Ns mainGlobals mg->AM l.prog w (K w.params) mg c (CX w) k t y [x] (sp w))
  (D:∀(w:Q_)(H:Hp)(a:R_)(ns:I_),ns.length<=n->aEK H->SqL (K w.params) H a (ns.map V.int)->sp w [.ref a] H (λv _=>v=.bl o4) λ_ _ _=>False)
  (z:∀(w:Q_)(H:Hp)(s:P_)(e:S_)(E:P_),CX w [] H s (λ_ _ _=>False) e E->False) :
  W.WalkO q m N L l.row.toRowW d [] (λf vs=>PySem.call f vs):=by
 refine Att.Ve hn A λw M r mg mb t o pm cd O a vs ns G Y ho hd X B p j i hg=>?_;have I:=S w _ Y;exact xea (F w mg t _ I G.T.g B) λy U P=>aBS I G.T.g G.T.b G.T.builtins G.T.nolimit hg p j (C5 i C) hr P U (λH Q R=>D w H a ns i Q R) λH e E=>z w H r e E
end L2
namespace L2
open PySem PySem.Spec PyProof.Rows
def Bj(s:Stmt)(j:Nat):Stmt:=match s with
|.ClassDef _ _ _ body _ _ _ _ _ _ _=>body.getD j (.Pass ⟨0,0,0,0⟩)
|_=>.Pass ⟨0,0,0,0⟩
def NR(s:Stmt):Arguments:=match s with
|.FunctionDef _ a _ _ _ _ _ _ _ _=>a
|_=>{posonlyargs:=[],args:=[],vararg:=o0,kwonlyargs:=[],kw_defaults:=[],kwarg:=o0,defaults:=[]}
def Mg(s:Stmt):List Stmt:=match s with
|.FunctionDef _ _ b _ _ _ _ _ _ _=>b
|_=>[]
def Ak(s:Stmt):Scope:=match s with
|.FunctionDef _ _ _ _ _ _ sc _ _ _=>sc
|_=>{kind:=.function,names:=[],isGenerator:=o5,isCoroutine:=o5}
abbrev CX0:CXT:=λ_ _ _ _ _ _=>False
abbrev E0:XK:=λ_ _ _=>False
theorem Aq:GV CX0 X E0:=λ_ _ _ _ _ _ _ h=>h.elim
structure Fun(K:O_)(x qual:Str)(st:Stmt)(f:R_)(fd:E_):Prop where
ex:∃(oc:S_)(od:Option Addr)(kV doc pm:S_)(an:Option Addr)(cdv ct:S_)(osl:Array (Option Value)),
 fd=W.fnOf x qual (NR st) (Mg st) (Ak st) .none kV doc pm an cdv ct/\K.lookup f=n_ ⟨oc,od,.func fd,osl⟩/\W.codeIn K cdv qual=o4
kp:keepIn K (.ref f)=o4
section
variable{P:N_}{w:Q_}{K:O_}{mg:C_}{n8:T_}
theorem Fun.ok{x b:Str}{st:Stmt}{f:R_}{m:E_}{N ps:K_}{k:Nat}{sp:Sp}(F:Fun K x b st f m)(S:Aw N ps (Ak st))(len:∀vs H Q E,sp vs H Q E->vs.length=ps.length)
  (d:∀(c:S_)(A:Around)(a:List Env)(s:P_)(H:Hp)(vs:List V)(Q:VK)(E:XK),Dt k (A.deeper (envOfC b (Ak st) s.heap.objs.size f c))->sp vs H Q E ->
   ∃t,PSs (Zs CX0 P w K mg n8 N b (Ak st) f c A a s H E).nox (Mg st) t/\t {nx:=λ_ n=>Q .non n,rt:=Q} (OI N vs) H):AM P w K mg n8 CX0 (k+1) f m ps sp:=by
 refine xe5 F.ex λz B kV o C g=>xe4 g λv c y u i=>xa2 i λe r j=>?_;clear g i;subst e;exact aGl r j S len λA a s H vs Q E p l=>xea (d c A a s H vs Q E p l) λt h q=>⟨t,h.nox,q⟩
theorem Fun.binds{x a:Str}{st:Stmt}{f:R_}{l:E_}{ps:K_}(F:Fun K x a st f l)
  (h:∀(kV c k:S_)(i:Option Addr)(b j:S_)(us:F_),us.length=ps.length->bindArgs (W.fnOf x a (NR st) (Mg st) (Ak st) .none kV c k i b j) ⟨us,[]⟩=pure (ps.zip us)):CY K l ps []:=by
 refine xe5 F.ex λp q kV c k e=>xe4 e λi b j n g=>xa2 g λd o m=>?_;clear e g;subst d;exact .all (h kV c k i b j)
theorem Wi {x a:Str} {st:Stmt} {f:R_} {j:S_} {m g:Option Addr} {e:Array (Option Value)} {kV d i b h:S_} (l:K.lookup f=n_ ⟨j,m,.func (W.fnOf x a (NR st) (Mg st) (Ak st) .none kV d i g b h),e⟩)
 (c:W.codeIn K b a=o4) (k:keepIn K (.ref f)=o4):Fun K x a st f (W.fnOf x a (NR st) (Mg st) (Ak st) .none kV d i g b h):=⟨⟨j,m,kV,d,i,g,b,h,e,Z,l,c⟩,k⟩
end
theorem DM{k:Nat}(a:Dt k A):A.units+1<cLine:=D6 (T0 (by decide:1<=64) _) a.units
section
variable{X:Cx}
theorem pv(i:Nat)(b:X.N[i]?=n_ x:=by rfl)(d:Vis X.env.scope x:=by first|exact Or.inl rfl|exact Or.inr O_9|exact Or.inr (Or.inr rfl))(c:(x==("__debug__" : Str))=o5:=by decide)
 (a:(x==("__classdict__" : Str))=o5:=by decide):PE X (.Name x pos) (GY i):=aFU b d c a
end
theorem Ba{A B:Prop}(h:B):if o5=o4 then A else B:=by
 rw[A0d F1];exact h
theorem BR{A B:Prop}(h:A):if o4=o4 then A else B:=by
 rw[A0g rfl];exact h
theorem IN{c A B:Prop}[Decidable c](a:c->A)(b:¬c->B):if c then A else B:=by
 by_cases h:c
 .rw[A0g h];exact a h
 .rw[A0d h];exact b h
theorem RI{c A B:Prop}[Decidable c](a:c)(h:B):if(!decide c)=o4 then A else B:=by
 rw[A0e a];exact Ba h
def Ay(H H':Hp):Prop:=∀b o,H b=n_ o->H' b=n_ o
theorem Ay.refl(H:Hp):Ay H H:=λ_ _ h=>h
theorem Ay.trans(a:Ay H d)(b:Ay d e):Ay H e:=λc o h=>b c o (a c o h)
theorem Ay.seq{K:O_}{H b:Hp}{a:R_}{xs:List V}(e:Ay H b)(h:SqL K H a xs):SqL K b a xs:=by
 rcases h with (h|⟨o,h⟩)|h
 .exact .inl (.inl (e _ _ h))
 .exact .inl (.inr ⟨o,e _ _ h⟩)
 .exact .inr h
def YD(a D:R_)(h:T_):Prop:=∃o,h.get? a=n_ o/\o.cls=.ref D/\∃vs,o.data=.fields vs/\vs[2]?=n_ .none
theorem YD.not(x:YD a D h):∃o,h.get? a=n_ o/\o.cls=.ref D/\notCls o=o4:=by
 obtain⟨o,e,c,vs,d,_⟩:=x;exact⟨o,e,c,by unfold notCls;rw[d]⟩
def aDw(a D:R_):HO:=.ext (YD a D)
theorem Inv.track(I:Inv X d σ H s)(h:H a=o0)(f:X.s₀.heap.get? a=o0)(k:X.n8.get? a=o0)(g:X.env.locals≠a)(i:∀x c,X.env.cells.lookup x=n_ c->c≠a)
  (j:∀p,p∈X.pn++d->p.1≠a) (l:∀b,b∈X.fs->b≠a) (new:BQ X.prog X.w (upd H a o) s.heap a o):Inv X d σ (upd H a o) s:=by
 have ne:∀b u,H b=n_ u->b≠a:=λb u q z=>by rw[z,h]at q;cases q
 refine⟨I.ok,I.os,I.bare,⟨I.n8.keep,I.n8.slot,λb u q n x=>?_,I.n8.there,λb xs q=>?_,λb u v q=>?_,λb ps q=>?_⟩,I.loc,I.cell,?_,λx c q=>?_,λp z=>?_,λb u q=>?_,I.len⟩
 .rw[Ax (λz=>by rw[z,f]at q;cases q)];exact I.n8.free b u q n x
 .have z:=I.n8.tups b xs q;rw[Ax (ne _ _ z)];exact z
 .have z:=I.n8.frzs b u v q;rw[Ax (ne _ _ z)];exact z
 .obtain⟨m,z⟩:=I.n8.tbls b ps q;exact⟨m,by rw[Ax (ne _ _ z)];exact z⟩
 .rw[Ax g];exact I.free
 .rw[Ax (i x c q)];exact I.freeC x c q
 .exact xa2 (I.pin p z) λe n r=>⟨e,by rw[Ax (j p z)];exact n,r⟩
 .by_cases z:b=a
  .subst z;rw[Af]at q;cases q;exact new
  .rw[Ax z]at q;exact(I.hok b u q).stay (λc v _ r=>r) (λc r=>by rw[Ax (ne _ _ r)];exact r) λc xs r=>by rw[Ax (ne _ _ r)];exact r
section
variable{X:Cx}{tg:Expr}
def Its(x:Str):It:=⟨λi _=>i<x.cps.size,λi H v H'=>H'=H/\∃c,x.cps[i]?=n_ c/\v=.str ⟨#[c]⟩,λi _=>i=x.cps.size⟩
theorem TD{P:N_}{w:Q_}{K:O_}(it:R_)(x:Str)(t:Tok)(T:String)(R:["enumerate","zip","dict_itemiterator","dict_reverseitemiterator","odict_iterator","itertools.zip_longest","itertools.pairwise"].contains T=o5)
  (W:∀A:Around,A.handled=o0->Walks P w A it [it] [it] x.cps.size (SignAt x) (λi h=>h.IsStrIter it T x t i))
  (g:∀(A:Around)(i:Nat)(s:P_)(Q:B_)(E:B_),s.heap.IsStrIter it T x t i->Q (.ref it) s->wpAny (model P w) A (pyIter (.ref it)) Q E s):Rh P w K tg (Its x) [it] it (λi h=>h.IsStrIter it T x t i) where
 mem:=by simp
 obj:=λi h st b f=>by
  have e:b=it:=by simpa using f
  subst e;exact AX st λo e c d=>⟨o,e,λv z=>by rw[d]at z;cases z⟩
 keep:=λi h h' ⟨o,e,r⟩ k=>⟨o,k it B0 o e,r⟩
 item:=by
  intro X C L B D i a s σ H E I l st G;subst C L B;refine xa5 (l it B0) λn p O q f4 y=>(W X.A (I.ok.hd D)).item i s _ _ G st λv h' tk M j kk=>Cw M λc u F m=>?_;clear M;subst m;have N:Inv X a σ H {s with heap:=h',toks:=tk}:=I.turned (λb o f e=>kk b o (by simpa using f) e) n p q f4 y;exact AX (id j) λo e S U=>⟨_,Z,US (s:={s with heap:=h',toks:=tk}) e S U R ⟨.str ⟨#[c]⟩,H,N,⟨u,Z⟩,⟨Z,c,F,Z⟩,j,λb f=>(l b f).1⟩⟩
 done:=by
  intro X C L B D i a s σ H E I l st G;subst C L B;refine xa5 (l it B0) λn p O q f4 y=>?_;have z:=G;subst z;exact(W X.A (I.ok.hd D)).done s _ _ st λh' tk kk=>⟨Z,I.turned (λb o f e=>kk b o (by simpa using f) e) n p q f4 y⟩
 self:=g
def iStr(tl:TE):TI:=fun σ H R=>tl σ H λv H1=>∃x,v=.str x/\R (Its x) H1
theorem aB5(r:PE X l m):PI X tg l (iStr m):=by
 intro a s σ H R I h;refine thn (r a s σ H _ I h) λv c n=>AS n λy f d u k=>xea k λx g q=>?_;clear k;subst g;obtain⟨t,rfl⟩:=u;have fp:∀b,b∈[c.heap.objs.size]->DW X a f b:=λb p=>by
  have e:b=c.heap.objs.size:=by simpa using p
  subst e;exact d.fpOk (B8 _) (d.hok.fresh (B8 _))
 cases j:x.cps.all (· < 128)with
 |true =>
  refine wpAny_pyIter_ascii j ⟨c.heap.objs.size,[c.heap.objs.size],_,_,f,Z,d.kept (t':=c.toks) λb o e=>C3 _ e,TD _ x t "str_ascii_iterator" A4 (λA i=>Walks.strAscii i _ x t) (λ_ _ _ _ _ st h=>wpAny_pyIter_striter_ascii st h),⟨_,F2 _ Z,Z,Z⟩,fp,q⟩
 |false =>
  refine wpAny_pyIter_wide j ⟨c.heap.objs.size,[c.heap.objs.size],_,_,f,Z,d.kept (t':=c.toks) λb o e=>C3 _ e,TD _ x t "str_iterator" A4 (λA i=>Walks.strWide i _ x t) (λ_ _ _ _ _ st h=>wpAny_pyIter_striter_wide st h),⟨_,F2 _ Z,Z,Z⟩,fp,q⟩
theorem aCQ{x:Str}{g:TG}{o:TS}{D:Jc}{σ:St}{H:Hp}(b:Nat->St->Hp->Prop)(q:b 0 σ H)
  (t:∀i c σ H,x.cps[i]?=n_ c->b i σ H->g (.str ⟨#[c]⟩) σ H fun d j=>o {D with nx:=b (i+1),ct:=b (i+1),bk:=D.nx} d j) (s:∀σ H,b x.cps.size σ H->D.nx σ H) :
  ∃W:Nat->Nat->St->Hp->Prop,(∃m,W 0 m σ H)/\∀i m σ H,W i m σ H ->
   ((Its x).stop i H/\D.nx σ H)\/((Its x).go i H/\∃N:St->Hp->Prop,(∀σ' a,N σ' a->∃n,n<m/\W (i+1) n σ' a)/\∀v a,(Its x).yld i H v a->g v σ a fun d j=>o {D with nx:=N,ct:=N,bk:=D.nx} d j):=by
 refine⟨λi m σ H=>m=x.cps.size-i/\i<=x.cps.size/\b i σ H,⟨x.cps.size,by simp,M7 _,q⟩,?_⟩;intro i m σ H h;refine xa2 h λk w p=>?_;clear h;subst k;by_cases f:i<x.cps.size
 .refine .inr ⟨f,b (i+1),fun σ' a u=>⟨x.cps.size-(i+1),by lia,Z,f,u⟩,λv a y=>?_⟩;refine MD y λe c r l=>?_;clear y;subst l;subst e;exact t i c σ _ r p
 .have e:i=x.cps.size:=by lia
  subst e;exact .inl ⟨Z,s σ H p⟩
theorem IQ:GX X (.type "int") (λxs H Q=>∃x n,xs=[.str x]/\PySem.intText? x=n_ n/\x.length<=640/\Q (.int n) H):=by
 intro b s σ H xs us Q I r h;refine Ep h λx n a d c q=>?_;clear h;subst a;cases r with
 |cons e f =>
  cases f;obtain⟨t,rfl⟩:=e;exact W.KIN.call_text d c ⟨.int n,H,I.tok _,⟨_,Z⟩,q⟩
theorem Vd(G:X.calm=o4):GX X (.builtin "all") (λxs H Q=>∃(p:R_)(bs:List Bool),xs=[.ref p]/\SqL X.K H p (bs.map V.bl)/\Q (.bl (bs.all id)) H):=by
 intro f s σ H xs us Q I r h;refine AS h λp bs c L q=>?_;clear h;subst c;cases r with
 |cons M N =>
  cases N;cases(show _=Value.ref p from M);refine AX (I.list L) λa t pl S=>?_;have m:=L8 (by refine Cw pl λo n e _=>?_;exact F3 e);refine call_all_walk (A7c pl.isList ?_);have g:∀(i:Nat) v,a[i]?=n_ v->∃b,bs[i]?=n_ b/\v=.bool b:=λi v e=>by
   cases j:bs[i]? with
   |none =>
    have:a[i]?=o0:=t.none_of (by rw[C0,j];rfl);rw[e]at this;cases this
   |some b =>
    refine xea (t.get (i:=i) (x:=V.bl b) (by rw[C0,j];rfl)) λu w O=>?_;rw[e]at w;cases w;exact⟨b,Z,O⟩
  refine⟨s.heap.objs.size,_,_,_,_,_,λi=>bs.getD i o4,Z,Walks.list (A:=X.A.in1) (I.ok.hd G) s.heap.objs.size p m a.toArray,⟨⟨_,F2 _ Z,Z,Z⟩,?_⟩,?_,?_⟩
  .exact pl.isList.at λo e=>C3 _ e
  .intro i v P B R E k;refine xea (g i v (by simpa using E)) λb j c=>?_;subst c;have C:bs.getD i o4=b:=by rw[D7,j];rfl
   have k:B (bs.getD i o4) P:=k;rw[C]at k;exact A3c k
  .intro h' tk kk;have y:Inv X f σ H {s with heap:=h',toks:=tk}:=I.kept λb o e=>kk b o (by intro z;exact L8 (F3 e) (by simpa using z)) (C3 _ e);have len:a.toArray.size=bs.length:=by rw[F4,<-t.length,B7]
   have D:(List.range a.toArray.size).all (λi=>bs.getD i o4)=bs.all id:=by
    rw[len,S6,T4,T4];constructor
    .intro z b F;obtain⟨i,l,e⟩:=K0.mp F;have:=z i (M8.mpr l);rw[D7,C4 l,e]at this;exact this
    .intro z i l;have d:=M8.mp l;rw[D7,C4 d];exact z _ (P4 d)
   rw[D];exact⟨.bl _,H,y,Z,q⟩
end
structure aAV(K:O_)(D:R_):Prop where
hd:hasDictIn K D=o4
ga:findIn K (.ref D) "__getattribute__" = n_ (n_ (.builtin "BaseException.__getattribute__"))
gt:findIn K (.ref D) "__getattr__" = n_ o0
cl:findIn K (.ref D) "__class__" = n_ (n_ (.builtin "object.__class__"))
sp:specialIn K (.builtin "object.__class__") "__get__" = n_ (n_ (.builtin "getset_descriptor.__get__"))
tk:takesIn K (.builtin "object.__class__")=n_ o4
mo:mroIn K D (.type "object")=n_ o4
mb:mroIn K D (.type "BaseException")=n_ o4
section
variable{K:O_}{prog:N_}{w:Q_}{A:Around}{E:B_}{s:P_}{a D:R_}{o:Obj}
open PySem.W Builtin Builtin.ObjectAttr Builtin.Getset_descriptor
theorem aA4(X:K.In h)(f:aAV K D):Looks M h (find (.ref a) (.ref D) "__class__") (.bind (.builtin "getset_descriptor.__get__") (.builtin "object.__class__")) :=
 (looks_findIn X f.cl).andThen ((looks_specialIn X f.sp).andThen ((show Looks M h (dataDescriptor? (n_ (.builtin "object.__class__")) (n_ (.builtin "getset_descriptor.__get__"))) (n_ (.builtin "getset_descriptor.__get__",.builtin "object.__class__"))from(looks_takesIn X f.tk).andThen .now).andThen (Looks.tag .now)))
theorem aCP(X:K.In s.heap)(f:aAV K D)(c:s.heap.get? a=n_ o)(b:o.cls=.ref D)(e:R (.ok (.ret (.ref D))) s) :
  codeAny (model prog w) A (.call (.builtin "getset_descriptor.__get__") ⟨[.builtin "object.__class__",.ref a,i],[]⟩) R s:=by
 obtain⟨h,g,d,t,l⟩:=s;have j:Looks (model prog w) h (typeOf (.ref a)) (.ref D):=b▸(Looks.ld c).andThen .now;have k:=looks_mroIn (M:=model prog w) X f.mo;refine codeAny_call_builtin KF.slot_gs.plain KF.entry_gs (KF.slot_gs.check _ _ _ _ _ _ _ _ KF.type_class (KF.args_gs _ _ _) ?_);unfold Builtin.«getset_descriptor.__get__» descrGet;rw[dga_obj];refine A0c (A0h ?_);unfold descrGetter descrCheckInstance descrNameAndClass isInstance;simp only[KF.owner_class]
 repeat lk
 refine⟨Code.quiet_builtin _ A0,codeAny_builtin KF.entry_class ?_⟩;unfold Builtin.«object.__class__» shownTypeOf
 repeat lk
 exact e
theorem Zo(X:K.In s.heap)(f:aAV K D)(i:s.heap.get? a=n_ o)(e:o.cls=.ref D)(p:Q (n_ (.ref D)) {s with toks:=s.toks+1}) :
  wpAny (model prog w) A (getAttr? (.ref a) "__class__") Q E s:=by
 obtain⟨h,g,d,t,r⟩:=s;have c:Looks (model prog w) h (typeOf (.ref a)) (.ref D):=e▸(Looks.ld i).andThen .now;have j:=looks_findIn (M:=model prog w) X f.ga;have k:=looks_findIn (M:=model prog w) X f.gt;have l:=aA4 (M:=model prog w) (a:=a) X f;have m:Looks (model prog w) h (isInstance (.ref a) (.type "BaseException")) o4:=c.andThen (looks_mroIn X f.mb);unfold getAttr? getAttrBy? getAttrBy;refine A0c (wpAny_mkText (A0c (A5f (A5e (A0c (c.at (A0c (j.at ?_))))))));dsimp only;have q:(Value.builtin "BaseException.__getattribute__" == Value.builtin "object.__getattribute__")=o5:=by decide +kernel
 rw[A0d (by rw[q,Bool.and_false];exact F1)];unfold getAttrByItsOwn hookBefore;rw[A0g (by rfl)];refine A0c (k.at ?_);refine A0c (A5f (A5e ?_));unfold callGetattribute;rw[A0d A4];unfold boundAndCalled;refine A0c (wpAny_of_eq (PySem.F.excAttr_ValueError.ga.bind (.ref a)) ?_);dsimp only;refine wpAny_call (codeAny_call_builtin PySem.F.excAttr_ValueError.ga.plain PySem.F.entry_bexc_ga ?_);have n:builtinKind "BaseException.__getattribute__" = n_ .slot:=by decide +kernel
 have b:splitId "BaseException.__getattribute__" = n_ ("BaseException","__getattribute__"):=by decide +kernel
 simp only[checkBuiltinCall,n,b];refine A0c (m.at ?_);rw[A0d A4];refine wpAny_of_eq (a:=()) (PySem.F.args_bexc_ga (.ref a) (.str "__class__" t)) ?_;unfold Builtin.«object.__getattribute__»;dsimp only at l
 repeat ((fail_if_success (with_reducible show wpAny _ _ (call _ _) _ _ _));lk)
 refine wpAny_call (aCP (s:=⟨h,g,d,t+1,r⟩) X f i e ?_);dsimp only
 repeat lk
 exact p
end
inductive TyX(K:O_)(H:Hp):V->Value->Prop where
|of {x:V} {t:S_} (h:OG K H x t):TyX K H x t
|exc {a D:R_} (e:H a=n_ (aDw a D)) (f:aAV K D):TyX K H (.ref a) (.ref D)
theorem aBQ{K:O_}{a D:R_}(f:aAV K D):W.KitX K (.ref a) (.ref D) (λh=>∃o,h.get? a=n_ o/\o.cls=.ref D/\notCls o=o4) where
 ty:=λM h X ⟨o,e,c,_⟩=>c▸(W.Looks.ld e).andThen .now
 it:=λM h X _=>by
  refine xea (any_some f.hd) λm b _=>?_;unfold clsIn at b;split at b
  .rename_i l d' d j g;intro r t s v k q;unfold isType loadHead;exact A0c (wpAny_loadPart (k _ _ (X _ _ g)) (A0h q))
  .cases b
 ne:=λh x u p n w X i=>by
  refine xea (any_some f.hd) λm b _=>A0b.mpr λq=>?_;have e:=Value.ref.inj (beq_iff_eq.mp q);subst e;unfold clsIn at b;split at b
  .rename_i l d' d j g;have z:=(X _ _ g).symm.trans i;cases z
  .cases b
 ca:=λX ⟨o,e,c,_⟩ k=>Zo X f e c k
def clsV:V->Option Value
|.ty n=>n_ (.type n)
|.ref C=>n_ (.ref C)
|_=>o0
theorem GT{X:Cx}:GX X (.builtin "isinstance") (λxs H Q=>∃x c d t b,xs=[x,c]/\clsV c=n_ d/\TyX X.K H x t/\kitOne X.K t d=n_ b/\Q (.bl b) H):=by
 intro j s σ H xs us Q I r h;obtain⟨x,c,d,t,b,rfl,g,ty,i,q⟩:=h;cases r with
 |@cons _ u _ _ l y =>
  cases y with
  |@cons _ v _ _ k o =>
   cases o;have m:v=d:=by
    cases c with
    |ty n=>cases g;exact k
    |ref C=>cases g;exact k
    |_=>cases g
   subst m;cases ty with
   |of ty=>exact Zi I l ty i λtk=>⟨.bl b,H,I.tok tk,Z,q⟩
   |@exc a D e f =>
    cases(show u=Value.ref a from l);exact xa2 (show BQ X.prog X.w H s.heap a (aDw a D)from I.hok a _ e) λp _ _=>A3a (aBQ f) I.kIn (YD.not p) i (λz=>nomatch z) λtk=>⟨.bl b,H,I.tok tk,Z,q⟩
section
variable{X:Cx}{c:Expr}{a b:List Stmt}{tc:TT}{t u:TS}{pos:Pos}
def tIfJ(J:St->Hp->Prop)(tc:TT)(t u:TS):TS:=λD σ H=>(tc σ H λb H1=>if b=o4 then t {D with nx:=J} σ H1 else u {D with nx:=J} σ H1)/\∀σ' H',J σ' H'->D.nx σ' H'
theorem SP.nx(k:∀σ' e,J σ' e->D.nx σ' e)(h:SP X d {D with nx:=J} f s):SP X d D f s:=by
 cases f with
 |next=>exact Cw h fun σ' e I q=>⟨σ',e,I,k _ _ q⟩
 |brk=>exact h
 |cont=>exact h
 |ret v=>exact h
theorem aFX(J:St->Hp->Prop)(o:PT X c tc)(m:PSs X a t)(n:PSs X b u):PS X (.If c a b pos) (tIfJ J tc t u):=by
 intro e s σ H D I h;obtain⟨h,k⟩:=h;refine wpAny_If (thn (o e s σ H _ I h) λd l ⟨g,i,j⟩=>?_);cases d with
 |true=>exact thn (m e l σ g _ i j) λf p q=>q.nx k
 |false=>exact thn (n e l σ g _ i j) λf p q=>q.nx k
end
def IP(env:Env)(a:List (Str×Addr))(x:Str×NameKind):List (Str×Addr):=if(x.2==NameKind.free)=o4 then(x.1,(env.cells.lookup x.1).getD 0)::a else a
def Wl(env:Env)(l:List (Str×NameKind)):List (Str×Addr):=l.foldl (IP env) []
theorem Wj{α β:Type}{l:List α}{f:α->β->Sem (ForInStep β)}{g:β->α->β}(h:∀x∈l,∀b,f x b=pure (.yield (g b x))):∀b,forIn l b f=pure (l.foldl g b):=by
 induction l with
 |nil=>intro b;rfl
 |cons x l c =>
  intro b;rw[List.forIn_cons,h x C8,pure_bind];exact c (λy a=>h y (C9 _ a)) _
theorem QI{d:Scope}{b:Env}(h:∀y∈d.names,y.2=.free->∃c,b.cells.lookup y.1=n_ c):closureFor d b=pure (Wl b d.names):=by
 simp only[closureFor];rw[Wj (g:=IP b) (λx l c=>by
  obtain⟨n,k⟩:=x;by_cases i:k=.free
  .subst i;obtain⟨a,f⟩:=h _ l rfl;have e:cellOf b n=pure a:=by unfold cellOf;rw[show b.cells.lookup n=n_ a from f]
   simp only[IP,beq_self_eq_true,A7d,e,show b.cells.lookup n=n_ a from f,Option.getD_some];rfl
  .have j:(k==NameKind.free)=o5:=by simpa using i
   simp only[IP,j,Q6,A5h])]
 rfl
theorem RQ(b:Env){c:R_}:∀(l:List (Str×NameKind))(a:List (Str×Addr)),(l.foldl (IP b) a).lookup y=n_ c->a.lookup y=n_ c\/((y,NameKind.free)∈l/\c=(b.cells.lookup y).getD 0)
|[],a,h=>.inl h
| (n,k)::r,a,h=>by
 rw[W1]at h;rcases RQ b r _ h with z|⟨z,e⟩
 .unfold IP at z;split at z
  .rename_i g;have d:k=.free:=by simpa using g
   rw[S0]at z;split at z
   .rename_i i;have f:y=n:=by simpa using i
    subst f d;exact .inr ⟨C8,(A1f z).symm⟩
   .exact .inl z
  .exact .inl z
 .exact .inr ⟨C9 _ z,e⟩
theorem Va(b:Env):∀(l:List (Str×NameKind))(a:List (Str×Addr)),(∃c,a.lookup y=n_ c)->∃c,(l.foldl (IP b) a).lookup y=n_ c
|[],_,h=>h
| (n,k)::r,a,h=>by
 rw[W1];refine Va b r _ ?_;unfold IP;split
 .rw[S0];split
  .exact⟨_,Z⟩
  .exact h
 .exact h
theorem Wk(b:Env):∀(l:List (Str×NameKind))(a:List (Str×Addr)),(y,NameKind.free)∈l->∃c,(l.foldl (IP b) a).lookup y=n_ c
|[],_,h=>by simp at h
| (n,k)::r,a,h=>by
 rw[W1];rcases C1.mp h with e|h
 .cases e;refine Va b r _ ⟨(b.cells.lookup y).getD 0,?_⟩;unfold IP;simp only[beq_self_eq_true,A7d,S0]
 .exact Wk b r _ h
theorem Qe{a:Env}{y:Str}:∀{b:List (Str×NameKind)},(∀z∈b,z.2≠.cell) ->
 ((b.map λ(n,k)=>if(k==NameKind.free && a.scope.kind==.function && a.kindOf n==n_ .cell)then(n,NameKind.cell)else(n,k)).lookup y=n_ .cell \/
  (b.map λ(n,k)=>if(k==NameKind.free && a.scope.kind==.function && a.kindOf n==n_ .cell)then(n,NameKind.cell)else(n,k)).lookup y=n_ .free)->(y,NameKind.free)∈b
|[],_,h=>by simp at h
| (n,k)::r,hc,h=>by
 have e:=@Qe a y r (λz g=>hc z (C9 _ g));have h':List.lookup y ((if(k==NameKind.free && a.scope.kind==.function && a.kindOf n==n_ .cell)=o4 then(n,NameKind.cell)else(n,k))::(r.map λ(n,k)=>if(k==NameKind.free && a.scope.kind==.function && a.kindOf n==n_ .cell)then(n,NameKind.cell)else(n,k)))=n_ .cell \/
  List.lookup y ((if(k==NameKind.free && a.scope.kind==.function && a.kindOf n==n_ .cell)=o4 then(n,NameKind.cell)else(n,k))::(r.map λ(n,k)=>if(k==NameKind.free && a.scope.kind==.function && a.kindOf n==n_ .cell)then(n,NameKind.cell)else(n,k)))=n_ .free:=h
 clear h;by_cases d:(k==NameKind.free && a.scope.kind==.function && a.kindOf n==n_ .cell)=o4
 .rw[A0g d]at h';have f:k=.free:=by
   simp only[S1,A9b]at d;exact d.1.1
  simp only[S0]at h';cases c:y==n with
  |true =>
   have:y=n:=by simpa using c
   subst this f;exact C8
  |false =>
   rw[c]at h';exact C9 _ (e h')
 .rw[A0d d]at h';simp only[S0]at h';cases c:y==n with
  |true =>
   rw[c]at h';have:y=n:=by simpa using c
   subst this;rcases h' with z|z
   .exact absurd (A1f z) (hc (y,k) C8)
   .cases A1f z;exact C8
  |false =>
   rw[c]at h';exact C9 _ (e h')
theorem Nr{a:Env}{y:Str}:∀{b:List (Str×NameKind)},b.lookup y=n_ .free ->
 ((b.map λ(n,k)=>if(k==NameKind.free && a.scope.kind==.function && a.kindOf n==n_ .cell)then(n,NameKind.cell)else(n,k)).lookup y=n_ .cell \/
  (b.map λ(n,k)=>if(k==NameKind.free && a.scope.kind==.function && a.kindOf n==n_ .cell)then(n,NameKind.cell)else(n,k)).lookup y=n_ .free)
|[],h=>by simp at h
| (n,k)::r,h=>by
 have e:=@Nr a y r;show List.lookup y ((if(k==NameKind.free && a.scope.kind==.function && a.kindOf n==n_ .cell)=o4 then(n,NameKind.cell)else(n,k))::(r.map λ(n,k)=>if(k==NameKind.free && a.scope.kind==.function && a.kindOf n==n_ .cell)then(n,NameKind.cell)else(n,k)))=n_ .cell \/
  List.lookup y ((if(k==NameKind.free && a.scope.kind==.function && a.kindOf n==n_ .cell)=o4 then(n,NameKind.cell)else(n,k))::(r.map λ(n,k)=>if(k==NameKind.free && a.scope.kind==.function && a.kindOf n==n_ .cell)then(n,NameKind.cell)else(n,k)))=n_ .free
 rw[S0]at h;by_cases d:(k==NameKind.free && a.scope.kind==.function && a.kindOf n==n_ .cell)=o4
 .rw[A0g d];simp only[S0];cases c:y==n with
  |true=>exact .inl Z
  |false=>rw[c]at h;exact e h
 .rw[A0d d];simp only[S0];cases c:y==n with
  |true=>rw[c]at h;exact .inr h
  |false=>rw[c]at h;exact e h
section
variable{prog:N_}{w:Q_}{A:Around}{R:Result->Shared->Prop}{s:P_}
abbrev Wy(ifs:List Expr)(env:Env):Sem Bool:=forIn ifs o4 λc r=>if r=o4 then do let ok <-isTrue c env (eval c env);pure (ForInStep.yield ok)else pure (ForInStep.yield r)
theorem UX{q a i:Expr}{t:List Expr}{c:Scope}(I:Nat->Shared->Prop)
  (turn:∀n s,I n s->wpAny (model prog w) A (pyNext it) (λr d=>match r with
   |none=>R (.ok .next) d
   |some v=>wpAny (model prog w) A (letOwnedTupleGo a it v) (λ_ j=>wpAny (model prog w) A (assign a b v) (λ_ k =>
     wpAny (model prog w) A (Wy t b) (λok e =>
      if ok=o4 then wpAny (model prog w) A (eval q b) (λx l =>
       wpAny (model prog w) A (call (.builtin "list.append") [p,x]) (λ_ o=>∃m,m<n/\I m o) (λ_ _=>False) l) (λ_ _=>False) e
      else ∃m,m<n/\I m e) (λ_ _=>False) k) (λ_ _=>False) j) (λ_ _=>False) d) (λ_ _=>False) s)
  (n:Nat) (h:I n s):codeAny (model prog w) A (.compLoop (.ListComp q [⟨a,i,t,0⟩] c pos) 0 it p b) R s:=by
 refine codeAny_loop Z I (λn s B=>?_) n h;show wpAny _ A ((compTurn (.ListComp q [⟨a,i,t,0⟩] c pos) 0 it p b).onRaise (λx=>do noteFrame x b;theTreesLotGoes x)) _ _ s;refine wpAny_noted ?_;rw[compTurn_list];refine A0c (B0a (A0c (A3d (turn n s B) (λr d f=>?_) λ_ _ h'=>h'.elim)));cases r with
 |none=>exact A0h f
 |some v =>
  refine A0c (A3d f (λ_ j h₀=>?_) λ_ _ h'=>h'.elim);refine A0c (A3d h₀ (λ_ k u=>A0c (A3d u (λok e g=>?_) λ_ _ h'=>h'.elim)) λ_ _ h'=>h'.elim);cases ok with
  |false=>exact A0h ⟨Z,g⟩
  |true =>
   exact A0c (A0c (A3d g (λx l y=>A0c (A3d y (λ_ o z=>A0h (A0h ⟨Z,z⟩)) λ_ _ h'=>h'.elim)) λ_ _ h'=>h'.elim))
end
def Pb(cs:J_)(σ:St):St:=cs.map λj=>(σ[j]?).getD o0
def cxC(X:Cx)(scope:Scope)(N:K_)(s:P_)(H:Hp)(ex:H_):Cx :=
 {X with N:=N,s₀:=s,H₀:=H,env:=compEnvC scope (Wl X.env scope.names) s.heap.objs.size X.env,outer:=X.stack,stack:=X.stack,ex:=ex,fn:=λ_=>o5,pn:=[],xe:=λ_ _=>False}
def PTs(X:Cx)(ifs:List Expr)(t:TT):Prop :=
 ∀(n9:A_)(s:P_)(σ:St)(H:Hp)(Q:Bool->Hp->Prop),Inv X n9 σ H s->t σ H Q->wpAny (model X.prog X.w) X.A (Wy ifs X.env) (TP X n9 σ Q) X.xe s
def aFv:TT:=λ_ H Q=>Q o4 H
theorem Bm:PTs X [] aFv:=λ_ _ _ H _ I h=>wpAny_tests_nil ⟨H,I,h⟩
theorem aC5{c:Expr}{t:TT}(h:PT X c t):PTs X [c] t:=λa s σ H Q I q=>wpAny_tests_one (h a s σ H Q I q)
structure Bl(X:Cx)(scope:Scope)(N:K_)(k:Nat)(cs:J_):Prop where
cell:∀y∈scope.names,y.2≠.cell
kind:scope.kind=.function
names:∀y∈scope.names,y.2=.local->scope.names.lookup y.1=n_ .local
free:∀y∈scope.names,y.2=.free->X.env.scope.names.lookup y.1=n_ .cell\/X.env.scope.names.lookup y.1=n_ .free
len:N.length=k+cs.length
cap:∀j,j<cs.length->∃x,N[k+j]?=n_ x/\X.N[cs.getD j 0]?=n_ x/\scope.names.lookup x=n_ .free
def FK(k:Nat)(cs:J_)(g:TG)(tc:TT)(te:TE)(J:It)(σ:St)(H1:Hp)(fin:List V->Hp->Prop):Prop :=
 ∃W:Nat->Nat->List V->Hp->Prop,(∃m,W 0 m [] H1)/\∀i m acc H,W i m acc H ->
  (J.stop i H/\fin acc H)\/(J.go i H/\∃Nx:List V->Hp->Prop,(∀acc' H',Nx acc' H'->∃m',m'<m/\W (i+1) m' acc' H')/\∀x H',J.yld i H x H'->g x (List.replicate k o0++Pb cs σ) H' fun σ2 H2=>(∃ts:St,ts.length=k/\σ2=ts++Pb cs σ)/\acc.length<sizeLine /\
   tc σ2 H2 λb H3=>if b=o4 then te σ2 H3 λv H4=>Nx (acc++[v]) H4 else Nx acc H3)
def aHt(k:Nat)(cs:J_)(wi:TI)(g:TG)(tc:TT)(te:TE):TE:=fun σ H Q=>wi σ H λJ H1=>FK k cs g tc te J σ H1 λacc H2=>∀p,H2 p=o0->Q (.ref p) (upd H2 p (.lst acc))
section
variable{X:Cx}{tg iter elt:Expr}{ifs:List Expr}{scope:Scope}{pos:Pos}{wi:TI}{g:TG}{tc:TT}{te:TE}{N:K_}{k:Nat}{cs:J_}
theorem Inv.block{t:A_}(S:Bl X scope N k cs)(I:Inv X t σ H s)
  (f:∀b∈G,DW X t H b/\∃o,s.heap.get? b=n_ o) (P:C.os=s.os) (hg:AllBare C.gens) (E:∀b o,s.heap.get? b=n_ o->C.heap.get? b=n_ o) (hn:∃m,C.heap.Ns s.heap.objs.size m) :
  Inv (cxC X scope N s H G) [] (List.replicate k o0++Pb cs σ) H C:=by
 have A:∀{x c},(Wl X.env scope.names).lookup x=n_ c->X.env.cells.lookup x=n_ c:=λ{x c} h=>by
  rcases RQ X.env _ _ h with z|⟨z,e⟩
  .simp at z
  .obtain⟨a,ha⟩:=I.ok.has x (S.free _ z Z);rw[e,ha];rfl
 have Q:∀b,b∈G->b≠s.heap.objs.size:=λb r z=>by
  exact xa (f b r) λ_ R=>xe R λo B=>absurd (F3 B) (by rw[z];exact R6 _)
 refine⟨⟨I.ok.mod,S.kind,I.ok.glob,I.ok.blt,B8 _,λx y c K d=>I.ok.inj x y c (A K) (A d),λx hx=>?_,λx c h _=>(nomatch h),I.ok.hd,I.ok.frames,.inl Z,λb r=>⟨Q b r,λx c h=>?_⟩,I.bs,?_,λb o e r=>?_,λb r hf=>?_,I.stack,I.stkFree⟩,
  P,hg,Un.kept E,?_,λx c h=>?_,I.hok.fresh (B8 _),λx c h=>I.freeC x c (A h),λp hp=>absurd (show p∈([]:A_)from hp) B0,I.hok.kept E,?_⟩
 .exact Wk X.env _ _ (Qe S.cell hx)
 .exact(f b r).1.2.2.2.2.1 x c (A h)
 .exact C5 I.ok.bsz I.sz
 .rcases(f b r).1.2.2.2.1 with z|z
  .exact I.ok.noex b o e z
  .exact absurd (D3 (F3 e) (C5 I.ok.bsz z)) (R6 _)
 .rcases C1.mp (I.stkSub b hf)with z|z
  .exact(f b r).1.2.1 z
  .exact(f b r).1.2.2.1 z
 .obtain⟨m,hm⟩:=hn;refine xea I.loc λmo aa O=>⟨m,hm,λi x v K d h3=>?_⟩
  have hi:k<=i:=by
   by_cases z:i<k
   .rw[N5 (by simpa using z),Z1,A0g z]at d;cases d
   .exact N9 z
  obtain⟨j,rfl⟩:∃j,i=k+j:=⟨i-k,by lia⟩
  rw[L9 B0,S3,Nat.add_sub_cancel_left]at d;unfold Pb at d;rw[C0]at d;have M:j<cs.length:=by
   by_cases z:j<cs.length
   .exact z
   .rw[Q0 (N9 z)]at d;cases d
  refine AX (S.cap j M) λx' T U F=>?_;rw[show N[k+j]?=n_ x from K]at T;cases T;rw[C4 M]at d;have n:(σ[cs[j]]?).getD o0=n_ v:=A1f d;rw[D7,C4 M]at U;have h4:σ[cs[j]]?=n_ (n_ v):=by
   cases q:σ[cs[j]]? with
   |none=>rw[q]at n;cases n
   |some w=>rw[q]at n;rw[show w=n_ v from n]
  have Y:=S.free (x,.free) (A3g F) Z;refine xea (O _ x v U h4 (.inr Y)) λu ru l=>⟨u,ru,?_⟩
  rcases l with ⟨z,_⟩|⟨_,c,L,z⟩
  .have z':X.env.scope.names.lookup x=n_ .local:=z;rcases Y with q|q<;>· rw[z']at q;cases q
  .obtain⟨c',V⟩:=Wk X.env _ [] (A3g F);have W:=A V;rw[L]at W;cases W;exact xea z λo B D=>.inr ⟨Nr F,c,V,o,E _ _ B,D⟩
 .exact Cw (I.cell x c (A h)) λv o B D=>⟨v,o,E _ _ B,D⟩
 .show(List.replicate k o0++Pb cs σ).length=N.length;rw[C6,S3,S.len];unfold Pb;rw[B7]
end
structure aAj(C:Cx->Prop)(P:N_)(w:Q_)(K:O_)(tg:Expr)(J:It)(fp:H_)(it:R_)(tn:Nat->Heap->Prop):Prop where
obj:∀i h,tn i h->∀b∈fp,∃o,h.get? b=n_ o/\∀v,o.data≠.cell v
keep:∀i h h',tn i h->(∀b∈fp,∀o,h.get? b=n_ o->h'.get? b=n_ o)->tn i h'
item:∀(X:Cx),C X->X.prog=P->X.w=w->X.K=K->∀(i:Nat)(n9:A_)(s:P_)(σ:St)(H:Hp)(E:B_),Inv X n9 σ H s->(∀b∈fp,DW X n9 H b)->tn i s.heap->J.go i H ->
 wpAny (model P w) X.A (pyNext (.ref it)) (λr s1=>∃u,r=n_ u/\wpAny (model P w) X.A (letOwnedTupleGo tg (.ref it) u) (λ_ s2=>∃x H',Inv X n9 σ H' s2/\Bh x u/\J.yld i H x H'/\tn (i+1) s2.heap/\∀b∈fp,H' b=o0) E s1) E s
done:∀(X:Cx),C X->X.prog=P->X.w=w->X.K=K->∀(i:Nat)(n9:A_)(s:P_)(σ:St)(H:Hp)(E:B_),Inv X n9 σ H s->(∀b∈fp,DW X n9 H b)->tn i s.heap->J.stop i H ->
 wpAny (model P w) X.A (pyNext (.ref it)) (λr s1=>r=o0/\Inv X n9 σ H s1) E s
self:∀(A:Around)(i:Nat)(s:P_)(Q:B_)(E:B_),tn i s.heap->Q (.ref it) s->wpAny (model P w) A (pyIter (.ref it)) Q E s
theorem Rh.q{P:N_}{w:Q_}{K:O_}{a:Expr}{J:It}{fp:H_}{it:R_}{b:Nat->Heap->Prop}(T:Rh P w K a J fp it b):aAj (λX=>X.calm=o4) P w K a J fp it b :=
 ⟨T.obj,T.keep,λX c p w k=>T.item X p w k c,λX c p w k=>T.done X p w k c,T.self⟩
section
variable{X:Cx}{tg iter elt:Expr}{ifs:List Expr}{scope:Scope}{pos:Pos}{wi:TI}{g:TG}{tc:TT}{te:TE}{N:K_}{k:Nat}{cs:J_}{fin:List V->Hp->Prop}
theorem Zt(hc:∀s H ex,Cq (cxC X scope N s H ex))(S:Bl X scope N k cs)
  (hg:∀s H ex,PG (cxC X scope N s H ex) tg g) (ht:∀s H ex,PTs (cxC X scope N s H ex) ifs tc) (he:∀s H ex,PE (cxC X scope N s H ex) elt te)
  (ID:Inv X l σ E sD) (hD:sD.heap.get? D=n_ {cls:=.type "list",data:=.seq ([]:F_).toArray n0}) (ag:X.s₀.heap.objs.size<=D) (fD:DW X l E D) (aj:D∉fp)
  (T:aAj Cq X.prog X.w X.K tg J fp it tn) (st:tn 0 sD.heap) (f2:∀b∈fp,DW X l E b) (a:FK k cs g tc te J σ E fin)
  (as:s1.os=sD.os) (ar:AllBare s1.gens) (hk:∀b o,sD.heap.get? b=n_ o->s1.heap.get? b=n_ o) (hn:∃m,s1.heap.Ns sD.heap.objs.size m)
  (aq:∀(B:Hp)(d:List V)(Y:P_),fin d B->B D=o0->Inv X l σ (upd B D (.lst d)) Y->(∃m,Y.heap.Ns sD.heap.objs.size m)->DW X l (upd B D (.lst d)) sD.heap.objs.size->RR (.ok .next) Y) :
  codeAny (model X.prog X.w) X.A (.compLoop (.ListComp elt [⟨tg,iter,ifs,0⟩] scope pos) 0 (.ref it) (.ref D) (compEnvC scope (Wl X.env scope.names) sD.heap.objs.size X.env)) RR s1:=by
 obtain⟨W,⟨m0,w0⟩,turn⟩:=a;have U:∀b,b∈D::fp->∃o,sD.heap.get? b=n_ o:=λb a=>by
  rcases C1.mp a with rfl|z
  .exact⟨_,hD⟩
  .exact xea (T.obj _ _ st b z) λo e _=>⟨o,e⟩
 have t:∀b∈D::fp,DW X l E b/\∃o,sD.heap.get? b=n_ o:=λb a=>⟨by
  rcases C1.mp a with rfl|z
  .exact fD
  .exact f2 b z,U b a⟩
 have Q:∀b,b∈D::fp->b≠sD.heap.objs.size:=λb a z=>by
  obtain⟨o,e⟩:=U b a;exact absurd (F3 e) (by rw[z];exact R6 _)
 have ak:∀b,b∈D::fp->b∉frs X.stack:=λb a hf=>by
  rcases C1.mp (ID.stkSub b hf)with z|z
  .exact(t b a).1.2.1 z
  .exact(t b a).1.2.2.1 z
 have I0:=ID.block S t as ar hk hn;have ac:=I0.ok;have I:∀b,b∈D::fp->∀x c,(Wl X.env scope.names).lookup x=n_ c->c≠b:=λb a x c h=>(ac.exf b a).2 x c h;have L:∀{B:Hp}{pl:A_},(∀b∈fp,B b=o0)->(∀p∈pl,p.1=D)->∀b∈fp,DW (cxC X scope N sD E (D::fp)) pl B b:=λhn G b a =>
  ⟨hn b a,Q b (.tail _ a),ak b (.tail _ a),.inl (.tail _ a),I b (.tail _ a),λp au z=>aj (by
   have:=G p au;rw[<-this,z];exact a)⟩
 refine UX (λn O=>∃(i:Nat)(d:List V)(f:F_)(P:Nat)(B:Hp),Inv (cxC X scope N sD E (D::fp)) [] (List.replicate k o0++Pb cs σ) B O/\tn i O.heap/\(∀b∈fp,B b=o0)/\B D=o0/\d.length<=sizeLine/\AU d f /\
  O.heap.get? D=n_ {cls:=.type "list",data:=.seq f.toArray P}/\W i n d B) ?_ m0
  ⟨0,[],[],n0,E,I0,T.keep _ _ _ st (λb _ o e=>hk b o e),λb a=>(f2 b a).1,fD.1,M7 _,.nil,hk _ _ hD,w0⟩
 intro n s3 az;refine xe5 az λi d f P H3 ax=>xa5 ax λI3 al af aa ai ay=>xa2 ay λv3 e3 w3=>?_;have ad:Inv (cxC X scope N sD E (D::fp)) [(D,{cls:=.type "list",data:=.seq f.toArray P})] (List.replicate k o0++Pb cs σ) H3 s3:=I3.pins_of λp G=>by
  rw[D4]at G;subst G;exact⟨e3,aa,Q D (.head _),ak D (.head _),λv z=>by cases z⟩
 have one:∀p∈[((D,{cls:=.type "list",data:=.seq f.toArray P}):Addr×Obj)],p.1=D:=λp G=>by
  rw[D4]at G;subst G;rfl
 rcases turn i n d H3 w3 with ⟨am,qf⟩|⟨go,Nx,ah,step⟩
 .refine thn (T.done (cxC X scope N sD E (D::fp)) (hc _ _ _) Z Z Z i _ s3 _ H3 _ ad (L af one) al am) λr Y M=>?_;obtain⟨hr,I4⟩:=M;subst hr;have IX:Inv X l σ H3 Y:=ID.call' (ch:=D::fp) I4.os I4.n8 I4.hok I4.bare λb a=>⟨(t b a).1.2.2.2.1,(t b a).1.2.1,(t b a).1.2.2.2.2.1,(t b a).1.2.2.2.2.2⟩
  have p4:=(I4.pin (D,{cls:=.type "list",data:=.seq f.toArray P}) (by show _∈[]++[_];simp)).1;have IY:Inv X l σ (upd H3 D (.lst d)) Y:=by
   refine IX.track aa (R0 ag) (R0 (C5 ID.ok.bsz ag)) (A1a fD.2.1) fD.2.2.2.2.1 fD.2.2.2.2.2 (λb a z=>fD.2.2.1 (z▸a)) ?_;exact⟨ai,f,P,v3,p4⟩
  refine aq H3 d Y qf aa IY ?_ (ID.fpOk (B8 _) ?_)
  .exact xea I4.loc λm hm _=>⟨m,hm⟩
  .rw[Ax (A1a (Q D (.head _)))];exact I4.free
 .refine thn (T.item (cxC X scope N sD E (D::fp)) (hc _ _ _) Z Z Z i _ s3 _ H3 (λ_ _=>False) ad (L af one) al go) λr Y M=>xea M λu hr h4=>?_;subst hr;refine thn h4 λ_ s5 M=>Dx M λx H5 I5 r5 y5 ab ao=>thn (hg sD E (D::fp) _ s5 _ H5 x u _ (I5.pinned (L ao one) (T.obj _ _ ab)) r5 (step x H5 y5)) λ_ s6 M=>?_;obtain⟨R,H6,I6,⟨ts,tl,ae⟩,av,q6⟩:=M;refine thn (ht sD E (D::fp) _ s6 R H6 _ I6 q6) λb s7 M=>xea M λH7 I7 q7=>?_;have weak:∀{pl:A_}{B:Hp}{O:P_},Inv (cxC X scope N sD E (D::fp)) pl R B O->Inv (cxC X scope N sD E (D::fp)) [] (List.replicate k o0++Pb cs σ) B O:=λ{pl B O} J=>by
   refine(J.weak (σ':=List.replicate k o0++Pb cs σ) ?_ λj v e=>?_).pins_of λp G=>absurd G B0
   .rw[ae,C6,C6,S3,tl]
   .by_cases z:j<k
    .rw[N5 (by simpa using z),Z1,A0g z]at e;cases e
    .rw[L9 (by rw[S3];exact N9 z),S3]at e;rw[ae,L9 A3,tl];exact e
  have C:∀{pl:A_}{σ':St}{B:Hp}{O:P_},Inv (cxC X scope N sD E (D::fp)) (pl++Oh fp s5.heap) σ' B O->tn (i+1) O.heap/\∀b∈fp,B b=o0:=λ{pl σ' B O} J =>
   ⟨T.keep _ _ _ ab λb a o e=>(J.pin (b,o) (M6 _ (M6 _ (JJ a e)))).1,λb a=>by
    exact xea (T.obj _ _ ab b a) λo e _=>(J.pin (b,o) (M6 _ (M6 _ (JJ a e)))).2.1⟩
  cases b with
  |false =>
   have aw:Nx d H7:=by simpa using q7
   refine xea (ah _ _ aw) λm' hm w7=>?_;rw[A0d F1];have p7:=I7.pin (D,{cls:=.type "list",data:=.seq f.toArray P}) (M6 _ (V8 _ (D4.mpr Z)));exact⟨m',hm,i+1,d,f,P,H7,weak I7,(C I7).1,(C I7).2,p7.2.1,ai,v3,p7.1,w7⟩
  |true =>
   rw[A0g rfl]at q7;rw[A0g rfl];refine thn (he sD E (D::fp) _ s7 R H7 _ I7 q7) λy s8 M=>AS M λv H8 I8 r8 q8=>xea (ah _ _ q8) λm' hm w8=>?_;have p8:=I8.pin (D,{cls:=.type "list",data:=.seq f.toArray P}) (M6 _ (V8 _ (D4.mpr Z)));have a0:=v3.length;refine A6g F.slot_list_append ⟨_,p8.1,Z⟩ F.entry_list_append (F.args_list_append_2 _ _) (PySem.list_append D f.toArray P y (by rw[F4];lia)) ⟨p8.1,?_⟩;have q:=PySem.IsL.update p8.1 (·.push y);have eq:f.toArray.push y=(f++[y]).toArray:=by simp
   dsimp only at q;rw[eq]at q;have an:Inv (cxC X scope N sD E (D::fp)) ([]++Oh fp s5.heap) R H8 s8:=I8.pins_of λp G=>I8.pin p (M6 _ (M6 _ G));have I9:=an.turned (t':=s8.toks) (it:=D) (h':=s8.heap.update D (Obj.mapSeq (·.push y))) (λb o a e=>(Z7 s8.heap (Obj.mapSeq (·.push y)) (A1a a)).trans e) p8.2.1 (Q D (.head _)) (.inl (.head _)) (I D (.head _))
    (λp G z=>aj (by
     have:=(Ry (fp:=fp) (h:=s5.heap) (p:=p) (by simpa[cxC] using G)).1;rw[z]at this;exact this))
   refine⟨m',hm,i+1,d++[v],f++[y],_,H8,weak I9,(C I9).1,(C I9).2,p8.2.1,?_,v3.append (.cons r8 .nil),q,w8⟩;rw[C6,T8];exact Y5 av
theorem QH{i:A_}{σ:St}{B:Hp}{a:P_}{it:R_}{fp:H_}{L:Nat->Heap->Prop}{J:It}{RR:Value->Addr->Result->Shared->Prop}{E:B_}{Cq:Cx->Prop}(R:∀s H q,Cq (cxC X scope N s H q))(S:Bl X scope N k cs)
  (W:∀s H q,PG (cxC X scope N s H q) tg g) (Y:∀s H q,PTs (cxC X scope N s H q) ifs tc) (U:∀s H q,PE (cxC X scope N s H q) elt te)
  (t:Inv X i σ B a) (T:aAj Cq X.prog X.w X.K tg J fp it L) (st:L 0 a.heap) (O:∀b∈fp,DW X i B b) (Q:FK k cs g tc te J σ B fin)
  (F:∀(D C:R_)(r:Hp)(c:List V)(u:P_),fin c r->r D=o0->Inv X i σ (upd r D (.lst c)) u->(∃m,u.heap.Ns C m)->DW X i (upd r D (.lst c)) C->RR (.ref D) C (.ok .next) u) :
  wpAny (model X.prog X.w) X.A (newList []) (λc d=>wpAny (model X.prog X.w) X.A (newFunctionEnv scope X.env.globals (Wl X.env scope.names) [] X.env.qual o0 .none (n_ X.env)) (λl x =>
   codeAny (model X.prog X.w) X.A (.compStart (.ListComp elt [⟨tg,iter,ifs,0⟩] scope pos) 0 (.ref it) c {l with scope:=relabel scope X.env}) (RR c l.locals) x) E d) E a:=by
 refine A5g (wpAny_newFunctionEnv S.cell (by intro y hy;simp at hy) (λn f h=>?_) S.kind);dsimp only at f h⊢;have j:∀b o,a.heap.get? b=n_ o->(a.heap.push {cls:=.type "list",dict:=o0,data:=.seq ([]:F_).toArray}).get? b=n_ o:=λb o e=>C3 _ e;have M:=t.kept (t':=a.toks) j;have P:(a.heap.push {cls:=.type "list",dict:=o0,data:=.seq ([]:F_).toArray}).get? a.heap.objs.size=n_ {cls:=.type "list",data:=.seq ([]:F_).toArray}:=F2 _ Z;have G:a.heap.objs.size∉fp:=λz=>by
  exact xea (T.obj _ _ st _ z) λo e _=>absurd (F3 e) (R6 _)
 have v:=T.keep _ _ _ st λb _ o e=>j b o e;have I:∀b o,(a.heap.push {cls:=.type "list",dict:=o0,data:=.seq ([]:F_).toArray}).get? b=n_ o->n.get? b=n_ o:=λb o e=>h.extBut b o (L8 (F3 e)) (C3 _ e);have p:∀d:Shared,d={a with heap:=n,toks:=a.toks+([]:List (Str×Value)).length} ->
   codeAny (model X.prog X.w) X.A (.compLoop (.ListComp elt [⟨tg,iter,ifs,0⟩] scope pos) 0 (.ref it) (.ref a.heap.objs.size) (compEnvC scope (Wl X.env scope.names) (a.heap.push {cls:=.type "list",dict:=o0,data:=.seq ([]:F_).toArray}).objs.size X.env))
    (RR (.ref a.heap.objs.size) (a.heap.push {cls:=.type "list",dict:=o0,data:=.seq ([]:F_).toArray}).objs.size) d:=by
  rintro d rfl;exact Zt (sD:={a with heap:=a.heap.push {cls:=.type "list",dict:=o0,data:=.seq ([]:F_).toArray} }) R S W Y U M P t.sz (t.fpOk (B8 _) t.fresh) G T v O Q Z t.bare I ⟨_,f⟩ λr c u=>F _ _ r c u
 exact codeAny_compStart_list (p _ Z) (T.self _ 0 _ _ _ (T.keep _ _ _ v λb _ o e=>I b o e) (p _ Z))
theorem BT(E:X.calm=o4)(S:Bl X scope N k cs)(L:PI X tg iter wi)(K:∀s H d,PG (cxC X scope N s H d) tg g)(R:∀s H d,PTs (cxC X scope N s H d) ifs tc)(F:∀s H d,PE (cxC X scope N s H d) elt te)
  (P:∀x,foldedSetIterable iter X.env x=pure x:=by intro _;rfl):PE X (.ListComp elt [⟨tg,iter,ifs,0⟩] scope pos) (aHt k cs wi g tc te):=by
 intro a s σ H Q I h;rw[eval_ListComp];refine wpAny_comprehension_free (use:=o0) Z P (QI λy U G=>I.ok.has _ (S.free y U G)) S.kind S.names (thn (L a s σ H _ I h) λv s1 B=>thn B λV s2 p=>?_);refine xe5 p λit fp tn J H2 i=>xa5 i λj t T n z l=>?_;clear i;clear p;subst j;refine QH (RR:=λc C=>compPost (model X.prog X.w) X.A X.xe o0 (EP X a σ Q) c C) (Cq:=λX=>X.calm=o4) (λ_ _ _=>E) S K R F t T.q n z l λD C r c s4 Y W u O f=>?_;obtain⟨m,M⟩:=O;refine⟨m,M,λh' sb=>⟨.ref D,upd r D (.lst c),?_,Z,Y D W⟩⟩;exact u.turned (t':=s4.toks) (it:=C) (λb o l e=>(sb.2 b l).trans e) f.1 f.2.1 f.2.2.2.1 f.2.2.2.2.1 f.2.2.2.2.2
def ZM(i k:Nat)(cs:J_)(wi:TI)(g:TG)(tc:TT)(te:TE):TS:=λD σ H=>wi σ H λJ H1=>FK k cs g tc te J σ H1 λacc H2=>∀p,H2 p=o0->D.nx (σ.set i (n_ (.ref p))) (upd H2 p (.lst acc))
theorem Eg{l d:Pos}(hc:X.calm=o4)(hN:X.N.Nodup)(E:X.N[i]?=n_ y)(r:X.env.scope.names.lookup y=n_ .local)(S:Bl X scope N k cs)(hi:PI X tg iter wi)
  (hg:∀s H n,PG (cxC X scope N s H n) tg g) (ht:∀s H n,PTs (cxC X scope N s H n) ifs tc) (he:∀s H n,PE (cxC X scope N s H n) elt te)
  (G:swapsWith (.ListComp elt [⟨tg,iter,ifs,0⟩] scope pos) (n_ (.Name y l)) d.line X.env=pure o4:=by rfl) (hs:∀x,foldedSetIterable iter X.env x=pure x:=by intro _;rfl) :
  PS X (.Assign [.Name y l] (.ListComp elt [⟨tg,iter,ifs,0⟩] scope pos) d) (ZM i k cs wi g tc te):=by
 intro c s σ H D I h;rw[exec_Assign_Name_used _ _ _ _ G];refine A0c (B0a (A0c ?_));show wpAny _ X.A (do let _ <-comprehension (.ListComp elt [⟨tg,iter,ifs,0⟩] scope pos) scope X.env _ (newList []) o5 (eval iter X.env) (n_ (assign (.Name y l) X.env))) _ _ s;refine A0c (A3d (wpAny_comprehension_free (use:=n_ (assign (.Name y l) X.env)) (Q:=λ_ t=>SP X c D .next t) Z hs (QI λy r hf=>I.ok.has _ (S.free y r hf)) S.kind S.names
  (thn (hi c s σ H _ I h) λv s1 h1=>thn h1 λaa s2 P=>?_)) (λ_ t hq=>A0h (A0h hq)) λ_ _ e=>e)
 refine xe5 P λit fp tn J H2 p=>xa5 p λu U T O Y B=>?_;clear p;clear P;subst u;refine QH (RR:=λf C=>compPost (model X.prog X.w) X.A X.xe (n_ (assign (.Name y l) X.env)) (λ_ t=>SP X c D .next t) f C) (Cq:=λX=>X.calm=o4) (λ_ _ _=>hc) S hg ht he U T.q O Y B λL C R f s4 qf nD V hn j=>?_;obtain⟨m,hm⟩:=hn;show wpAny _ X.A (assign (.Name y l) X.env (.ref L)) _ _ _;refine wpAny_assign_Name (Rt V hN E (.inl r) (v:=.ref L) Z (λs5 W F=>?_) (.inr r));refine xea F λa sb ha=>?_;have K:C≠a:=by
  rcases ha with z|z
  .rw[z];exact j.2.1
  .exact λq=>j.2.2.2.2.1 y a z q.symm
 refine⟨m,hm.sameBut sb K,λh' M=>⟨σ.set i (n_ (.ref L)),upd R L (.lst f),?_,qf L nD⟩⟩;exact W.turned (t':=s5.toks) (it:=C) (λb o B e=>(M.2 b B).trans e) j.1 j.2.1 j.2.2.2.1 j.2.2.2.2.1 j.2.2.2.2.2
end
section
variable{K:O_}{k:Nat}{cs:J_}{g:TG}{tc:TT}{te:TE}{σ:St}{H:Hp}{fin:List V->Hp->Prop}
abbrev Bt(k:Nat)(cs:J_)(g:TG)(tc:TT)(te:TE)(σ:St)(x:V)(acc:List V)(H:Hp)(Nx:List V->Hp->Prop):Prop :=
 g x (List.replicate k o0++Pb cs σ) H fun σ2 H2=>(∃ts:St,ts.length=k/\σ2=ts++Pb cs σ)/\acc.length<sizeLine/\tc σ2 H2 λb H3=>if b=o4 then te σ2 H3 λv H4=>Nx (acc++[v]) H4 else Nx acc H3
theorem CT(c:Nat->List V->Hp->Prop)(n:c 0 [] H)(s:∀i b H,i<=xs.length->c i b H->SqL K H a xs)
  (t:∀i x b H,xs[i]?=n_ x->c i b H->Bt k cs g tc te σ x b H (c (i+1))) (o:∀b H,c xs.length b H->fin b H):FK k cs g tc te (Itl K a) σ H fin:=by
 refine⟨λi m b H=>m=xs.length-i/\i<=xs.length/\c i b H,⟨xs.length,by simp,M7 _,n⟩,?_⟩;intro i m b H f;refine xa2 f λh r p=>?_;clear f;subst h;have q:=s i b H r p;by_cases d:i<xs.length
 .refine .inr ⟨⟨xs,xs[i],q,by simp[d]⟩,c (i+1),λj l u=>⟨xs.length-(i+1),by lia,Z,d,u⟩,λx l y=>?_⟩;obtain⟨e,y⟩:=y;subst e;exact t i x b _ (y xs q) p
 .have e:i=xs.length:=by lia
  subst e;exact .inl ⟨⟨xs,q,B8 _⟩,o b H p⟩
theorem Tq(c:Nat->List V->Hp->Prop)(n:c 0 [] H)(s:∀i b H,i<=xs.length->c i b H->SqT K H a xs)
  (t:∀i x b H,xs[i]?=n_ x->c i b H->Bt k cs g tc te σ x b H (c (i+1))) (o:∀b H,c xs.length b H->fin b H):FK k cs g tc te (Itt K a) σ H fin:=by
 refine⟨λi m b H=>m=xs.length-i/\i<=xs.length/\c i b H,⟨xs.length,by simp,M7 _,n⟩,?_⟩;intro i m b H f;refine xa2 f λh r p=>?_;clear f;subst h;have q:=s i b H r p;by_cases d:i<xs.length
 .refine .inr ⟨⟨xs,xs[i],q,by simp[d]⟩,c (i+1),λj l u=>⟨xs.length-(i+1),by lia,Z,d,u⟩,λx l y=>?_⟩;obtain⟨e,y⟩:=y;subst e;exact t i x b _ (y xs q) p
 .have e:i=xs.length:=by lia
  subst e;exact .inl ⟨⟨xs,q,B8 _⟩,o b H p⟩
theorem OE{lo:Int}{n:Nat}(c:Nat->List V->Hp->Prop)(l:c 0 [] H)(q:∀i a H,i<n->c i a H->Bt k cs g tc te σ (.int (lo+i)) a H (c (i+1)))(o:∀a H,c n a H->fin a H):FK k cs g tc te (Itr lo n) σ H fin:=by
 refine⟨λi m a H=>m=n-i/\i<=n/\c i a H,⟨n,by simp,M7 _,l⟩,?_⟩;intro i m a H d;refine xa2 d λf s p=>?_;clear d;subst f;by_cases b:i<n
 .refine .inr ⟨b,c (i+1),λh j r=>⟨n-(i+1),by lia,Z,b,r⟩,λx j y=>?_⟩;obtain⟨e,y⟩:=y;subst e y;exact q i a _ b p
 .have e:i=n:=by lia
  subst e;exact .inl ⟨B8 _,o a H p⟩
end
section
variable{prog:N_}{w:Q_}{A:Around}{E:B_}{s:P_}
theorem ND{I t:R_}{k:Nat}(c:s.heap.IsTupleIter I t k)(i:s.heap.IsTuple t vs)(j:vs[k]?=n_ v)
  (q:∀g,g.IsTupleIter I t (k+1)->Heap.SameBut I s.heap g->Q v {s with heap:=g}):wpAny (model prog w) A (Builtin.SmallTypes.nextOf (.ref I)) Q E s:=by
 refine AX (id c) λm b e a=>AX i λn h _ d=>xe d λl f=>?_;unfold Builtin.SmallTypes.nextOf;refine A0c (wpAny_callSpecial?_slot (name:=Str.ofString "__next__") c.typeIs A6a (A4d A6a c.typeIs F.entry_tuple_iterator_next ?_ (F.args_tuple_iterator_next_1 _)));show wpAny _ _ (field (.ref I) 0 >>= _) _ _ s;refine A0c (A4c b a (x:=.ref t) Z ?_);show wpAny _ _ (if(Value.ref t==Value.none)=o4 then _ else _) _ _ s;rw[A0d (λz:(Value.ref t==Value.none)=o4=>F1 z)];show wpAny _ _ (field (.ref I) 1 >>= _) _ _ s;refine A0c (A4c b a (x:=.int k 0) Z ?_);show wpAny _ _ (seqItems? (.ref t) >>= _) _ _ s;refine A0c (A4e h f ?_);simp only[M4,j];refine A0c (A9e b a B0 (A0h ⟨v,Z,A0h (q _ ?_ (A7e ..))⟩));exact⟨_,X5 _ b (Obj.isFreed_of_fields (A7h a _)),(Obj.cls_mapFields ..).trans e,by rw[A7h a];simp[rawInt]⟩
theorem Op{I t:R_}{k:Nat}(h:A.handled=o0)(d:s.heap.IsTupleIter I t k)(l:s.heap.IsTuple t vs)(n:vs[k]?=o0)
  (q:∀g e,Heap.ExtBut I s.heap g->(∃o,g.get? e=n_ o/\o.cls=.type "StopIteration")->E (.ref e) {s with heap:=g}):wpAny (model prog w) A (Builtin.SmallTypes.nextOf (.ref I)) Q E s:=by
 refine AX (id d) λu c p b=>AX l λv j _ f=>xe f λr i=>?_;unfold Builtin.SmallTypes.nextOf;refine A0c (wpAny_callSpecial?_slot (name:=Str.ofString "__next__") d.typeIs A6a (A4d A6a d.typeIs F.entry_tuple_iterator_next ?_ (F.args_tuple_iterator_next_1 _)));show wpAny _ _ (field (.ref I) 0 >>= _) _ _ s;refine A0c (A4c c b (x:=.ref t) Z ?_);show wpAny _ _ (if(Value.ref t==Value.none)=o4 then _ else _) _ _ s;rw[A0d (λz:(Value.ref t==Value.none)=o4=>F1 z)];show wpAny _ _ (field (.ref I) 1 >>= _) _ _ s;refine A0c (A4c c b (x:=.int k 0) Z ?_);show wpAny _ _ (seqItems? (.ref t) >>= _) _ _ s;refine A0c (A4e j i ?_);simp only[M4,n];refine A0c (wpAny_rule (A0c (A9e c b B0 ?_)));show wpAny _ _ (newExc (.type "StopIteration") [] >>= _) _ _ _;refine A0c ?_;simp only[newExc,newTuple];refine A0c (A5g ?_ (by size_fits));refine A0c (m:=firstArgMember _ _) (wpAny_of_eq (a:=Value.none) (by first|rfl|(simp only[firstArgMember];rfl)) (A5g ?_ (by size_fits)));simp only[raiseNew];refine A0c (wpAny_handled ?_)
 first|rw[show A.in1.handled=o0 from h]|rw[h]
 refine A0c (A0h (wpAny_throw (q _ _ (((A7e ..).extBut.push _).push _) ⟨_,F2 _ Z,Z⟩)))
def Dv:Bool->Heap->Addr->Addr->Nat->Prop
|true,h,I,l,k=>h.IsTupleIter I l k
|false,h,I,l,k=>h.IsListIter I l k
def ES:Bool->Heap->Addr->Array Value->Prop
|true,h,l,vs=>h.IsTuple l vs
|false,h,l,vs=>h.IsList l vs
def SqX(K:O_):Bool->Hp->Addr->List V->Prop
|true,H,a,xs=>SqT K H a xs
|false,H,a,xs=>SqL K H a xs
theorem Dv.move{k:Nat}(x:Dv b h I l k)(e:∀o,h.get? I=n_ o->g.get? I=n_ o):Dv b g I l k:=by
 cases b with
 |true=>exact xea x λo a r=>⟨o,e _ a,r⟩
 |false=>exact xea x λo a r=>⟨o,e _ a,r⟩
theorem Dv.there{k:Nat}(x:Dv b h I l k):∃o,h.get? I=n_ o/\∀v,o.data≠.cell v:=by
 cases b with
 |true=>exact AX x λo a _ d=>⟨o,a,λv z=>by rw[d]at z;cases z⟩
 |false=>exact AX x λo a _ d=>⟨o,a,λv z=>by rw[d]at z;cases z⟩
theorem ES.move(x:ES b h l vs)(e:∀o,h.get? l=n_ o->g.get? l=n_ o):ES b g l vs:=by
 cases b with
 |true=>exact xea x λo a r=>⟨o,e _ a,r⟩
 |false=>exact xea x λo a r=>⟨o,e _ a,r⟩
theorem Eb{k:Nat}(a:Dv b s.heap I l k)(c:ES b s.heap l vs)(d:vs[k]?=n_ v)
  (q:∀g,Dv b g I l (k+1)->Heap.SameBut I s.heap g->Q v {s with heap:=g}):wpAny (model prog w) A (Builtin.SmallTypes.nextOf (.ref I)) Q E s:=by
 cases b with
 |true=>exact ND a c d q
 |false=>exact wpAny_nextOf_list_item a c d q
theorem GR{k:Nat}(a:A.handled=o0)(c:Dv b s.heap I l k)(d:ES b s.heap l vs)(f:vs[k]?=o0)
  (q:∀g e,Heap.ExtBut I s.heap g->(∃o,g.get? e=n_ o/\o.cls=.type "StopIteration")->E (.ref e) {s with heap:=g}):wpAny (model prog w) A (Builtin.SmallTypes.nextOf (.ref I)) Q E s:=by
 cases b with
 |true=>exact Op a c d f q
 |false=>exact wpAny_nextOf_list_end a c d f q
theorem GE(a:ES b s.heap l vs)
  (q:∀g,Dv b g s.heap.objs.size l 0->g.objs.size=s.heap.objs.size+1->(∀c o,s.heap.get? c=n_ o->g.get? c=n_ o)->Q (.ref s.heap.objs.size) {s with heap:=g}):wpAny (model prog w) A (pyIter (.ref l)) Q E s:=by
 cases b with
 |true=>exact wpAny_pyIter_tuple a (q _ ⟨_,F2 _ Z,Z,Z⟩ (S2 ..) λc o e=>C3 _ e)
 |false=>exact A7c a (q _ ⟨_,F2 _ Z,Z,Z⟩ (S2 ..) λc o e=>C3 _ e)
structure YE(z U O i j l m:R_):Prop where
nd:[z,U,O,i,j].Nodup
l:l∉[z,O,i,j]
m:m∉[z,O,i,j]
theorem Zz{b c:Bool}{z U O i j l m:R_}{k:Nat}{xs ys:M_}{x y p q:S_}{Q:B_}(D:YE z U O i j l m)(K:IsZip s.heap z U O .none)(hU:IsPair s.heap U (.ref i) (.ref j))(hO:IsPair s.heap O p q)
  (hi:Dv b s.heap i l k) (hj:Dv c s.heap j m k) (hl:ES b s.heap l xs) (hm:ES c s.heap m ys) (hx:xs[k]?=n_ x) (hy:ys[k]?=n_ y)
  (fin:∀g,IsZip g z U O (rawInt s.heap.objs.size)->IsPair g O x y->Dv b g i l (k+1)->Dv c g j m (k+1)->IsPair g s.heap.objs.size x y->g.objs.size=s.heap.objs.size+1 ->
   (∀a o,a∉[z,O,i,j]->s.heap.get? a=n_ o->g.get? a=n_ o)->Q (.ref s.heap.objs.size) {s with heap:=g}) :
  wpAny (model prog w) A (Builtin.«zip.__next__» ⟨[.ref z],[]⟩) (λr s'=>∃v,r=.done (.ret v)/\Q v s') E s:=by
 obtain⟨nd,nl,nm⟩:=D;simp only[N4,C1,D9,A2e,A7f,T3,and_true,A6d]at nd nl nm;obtain⟨⟨zU,V,zi,zj⟩,⟨UO,Ui,Uj⟩,⟨W,X⟩,ij⟩:=nd;refine xa3 nl λlz lO li lj=>xa3 nm λmz mO mi mj=>?_;show wpAny _ _ (field (.ref z) 2 >>= _) _ _ _;refine A0c (A4c K Z (x:=.bool o5) Z ?_);show wpAny _ _ (field (.ref z) 3 >>= _) _ _ _;refine A0c (A4c K Z (x:=.ref U) Z (A0c (A4e hU Z ?_)));show wpAny _ _ (Builtin.SmallTypes.ownedTupleIsFree (.ref z) >>= _) _ _ _;refine A0c ?_;unfold Builtin.SmallTypes.ownedTupleIsFree;refine A0c (A4c K Z (x:=.none) Z (A0h ?_));simp only[A7d];refine A0c (wpAny_rule (A0c (A4c K Z (x:=.ref O) Z (A0c (A5b K B0 λh1 u C=>?_)))));replace u:IsZip h1 z U O .ellipsis:=u;refine A0c ?_;simp only[List.zipIdx_cons,List.zipIdx_nil,List.forIn_cons,List.forIn_nil];refine A0c (A0c (B0b ?_));show wpAny _ _ (Builtin.SmallTypes.nextOf (.ref i) >>= _) _ _ _;refine A0c (Eb (hi.move λo e=>C.extBut _ _ (A1a zi) e) (hl.move λo e=>C.extBut _ _ lz e) hx λh2 aa F=>A0h ?_);have H:=F.extBut _ _ W (C.extBut _ _ (A1a V) hO);refine A0c (A4e H Z (A0c (A9f H λh3 t G=>?_)));replace t:IsPair h3 O x q:=t;refine A0c (wpAny_letGo (A0h (A0c (A0c (B0b ?_)))));show wpAny _ _ (Builtin.SmallTypes.nextOf (.ref j) >>= _) _ _ _;refine A0c (Eb (hj.move λo e=>G.extBut _ _ (A1a X) (F.extBut _ _ (A1a ij) (C.extBut _ _ (A1a zj) e))) (hm.move λo e=>G.extBut _ _ mO (F.extBut _ _ mi (C.extBut _ _ mz e))) hy λh4 ac M=>A0h ?_);have I:=M.extBut _ _ X t;refine A0c (A4e I Z (A0c (A9f I λd h N=>?_)));replace h:IsPair d O x y:=h;refine A0c (wpAny_letGo (A0h (A0h (A0c (A4e h Z (A0c (wpAny_newTuple ?_)))))));have sz:d.objs.size=s.heap.objs.size:=by rw[N.1,M.1,G.1,F.1,C.1]
 have L:=N.extBut _ _ V (M.extBut _ _ zj (G.extBut _ _ V (F.extBut _ _ zi u)));have kp:∀a o,a∉[z,O,i,j]->s.heap.get? a=n_ o->d.get? a=n_ o:=λa o f e=>by
  simp only[C1,D9,A2e,A7f]at f;exact N.extBut _ _ f.2.1 (M.extBut _ _ f.2.2.2 (G.extBut _ _ f.2.1 (F.extBut _ _ f.2.2.1 (C.extBut _ _ f.1 e))))
 have ab:=aa.move λo e=>N.extBut _ _ (A1a W) (M.extBut _ _ ij (G.extBut _ _ (A1a W) e));have ad:=ac.move λo e=>N.extBut _ _ (A1a X) e;have R:=F3 L;show wpAny _ _ (Builtin.SmallTypes.ownedTupleHandOut (.ref z) (.ref d.objs.size) >>= _) _ _ _;refine A0c ?_;unfold Builtin.SmallTypes.ownedTupleHandOut;have Y:IsZip (d.push {cls:=.type "tuple",data:=.seq #[x,y]}) z U O .ellipsis:=C3 _ L;refine A0c (A5b Y B0 λh7 B s7=>?_);replace B:IsZip h7 z U O (rawInt d.objs.size):=B;refine A5b B B0 λS n s8=>?_;replace n:IsZip S z U O (rawInt d.objs.size):=n;have T:∀a o,a≠z->d.get? a=n_ o->S.get? a=n_ o:=λa o na e=>s8.extBut _ _ na (s7.extBut _ _ na (C3 _ e));have hT:=s8.extBut _ _ (W3 R) (s7.extBut _ _ (W3 R) (F2 _ Z));have P:S.objs.size=d.objs.size+1:=by rw[s8.1,s7.1,S2]
 rw[sz]at n hT P;refine A0h ⟨_,Z,?_⟩;show Q (.ref d.objs.size) _;rw[sz];refine fin S n (T _ _ (A1a V) h) (ab.move λo e=>T _ o (A1a zi) e) (ad.move λo e=>T _ o (A1a zj) e) hT P λa o f e=>T a o ?_ (kp a o f e);simp only[C1,D9,A2e,A7f]at f;exact f.1
theorem Zy{b c:Bool}{z U O i j l m:R_}{k:Nat}{p q:S_}(R:A.handled=o0)(D:YE z U O i j l m)(C:IsZip s.heap z U O .none)(hU:IsPair s.heap U (.ref i) (.ref j))(hO:IsPair s.heap O p q)
  (S:Dv b s.heap i l k) (hj:Dv c s.heap j m k) (T:ES b s.heap l xs) (hm:ES c s.heap m ys) (H:xs[k]?=o0\/ys[k]?=o0)
  (fin:∀g e,(∀a o,a∉[z,O,i,j]->s.heap.get? a=n_ o->g.get? a=n_ o)->(∃o,g.get? e=n_ o/\o.cls=.type "StopIteration")->E (.ref e) {s with heap:=g}) :
  wpAny (model prog w) A (Builtin.«zip.__next__» ⟨[.ref z],[]⟩) Q E s:=by
 obtain⟨W,nl,nm⟩:=D;simp only[N4,C1,D9,A2e,A7f,T3,and_true,A6d]at W nl nm;obtain⟨⟨zU,zO,I,zj⟩,⟨UO,Ui,Uj⟩,⟨Oi,Oj⟩,ij⟩:=W;refine xa3 nl λV lO li lj=>xa3 nm λmz mO mi mj=>?_;show wpAny _ _ (field (.ref z) 2 >>= _) _ _ _;refine A0c (A4c C Z (x:=.bool o5) Z ?_);show wpAny _ _ (field (.ref z) 3 >>= _) _ _ _;refine A0c (A4c C Z (x:=.ref U) Z (A0c (A4e hU Z ?_)));show wpAny _ _ (Builtin.SmallTypes.ownedTupleIsFree (.ref z) >>= _) _ _ _;refine A0c ?_;unfold Builtin.SmallTypes.ownedTupleIsFree;refine A0c (A4c C Z (x:=.none) Z (A0h ?_));simp only[A7d];refine A0c (wpAny_rule (A0c (A4c C Z (x:=.ref O) Z (A0c (A5b C B0 λh1 r u=>?_)))));replace r:IsZip h1 z U O .ellipsis:=r;refine A0c ?_;simp only[List.zipIdx_cons,List.zipIdx_nil,List.forIn_cons,List.forIn_nil];refine A0c (A0c (B0b ?_));show wpAny _ _ (Builtin.SmallTypes.nextOf (.ref i) >>= _) _ _ _;have d:∀{a:R_},a∉[z,O,i,j]->a≠z/\a≠O/\a≠i/\a≠j:=λh=>by simpa only[C1,D9,A2e,A7f] using h
 cases M:xs[k]? with
 |none =>
  refine A0c (GR R (S.move λo e=>u.extBut _ _ (A1a I) e) (T.move λo e=>u.extBut _ _ V e) M λh2 e v L=>?_);refine xea L λN f n=>?_;have F:=v _ _ I r;have K:e≠z:=λt=>by subst t;rw[F]at f;cases f;simp at n
  exact A5b F B0 λP _ y=>fin P e (λa o h t=>y.extBut _ _ (d h).1 (v _ _ (d h).2.2.1 (u.extBut _ _ (d h).1 t))) ⟨N,y.extBut _ _ K f,n⟩
 |some x =>
  have hy:ys[k]?=o0:=by
   rcases H with t|t
   .rw[M]at t;cases t
   .exact t
  refine A0c (Eb (S.move λo e=>u.extBut _ _ (A1a I) e) (T.move λo e=>u.extBut _ _ V e) M λh2 ab v=>A0h ?_);have B:=v.extBut _ _ Oi (u.extBut _ _ (A1a zO) hO);refine A0c (A4e B Z (A0c (A9f B λP aa y=>?_)));refine A0c (wpAny_letGo (A0h (A0c (A0c (B0b ?_)))));show wpAny _ _ (Builtin.SmallTypes.nextOf (.ref j) >>= _) _ _ _;refine A0c (GR R (hj.move λo e=>y.extBut _ _ (A1a Oj) (v.extBut _ _ (A1a ij) (u.extBut _ _ (A1a zj) e))) (hm.move λo e=>y.extBut _ _ mO (v.extBut _ _ mi (u.extBut _ _ mz e))) hy λh4 e X L=>?_);refine xea L λN f n=>?_;have G:=X _ _ zj (y.extBut _ _ zO (v.extBut _ _ I r));have K:e≠z:=λt=>by subst t;rw[G]at f;cases f;simp at n
  exact A5b G B0 λh5 _ Y=>fin h5 e (λa o h t=>Y.extBut _ _ (d h).1 (X _ _ (d h).2.2.2 (y.extBut _ _ (d h).2.1 (v.extBut _ _ (d h).2.2.1 (u.extBut _ _ (d h).1 t))))) ⟨N,Y.extBut _ _ K f,n⟩
theorem ZA(b:T_)(n:Nat)(d:b.objs.size=n+2)(i j:S_):∃c,c=((b.push {cls:=.type "tuple",data:=.seq #[i,j]}).push {cls:=.type "tuple",data:=.seq #[.none,.none]}).push
   {cls:=.type "zip",data:=.fields #[.none,.bool o5,.bool o5,.ref b.objs.size,.ref (b.push {cls:=.type "tuple",data:=.seq #[i,j]}).objs.size]} /\
  IsZip c (n+4) (n+2) (n+3) .none/\IsPair c (n+2) i j/\IsPair c (n+3) .none .none/\(∀a o,b.get? a=n_ o->c.get? a=n_ o) /\
  ((b.push {cls:=.type "tuple",data:=.seq #[i,j]}).push {cls:=.type "tuple",data:=.seq #[.none,.none]}).objs.size=n+4:=by
 have f:(b.push {cls:=.type "tuple",data:=.seq #[i,j]}).objs.size=n+3:=by rw[S2,d]
 have g:((b.push {cls:=.type "tuple",data:=.seq #[i,j]}).push {cls:=.type "tuple",data:=.seq #[.none,.none]}).objs.size=n+4:=by rw[S2,f]
 refine⟨_,Z,?_,?_,?_,λa o e=>C3 _ (C3 _ (C3 _ e)),g⟩
 .have q:=F2 ((b.push {cls:=.type "tuple",data:=.seq #[i,j]}).push {cls:=.type "tuple",data:=.seq #[.none,.none]}) (o:={cls:=.type "zip",data:=.fields #[.none,.bool o5,.bool o5,.ref b.objs.size,.ref (b.push {cls:=.type "tuple",data:=.seq #[i,j]}).objs.size]}) Z;rw[g]at q;show _=n_ _;rw[q,d,f]
 .have q:=C3 {cls:=.type "zip",data:=.fields #[.none,.bool o5,.bool o5,.ref b.objs.size,.ref (b.push {cls:=.type "tuple",data:=.seq #[i,j]}).objs.size]} (C3 {cls:=.type "tuple",data:=.seq #[.none,.none]} (F2 b (o:={cls:=.type "tuple",data:=.seq #[i,j]}) Z));rw[<-d];exact q
 .have q:=C3 {cls:=.type "zip",data:=.fields #[.none,.bool o5,.bool o5,.ref b.objs.size,.ref (b.push {cls:=.type "tuple",data:=.seq #[i,j]}).objs.size]} (F2 (b.push {cls:=.type "tuple",data:=.seq #[i,j]}) (o:={cls:=.type "tuple",data:=.seq #[.none,.none]}) Z);rw[<-f];exact q
theorem Zc{b c:Bool}(l m:R_)(xs ys:M_):Meets (Builtin.«zip.__new__» ⟨[.type "zip",.ref l,.ref m],[]⟩) (λ_ R s=>ES b s.heap l xs/\ES c s.heap m ys /\
   ∀g,IsZip g (s.heap.objs.size+4) (s.heap.objs.size+2) (s.heap.objs.size+3) .none->IsPair g (s.heap.objs.size+2) (.ref s.heap.objs.size) (.ref (s.heap.objs.size+1))->IsPair g (s.heap.objs.size+3) .none .none ->
    Dv b g s.heap.objs.size l 0->Dv c g (s.heap.objs.size+1) m 0->(∀a o,s.heap.get? a=n_ o->g.get? a=n_ o)->R (.ok (.ret (.ref (s.heap.objs.size+4)))) {s with heap:=g}) :=
 .of_wp λprog w A R s h=>by
  obtain⟨f,g,d,tk,N⟩:=s;refine xa2 h λF G h=>?_;have u:=sub_zip
  wp_walk using GE F
  intro r H L v
  wp_walk using GE (G.move λo e=>v _ o e)
  intro j I M x
  wp_walk
  refine⟨_,Z,?_⟩;have n:=L;have C:j.objs.size=f.objs.size+2:=by rw[show j.objs.size=r.objs.size+1 from M,n]
  obtain⟨t,D,y,z,B,q,K⟩:=ZA j f.objs.size C (.ref f.objs.size) (.ref r.objs.size);have k:IsPair t (f.objs.size+2) (.ref f.objs.size) (.ref (f.objs.size+1)):=by rw[<-n];exact z
  have p:Dv c j (f.objs.size+1) m 0:=by rw[<-n];exact I
  have i:=h t y k B ((H.move λo e=>x _ o e).move λo e=>q _ o e) (p.move λo e=>q _ o e) λa o e=>q _ _ (x _ _ (v _ _ e));dsimp only at i;rw[D,<-K]at i;exact i
theorem Inv.turnedL{X:Cx}{d:A_}{σ:St}{H:Hp}{s:P_}{g:T_}{tk:Nat}{ch:H_}(I:Inv X d σ H s)(k:∀b o,b∉ch->s.heap.get? b=n_ o->g.get? b=n_ o)(a:∀b∈ch,DW X d H b):Inv X d σ H {s with heap:=g,toks:=tk}:=by
 have h:∀b u,H b=n_ u->b∉ch:=λb u e z=>by rw[(a b z).1]at e;cases e
 refine I.step (g':=s.gens) (d':=s.drawn) (ch:=ch) (λb i=>⟨(a b i).2.2.2.1,(a b i).2.1,(a b i).2.2.2.2.1,(a b i).2.2.2.2.2⟩) (λb o _ _ f e _=>k b o f e) (λb o _ _ f e _=>⟨o.slots,k b o f e⟩) (λ_ _ _ _ n=>n)
  (λb o f e=>⟨o,k b o f e⟩) (λ_ _ e=>e) (λ_ _ _ e=>e) (λb ps e=>⟨#[],by rw[e];simp⟩) (λm t=>?_) (λb u e=>?_) I.bare
 .exact xe3 t λo p l j=>xa j λx r=>⟨o,p,l,k _ o (λz=>(a _ z).2.1 Z) x,r⟩
 .refine(I.hok b u e).stay (λc v f q=>k c v ?_ q) (λ_ q=>q) λ_ _ q=>q;rcases f with z|z
  .rw[z];exact h b u e
  .exact h c _ z
theorem Inv.pair{X:Cx}{a:A_}{σ:St}{H:Hp}{s:P_}{g:T_}{tk n:Nat}{ch:H_}{x y:V}{u v:S_}(I:Inv X a σ H s)(k:∀b o,b∉ch->s.heap.get? b=n_ o->g.get? b=n_ o)(c:∀b∈ch,DW X a H b)
  (h:Bh x u) (i:Bh y v) (e:g.get? s.heap.objs.size=n_ {cls:=.type "tuple",data:=.seq #[u,v] n}):H s.heap.objs.size=o0/\Inv X a σ (upd H s.heap.objs.size (.tup [x,y])) {s with heap:=g,toks:=tk}:=by
 have f:=I.fpOk (B8 _) I.fresh;refine⟨f.1,(I.turnedL (tk:=tk) k c).track f.1 (R0 I.sz) (R0 (C5 I.ok.bsz I.sz)) (A1a f.2.1) f.2.2.2.2.1 f.2.2.2.2.2 (λb d z=>f.2.2.1 (z▸d)) ?_⟩;exact⟨by show 2<=sizeLine;decide,[u,v],.cons h (.cons i .nil),_,e,Z,n,Z⟩
theorem Inv.sq{s:P_}(I:Inv X d σ H s)(h:SqX X.K b H a xs):∃c:List Value,AU xs c/\ES b s.heap a c.toArray:=by
 cases b with
 |true =>
  exact AX (I.tuple h) λc r p _=>⟨c,r,p⟩
 |false =>
  exact AX (I.list h) λc r p _=>⟨c,r,p.isList⟩
theorem Inv.sq_inj{c:A_}{s:P_}(I:Inv X c σ H s)(h:SqX X.K b H a xs)(h':SqX X.K b H a ys):xs=ys:=by
 cases b with
 |true=>exact I.tuple_inj h h'
 |false=>exact I.list_inj h h'
def Itz(K:O_)(b c:Bool)(l m:R_):It :=
 ⟨λi H=>∃xs ys x y,SqX K b H l xs/\SqX K c H m ys/\xs[i]?=n_ x/\ys[i]?=n_ y,
  λi H v H'=>∃(T:R_)(x y:V),v=.ref T/\H T=o0/\H'=upd H T (.tup [x,y])/\(∀xs,SqX K b H l xs->xs[i]?=n_ x)/\∀ys,SqX K c H m ys->ys[i]?=n_ y,
  λi H=>∃xs ys,SqX K b H l xs/\SqX K c H m ys/\(xs.length<=i\/ys.length<=i)⟩
def aGY(b c:Bool)(z U O i j l m:R_)(k:Nat)(h:T_):Prop:=IsZip h z U O .none/\IsPair h U (.ref i) (.ref j)/\(∃p q,IsPair h O p q)/\Dv b h i l k/\Dv c h j m k
theorem ZH{P:N_}{w:Q_}{K:O_}{es:List Expr}{n:Nat}{R:Pos}{b c:Bool}{z U O i j l m:R_}(D:YE z U O i j l m):Rh P w K (.Tuple es n R) (Itz K b c l m) [z,U,O,i,j] z (aGY b c z U O i j l m) where
 mem:=by simp
 obj:=λk h st a d=>by
  obtain⟨f,r,⟨p,q,B⟩,C,G⟩:=st;simp only[C1,D9,A2e]at d;rcases d with rfl|rfl|rfl|rfl|rfl
  .exact⟨_,f,λv t=>by cases t⟩
  .exact⟨_,r,λv t=>by cases t⟩
  .exact⟨_,B,λv t=>by cases t⟩
  .exact C.there
  .exact G.there
 keep:=λk h h' st kp=>by
  obtain⟨f,r,⟨p,q,B⟩,C,G⟩:=st;exact⟨kp z B0 _ f,kp U B0 _ r,⟨p,q,kp O B0 _ B⟩,C.move λo e=>kp i B0 o e,G.move λo e=>kp j B0 o e⟩
 item:=by
  intro X hP hw hK hc k L s σ H E I V st hg;subst hP hw hK;obtain⟨f,r,⟨p,q,B⟩,C,G⟩:=st;refine xe4 hg λxs ys x y af=>xa3 af λY sy hx hy=>xea (I.sq Y) λus ru ou=>xea (I.sq sy) λvs rv ov=>xea (ru.get hx) λu hu ad=>xea (rv.get hy) λv hv ae=>?_;have M:s.TypeIs (.ref z) "zip" := ⟨_,f,Z⟩
  unfold pyNext;refine A0c (A5f (wpAny_callSpecial?_slot (name:=Str.ofString "__next__") M A8h (A4d A8h M F.entry_zip_next (Zz D f r B C G ou ov (by simpa using hu) (by simpa using hv) λg gZ gO gi gj gT gs gk=>A0h ⟨_,Z,?_⟩) (F.args_zip_next_1 _))));refine wpAny_letOwnedTupleGo_zip (s:={s with heap:=g}) gZ λg2 ab Q=>?_;obtain⟨nd,nl,nm⟩:=D;simp only[N4,C1,D9,A2e,A7f,T3,and_true,A6d]at nd;obtain⟨⟨zU,zO,zi,zj⟩,⟨UO,Ui,Uj⟩,⟨Oi,Oj⟩,ij⟩:=nd;have S:z<s.heap.objs.size:=F3 f;have kk:∀a o,a∉[z,O,i,j]->s.heap.get? a=n_ o->g2.get? a=n_ o:=λa o d e=>(Q.2 a (λt=>d (by simp[t]))).trans (gk a o d e);have aa:∀a∈[z,O,i,j],DW X L H a:=λa d=>V a (by
   simp only[C1,D9,A2e]at d⊢;rcases d with t|t|t|t<;>simp[t])
  obtain⟨nT,J⟩:=I.pair (tk:=s.toks) kk aa ad ae ((Q.2 _ (W3 S)).trans gT);refine⟨.ref s.heap.objs.size,_,J,Z,⟨_,x,y,Z,nT,Z,λag q'=>by rw[I.sq_inj q' Y];exact hx,λah q'=>by rw[I.sq_inj q' sy];exact hy⟩,⟨ab,kk U _ ?_ r,⟨u,v,(Q.2 O (A1a zO)).trans gO⟩,gi.move λo e=>(Q.2 i (A1a zi)).trans e,gj.move λo e=>(Q.2 j (A1a zj)).trans e⟩,λa d=>?_⟩
  .simp only[C1,D9,A2e,A7f];exact⟨A1a zU,UO,Ui,Uj⟩
  .have e:=(V a d).1;have lt:a≠s.heap.objs.size:=by
    simp only[C1,D9,A2e]at d;rcases d with t|t|t|t|t<;>subst t
    .exact L8 S
    .exact L8 (F3 r)
    .exact L8 (F3 B)
    .exact xea C.there λo e _=>L8 (F3 e)
    .exact xea G.there λo e _=>L8 (F3 e)
   rw[Ax lt];exact e
 done:=by
  intro X hP hw hK hc k L s σ H E I V st hg;subst hP hw hK;obtain⟨f,r,⟨p,q,B⟩,C,G⟩:=st;refine AS hg λxs ys Y sy N=>xea (I.sq Y) λus ru ou=>xea (I.sq sy) λvs rv ov=>?_;have lu:=ru.length;have lv:=rv.length;have M:s.TypeIs (.ref z) "zip" := ⟨_,f,Z⟩
  have he:us.toArray[k]?=o0\/vs.toArray[k]?=o0:=N.imp (λt=>by simp;lia) (λt=>by simp;lia);unfold pyNext;refine A0c (A5f (wpAny_callSpecial?_slot (name:=Str.ofString "__next__") M A8h (A4d A8h M F.entry_zip_next (Zy (I.ok.hd hc) D f r B C G ou ov he λg e gk ge=>?_) (F.args_zip_next_1 _))));refine xea ge λo ho ac=>A0c (wpAny_isInstance (T:="StopIteration") (b:=o4) ⟨o,ho,ac⟩ isSubtype_stop (A0h ⟨Z,?_⟩));exact I.turnedL (tk:=s.toks) gk λa d=>V a (by
   simp only[C1,D9,A2e]at d⊢;rcases d with t|t|t|t<;>simp[t])
 self:=λ_ _ _ _ _ st h=>wpAny_pyIter_zip st.1 h
end
theorem ES.obj(x:ES b h l vs):∃o,h.get? l=n_ o:=by
 cases b with
 |true=>exact xea x λo e _=>⟨o,e⟩
 |false=>exact xea x λo e _=>⟨o,e⟩
theorem Zp(b:T_)(n:Nat)(d:b.objs.size=n+1):∃c,c=b.push {cls:=.type "enumerate",data:=.fields #[.none,.bool o5,.ref n,rawInt 0,.none,.none]}/\IsEnum c (n+1) n 0 .none/\∀a o,b.get? a=n_ o->c.get? a=n_ o:=by
 refine⟨_,Z,?_,λa o e=>C3 _ e⟩;have q:=F2 b (o:={cls:=.type "enumerate",data:=.fields #[.none,.bool o5,.ref n,rawInt 0,.none,.none]}) Z;rw[d]at q;exact q
set_option maxHeartbeats 1000000 in
theorem VY(l:R_)(xs:M_):Meets (Builtin.«enumerate.__new__» ⟨[.type "enumerate",.ref l],[]⟩) (λ_ R s=>ES b s.heap l xs /\
   ∀g,IsEnum g (s.heap.objs.size+1) s.heap.objs.size 0 .none->Dv b g s.heap.objs.size l 0->(∀a o,s.heap.get? a=n_ o->g.get? a=n_ o)->R (.ok (.ret (.ref (s.heap.objs.size+1)))) {s with heap:=g}) :=
 .of_wp λprog w A R s h=>by
  obtain⟨p,g,d,tk,B⟩:=s;obtain⟨q,h⟩:=h;obtain⟨C,i⟩:=q.obj;have r:=sub_enumerate;have fin:∀f,Dv b f p.objs.size l 0->f.objs.size=p.objs.size+1->(∀c o,p.get? c=n_ o->f.get? c=n_ o)->∃v,Fin.done (Flow.ret (.ref f.objs.size))=Fin.done (Flow.ret v)/\R (.ok (.ret v)) ⟨f.push {cls:=.type "enumerate",data:=.fields #[.none,.bool o5,.ref p.objs.size,rawInt 0,.none,.none]},g,d,tk,B⟩:=λf k j m=>by
   refine AX (Zp f p.objs.size j) λz y u t=>⟨_,Z,?_⟩
   have n:=h z u (k.move λo e=>t _ o e) λa o e=>t _ _ (m _ _ e);dsimp only at n;rw[y,<-j]at n;exact n
  wp_walk using AutoSeq1.wpAny_loadPart' i
  refine wpAny_stack_any λst=>A0h ?_;split
  .rename_i x _ _ _ _ _;cases(x==Value.type "enumerate")
   .wp_walk using AutoSeq1.wpAny_loadPart' i,GE q
    intro f k j m
    wp_walk
    exact fin f k j m
   .wp_walk using AutoSeq1.wpAny_loadPart' i,GE q
    intro f k j m
    wp_walk
    exact fin f k j m
  .wp_walk using AutoSeq1.wpAny_loadPart' i,GE q
   intro f k j m
   wp_walk
   exact fin f k j m
theorem RN(f:A.handled=o0)(I l:R_)(ne:l≠I)(vs:M_) :
  Draws prog w A I [I,l] vs.size (λk v=>vs[k]?=n_ v) (λk h=>Dv b h I l k/\ES b h l vs) where
 live:=λ_ _ st=>let ⟨o,ho,_⟩:=st.1.there;⟨o,ho⟩
 frame:=λ_ _ _ st c=>⟨st.1.move λo e=>c I B0 o e,st.2.move λo e=>c l B0 o e⟩
 item:=λk s Q E a st m=>Eb st.1 st.2 (v:=vs[k]) (by simp[a]) λg j d=>m _ g s.toks (by simp[a]) ⟨j,st.2.move λo e=>(d.2 l ne).trans e⟩ d
 done:=λs Q E st i=>GR f st.1 st.2 B0 i
def Ite(K:O_)(b:Bool)(l:R_):It :=
 ⟨λi H=>∃xs x,SqX K b H l xs/\xs[i]?=n_ x,
  λi H v H'=>∃(T:R_)(x:V),v=.ref T/\H T=o0/\H'=upd H T (.tup [.int i,x])/\∀xs,SqX K b H l xs->xs[i]?=n_ x,
  λi H=>∃xs,SqX K b H l xs/\xs.length=i⟩
theorem YH{P:N_}{w:Q_}{K:O_}{es:List Expr}{n:Nat}{q:Pos}{b:Bool}{e I l:R_}(C:e≠I)(le:l≠e)(lI:l≠I) :
  Rh P w K (.Tuple es n q) (Ite K b l) [e,I] e (λk h=>(∃c,IsEnum h e I k c)/\Dv b h I l k) where
 mem:=by simp
 obj:=λk h st a d=>by
  obtain⟨⟨c,f⟩,j⟩:=st;simp only[C1,D9,A2e]at d;rcases d with rfl|rfl
  .exact⟨_,f,λv t=>by cases t⟩
  .exact j.there
 keep:=λk h h' st kp=>by
  obtain⟨⟨c,f⟩,j⟩:=st;exact⟨⟨c,kp e B0 _ f⟩,j.move λo t=>kp I B0 o t⟩
 item:=by
  intro X L R G M k p s σ H E J r st N;subst L R G;obtain⟨⟨c,f⟩,j⟩:=st;refine Cw N λxs x B S=>xea (J.sq B) λus y T=>?_;have lu:=y.length;have hk:=(B9.mp S).1;refine wpAny_pyNext_enum_itemD (RN (b:=b) (A:=X.A.in1) (J.ok.hd M) I l lI us.toArray) f ⟨j,T⟩ (by simp;lia) C (by simp[C,A1a le]) λu g tk hu gE gS gT gs F=>⟨_,Z,?_⟩
  refine xea (y.get S) λu' O U=>?_;have eu:u=u':=by
   have:us[k]?=n_ u:=by simpa using hu
   rw[O]at this;exact(A1f this).symm
  subst eu;refine wpAny_letOwnedTupleGo_enum (s:={s with heap:=g,toks:=tk+1}) gE λg2 D V=>?_;have m:=F3 f;have kk:∀a o,a∉[e,I]->s.heap.get? a=n_ o->g2.get? a=n_ o:=λa o d t=>(V.2 a (λz=>d (by simp[z]))).trans (F a o (λz=>d (by simp[z])) (λz=>d (by simp[z])) t);obtain⟨nT,J2⟩:=J.pair (tk:=tk+1) (x:=.int k) (u:=.int k tk) kk r ⟨tk,Z⟩ U ((V.2 _ (W3 m)).trans gT);refine⟨.ref s.heap.objs.size,_,J2,Z,⟨_,x,Z,nT,Z,λaa q'=>by rw[J.sq_inj q' B];exact S⟩,⟨⟨_,by simpa using D⟩,gS.1.move λo t=>(V.2 I (A1a C)).trans t⟩,λa d=>?_⟩;have t:=(r a d).1;have lt:a≠s.heap.objs.size:=by
   simp only[C1,D9,A2e]at d;rcases d with z|z<;>subst z
   .exact L8 m
   .exact xea j.there λo t _=>L8 (F3 t)
  rw[Ax lt];exact t
 done:=by
  intro X L R G M k p s σ H E J r st N;subst L R G;obtain⟨⟨c,f⟩,j⟩:=st;refine xea N λxs B Y=>xea (J.sq B) λus y T=>?_;have lu:=y.length;have ek:k=us.toArray.size:=by simp;lia
  refine wpAny_pyNext_enum_endD (RN (b:=b) (A:=X.A.in1) (J.ok.hd M) I l lI us.toArray) f ⟨ek▸j,T⟩ λg F=>⟨Z,?_⟩
  exact J.turnedL (tk:=s.toks) (ch:=[e,I]) (λa o d t=>F a o (λz=>d (by simp[z])) t) r
 self:=λA i s Q E st h=>by
  obtain⟨⟨c,f⟩,_⟩:=st;exact wpAny_pyIter_enum f h
section
variable{X:Cx}{es:List Expr}{n:Nat}{tpos p pos:Pos}{e1 e2:Expr}{t:TA}
def iZip(b c:Bool)(K:O_)(t:TA):TI:=fun σ H R=>t σ H λvs H1=>∃(l m:R_),vs=[.ref l,.ref m]/\(∃xs,SqX K b H1 l xs)/\(∃ys,SqX K c H1 m ys)/\R (Itz K b c l m) H1
theorem ES.lt(x:ES b h l vs):l<h.objs.size:=by
 cases b with
 |true=>exact xea x λo e _=>F3 e
 |false=>exact xea x λo e _=>F3 e
theorem aEO(n l m:Nat)(a:l<n)(b:m<n):YE (n+4) (n+2) (n+3) n (n+1) l m:=by
 refine⟨(show([n+4,n+2,n+3,n,n+1]:J_).Nodup from ?_),(show l∉([n+4,n+3,n,n+1]:J_)from ?_),(show m∉([n+4,n+3,n,n+1]:J_)from ?_)⟩
 .simp only[N4,C1,D9,A2e,A7f,T3,and_true,A6d];lia
 .simp only[C1,D9,A2e,A7f];lia
 .simp only[C1,D9,A2e,A7f];lia
theorem aFV(b c:Bool)(E:Gl X "zip")(G:X.mg "zip" = o0)(j:PA X [e1,e2] t)(L:starEach [e1,e2] X.env=[(o5,eval e1 X.env),(o5,eval e2 X.env)]:=by rfl)(e:starEach [e2] X.env=[(o5,eval e2 X.env)]:=by rfl) :
  PI X (.Tuple es n tpos) (.Call (.Name "zip" p) [e1,e2] [] pos) (iZip b c X.K t):=by
 intro f s σ H R I h;refine Call_ (LQ I E G PyProof.Rows.boot_zip (A3h (thn (j pos f s σ H _ I h) λus i D=>?_) (by rw[L,e]) (by rw[e];rfl)));refine AS D λvs x d N M=>?_;obtain⟨l,m,rfl,⟨xs,Q⟩,⟨ys,sy⟩,q⟩:=M;refine AS N.two λu v k O P=>?_;subst k;cases(show u=Value.ref l from O);cases(show v=Value.ref m from P);refine xea (d.sq Q) λS _ r=>xea (d.sq sy) λT _ w=>callType_new F.called_zip A4 (F.typeCall_zip_2 _ _) (F.newCall_zip_2 _ _) (λobj=>F.args_object_init_3 obj _ _) F.entry_zip_new (Zc (b:=b) (c:=c) l m S.toArray T.toArray) ⟨r,w,λg o z y A B C=>?_⟩;refine⟨⟨_,o,Z⟩,wpAny_pyIter_zip (s:={i with heap:=g}) o ?_⟩;refine⟨i.heap.objs.size+4,_,_,_,x,Z,d.kept (t':=i.toks) C,ZH (aEO i.heap.objs.size l m r.lt w.lt),⟨o,z,⟨_,_,y⟩,A,B⟩,λa j=>?_,q⟩;have le:i.heap.objs.size<=a:=by
  simp only[C1,D9,A2e]at j;rcases j with t|t|t|t|t<;>rw[t]<;>first|exact B8 _|exact F5 _ _
 exact d.fpOk le (d.hok.fresh le)
def aGo(b:Bool)(K:O_)(t:TA):TI:=fun σ H R=>t σ H λvs H1=>∃(l:R_),vs=[.ref l]/\(∃xs,SqX K b H1 l xs)/\R (Ite K b l) H1
theorem Pn(b:Bool)(y:Gl X "enumerate")(z:X.mg "enumerate" = o0)(i:PA X [e1] t)(A:starEach [e1] X.env=[(o5,eval e1 X.env)]:=by rfl) :
  PI X (.Tuple es n tpos) (.Call (.Name "enumerate" p) [e1] [] pos) (aGo b X.K t):=by
 intro d s σ H R I h;refine Call_ (LQ I y z PyProof.Rows.boot_enumerate (A3h (thn (i pos d s σ H _ I h) λus c x=>?_) A Z));refine AS x λvs r f C B=>?_;obtain⟨l,rfl,⟨xs,E⟩,q⟩:=B;refine xea C.one λu j D=>?_;subst j;cases(show u=Value.ref l from D);refine xea (f.sq E) λG _ o=>callType_new F.called_enumerate A4 (F.typeCall_enumerate_1 _) (F.newCall_enumerate_1 _) (λobj=>F.args_object_init_2 obj _) F.entry_enumerate_new (VY (b:=b) l G.toArray) ⟨o,λg k v w=>?_⟩;refine⟨⟨_,k,Z⟩,wpAny_pyIter_enum (s:={c with heap:=g}) k ?_⟩;have m:=o.lt;refine⟨c.heap.objs.size+1,_,_,_,r,Z,f.kept (t':=c.toks) w,YH (e:=c.heap.objs.size+1) (I:=c.heap.objs.size) (l:=l) (Nat.succ_ne_self _) (L8 (K7 m)) (L8 m),⟨⟨_,k⟩,v⟩,λa i=>?_,q⟩;have le:c.heap.objs.size<=a:=by
  simp only[C1,D9,A2e]at i;rcases i with t|t<;>rw[t]<;>first|exact B8 _|exact F5 _ _
 exact f.fpOk le (f.hok.fresh le)
end
section
variable{K:O_}{b c:Bool}{l m:R_}{xs ys:List V}{σ:St}{H:Hp}
theorem RJ{K:O_}{i j:Nat}{σ:St}{H:Hp}(h:H T=n_ (.tup [x,y]))(q:Q ((σ.set i (n_ x)).set j (n_ y)) H):aEi K 2 (UT (MB i) (UT (MB j) aEh)) (.ref T) σ H Q :=
 ⟨T,_,Z,SqT.of h,Z,x,_,Z,y,_,Z,Z,q⟩
theorem NM{g:TG}{t:TS}{D:Jc}(a:Nat->St->Hp->Prop)(u:a 0 σ H)(A:∀i σ H,i<=xs.length->a i σ H->SqX K b H l xs)
  (B:∀i x σ H T,xs[i]?=n_ x->a i σ H->H T=o0->g (.ref T) σ (upd H T (.tup [.int i,x])) fun f k=>t {D with nx:=a (i+1),ct:=a (i+1),bk:=D.nx} f k) (v:∀σ H,a xs.length σ H->D.nx σ H) :
  ∃W:Nat->Nat->St->Hp->Prop,(∃m,W 0 m σ H)/\∀i m σ H,W i m σ H ->
   ((Ite K b l).stop i H/\D.nx σ H)\/((Ite K b l).go i H/\∃N:St->Hp->Prop,(∀σ' d,N σ' d->∃s,s<m/\W (i+1) s σ' d)/\∀x d,(Ite K b l).yld i H x d->g x σ d fun f k=>t {D with nx:=N,ct:=N,bk:=D.nx} f k):=by
 refine⟨λi m σ H=>m=xs.length-i/\i<=xs.length/\a i σ H,⟨xs.length,by simp,M7 _,u⟩,?_⟩;intro i m σ H j;refine xa2 j λn w p=>?_;clear j;subst n;have q:=A i σ H w p;by_cases h:i<xs.length
 .refine .inr ⟨⟨xs,xs[i],q,by simp[h]⟩,a (i+1),fun σ' d F=>⟨xs.length-(i+1),by lia,Z,h,F⟩,λx d y=>?_⟩;refine Ep y λT z o E r C=>?_;clear y;subst o;subst r;exact B i z σ _ T (C xs q) p E
 .have e:i=xs.length:=by lia
  subst e;exact .inl ⟨⟨xs,q,Z⟩,v σ H p⟩
variable{k:Nat}{cs:J_}{g:TG}{tc:TT}{te:TE}{fin:List V->Hp->Prop}
theorem aCK(d:Nat->List V->Hp->Prop)(w:d 0 [] H)(B:∀i a H,d i a H->SqX K b H l xs/\SqX K c H m ys)
  (C:∀i x y a H T,xs[i]?=n_ x->ys[i]?=n_ y->d i a H->H T=o0->Bt k cs g tc te σ (.ref T) a (upd H T (.tup [x,y])) (d (i+1))) (A:∀a H,d (min xs.length ys.length) a H->fin a H):FK k cs g tc te (Itz K b c l m) σ H fin:=by
 refine⟨λi n a H=>n=min xs.length ys.length-i/\i<=min xs.length ys.length/\d i a H,⟨min xs.length ys.length,by simp,M7 _,w⟩,?_⟩;intro i n a H f;refine xa2 f λh M p=>?_;clear f;subst h;obtain⟨s,t⟩:=B i a H p;by_cases q:i<min xs.length ys.length
 .have E:i<xs.length:=by lia
  have F:i<ys.length:=by lia
  refine .inr ⟨⟨xs,ys,xs[i],ys[i],s,t,by simp[E],by simp[F]⟩,d (i+1),λu v I=>⟨min xs.length ys.length-(i+1),by lia,Z,q,I⟩,λx v y=>?_⟩;refine CV y λT z L j G o D r=>?_;clear y;subst j;subst o;exact C i z L a _ T (D xs s) (r ys t) p G
 .have e:i=min xs.length ys.length:=by lia
  subst e;exact .inl ⟨⟨xs,ys,s,t,by lia⟩,A a H p⟩
theorem aCJ(d:Nat->List V->Hp->Prop)(t:d 0 [] H)(w:∀i ch a H,x.cps.toList[i]?=n_ ch->d i a H->Bt k cs g tc te σ (.str ⟨#[ch]⟩) a H (d (i+1)))(u:∀a H,d x.cps.toList.length a H->fin a H):FK k cs g tc te (Its x) σ H fin:=by
 have s:x.cps.toList.length=x.cps.size:=by simp
 refine⟨λi m a H=>m=x.cps.size-i/\i<=x.cps.size/\d i a H,⟨x.cps.size,by simp,M7 _,t⟩,?_⟩;intro i m a H h;refine xa2 h λj A p=>?_;clear h;subst j;by_cases f:i<x.cps.size
 .refine .inr ⟨f,d (i+1),λq r z=>⟨x.cps.size-(i+1),by lia,Z,f,z⟩,λv r y=>?_⟩;refine MD y λe ch o n=>?_;clear y;subst n;subst e;exact w i ch a _ (by simpa using o) p
 .have e:i=x.cps.size:=by lia
  subst e;exact .inl ⟨Z,u a H (by rw[s];exact p)⟩
end
theorem PE.or{t u:TE}(h:PE X e t)(h':PE X e u):PE X e (fun σ H Q=>t σ H Q\/u σ H Q):=by
 intro a s σ H Q I q;rcases q with q|q
 .exact h a s σ H Q I q
 .exact h' a s σ H Q I q
theorem rm(h:Dt b A)(c:a<=b:=by first|decide|lia):Dt a A:=h.mono c
structure Cal(P:N_)(w:Q_)(K:O_)(mg:C_)(n8:T_)(CX:CXT)(k:Nat)(x:Str)(ps:K_)(sp:Sp):Prop where
ex:∃(f:R_)(fd:E_),AM P w K mg n8 CX k f fd ps sp/\mg x=n_ (.ref f)/\keepIn K (.ref f)=o4/\CY K fd ps []
structure Co(P:N_)(w:Q_)(K:O_)(mg:C_)(n8:T_)(CX:CXT)(k:Nat)(C:R_)(m:Str)(ps:K_)(sp:Sp):Prop where
ex:∃(f:R_)(fd:E_),AM P w K mg n8 CX k f fd ps sp/\Ri K C m f/\CY K fd ps []
cl:Cls K C
structure Tz(P:N_)(w:Q_)(K:O_)(mg:C_)(n8:T_)(CX:CXT)(k:Nat)(x:Str)(C:R_)(ps:K_)(sp:Sp):Prop where
ex:∃(f:R_)(fd:E_),AM P w K mg n8 CX k f fd ps sp/\Mk K C f/\mg x=n_ (.ref C)/\CY K fd ps []
section
variable{X:Cx}{CX:CXT}{k:Nat}{C:R_}{ps:K_}{sp:Sp}{E:XK}{x m:Str}{p pos apos:Pos}{e o:Expr}{es:List Expr}{ta:TE}{t:TA}
theorem Ar(c:Cal X.prog X.w X.K X.mg X.n8 CX k x ps sp)(n:Dt k X.A)(i:Gl X x)(q:GV CX X E)(d:PA X (e::es) t)(a:(x==("__debug__" : Str))=o5:=by decide)
  (h:starEach (e::es) X.env=(o5,eval e X.env)::starEach es X.env:=by rfl) (b:(backTo pos (starEach es X.env)).any (·.1)=o5:=by rfl):PE X (.Call (.Name x p) (e::es) [] pos) (aEG sp [] E t):=by
 exact Ep c.ex λf r F l j g=>aCy F n i l j g .nil q d a h b
theorem AK(i:PE X o ta)(c:Co X.prog X.w X.K X.mg X.n8 CX k C m ps sp)(l:Dt k X.A)(q:GV CX X E)(g:PA X (e::es) t)
  (b:starEach (e::es) X.env=(o5,eval e X.env)::starEach es X.env:=by rfl) (a:(backTo pos (starEach es X.env)).any (·.1)=o5:=by rfl)
  (n:eval (.Call (.Attribute o m apos) (e::es) [] pos) X.env=(do
   let d <-eval o X.env;standAt apos.atName;let (f,first) <-holding [d] (getMethod d m pl);callWith pos f first (backTo pos (starEach (e::es) X.env)) (backToKw pos (keywordEach [] X.env))):=by rfl):PE X (.Call (.Attribute o m apos) (e::es) [] pos) (WA C m sp [] E ta t):=by
 exact AS c.ex λf r F j h=>aC1 i c.cl j F l h .nil q g b a n
theorem Nz(c:Tz X.prog X.w X.K X.mg X.n8 CX k x C ps sp)(l:Dt (k+1) X.A)(i:Gl X x)(n:GV CX X E)(d:PA X (e::es) t)(a:(x==("__debug__" : Str))=o5:=by decide)
  (h:starEach (e::es) X.env=(o5,eval e X.env)::starEach es X.env:=by rfl) (b:(backTo pos (starEach es X.env)).any (·.1)=o5:=by rfl):PE X (.Call (.Name x p) (e::es) [] pos) (WB C sp [] E t):=by
 exact Ep c.ex λf q F M j g=>aC0 M F l i j g .nil n d a h b
theorem aB1(c:Tz X.prog X.w X.K X.mg X.n8 CX k x C ps sp)(h:Dt (k+1) X.A)(d:Gl X x)(i:GV CX X E)(a:(x==("__debug__" : Str))=o5:=by decide):PE X (.Call (.Name x p) [] [] pos) (WB C sp [] E PF):=by
 exact Ep c.ex λf j F M g b=>aB3 M F h d g b .nil i a
theorem Cu(c:Gl X x)(a:∃tk,X.mg x=n_ (.int i tk))(b:(x==("__debug__" : Str))=o5:=by decide):PE X (.Name x pos) (tC (.int i)):=by
 obtain⟨tk,a⟩:=a;exact SD c a ⟨tk,Z⟩ b
theorem Po{z:Str}(c:Gl X x)(a:∃tk,X.mg x=n_ (.str z tk))(b:(x==("__debug__" : Str))=o5:=by decide):PE X (.Name x pos) (tC (.str z)):=by
 obtain⟨tk,a⟩:=a;exact SD c a ⟨tk,Z⟩ b
theorem aCz(c:Gl X x)(d:X.mg x=n_ (.ref a))(b:(x==("__debug__" : Str))=o5:=by decide):PE X (.Name x pos) (tC (.ref a)):=SD c d Z b
end
def cOk(So:Scope)(No:K_)(scope:Scope)(N:K_)(k:Nat)(cs:J_):Bool :=
 scope.names.all (λy=>y.2 != .cell) && (scope.kind==.function && (scope.names.all (λy=>y.2 != .local || scope.names.lookup y.1==n_ .local) && (scope.names.all (λy=>y.2 != .free || (So.names.lookup y.1==n_ .cell || So.names.lookup y.1==n_ .free)) &&
  (N.length==k+cs.length && (List.range cs.length).all λj=>match N[k+j]?,No[cs.getD j 0]? with
   |some x,n_ y=>x==y && scope.names.lookup x==n_ .free
   |_,_=>o5))))
theorem Bl.of{No:K_}{k:Nat}(p:X.env.scope=So)(o:X.N=No)(h:cOk So No a N k cs=o4):Bl X a N k cs:=by
 subst p o;unfold cOk at h;simp only[S1,T4,bne_iff_ne,ne_eq,Bool.or_eq_true,A9b,M8]at h;refine xa5 h λf g i l m n=>⟨f,g,λy b e=>?_,λy b e=>?_,m,λj q=>?_⟩
 .rcases i y b with z|z
  .exact absurd e z
  .exact z
 .rcases l y b with z|z
  .exact absurd e z
  .exact z
 .have z:=n j q;split at z
  .rename_i x y c d;simp only[S1,A9b]at z;obtain⟨r,s⟩:=z;subst r;exact⟨x,c,d,s⟩
  .cases z
theorem FY{σ:St}{H:Hp}{A B:Hp->Prop}(h:A H):aFv σ H λb a=>if b=o4 then A a else B a:=by
 show if o4=o4 then A H else B H;exact BR h
theorem Pz{d:TE}{σ:St}{H:Hp}{Q:VK}{a b2:Bool}(e:a=o4->∀b:VK,b (.bl b2) H->d σ H b)(q:Q (.bl (a && b2)) H):∃c,V.bl a=.bl c/\if c=o4 then d σ H Q else Q (.bl o5) H:=by
 cases a with
 |true=>exact⟨o4,Z,BR (e Z Q q)⟩
 |false=>exact⟨o5,Z,Ba q⟩
theorem ZK{u:TT}{σ:St}{H:Hp}{Q:Bool->Hp->Prop}{a b2:Bool}(c:a=o4->∀b:Bool->Hp->Prop,b b2 H->u σ H b)(q:Q (a && b2) H):if a=o4 then u σ H Q else Q o5 H:=by
 cases a with
 |true=>exact BR (c Z Q q)
 |false=>exact Ba q
section
variable{X:Cx}{scope:Scope}{N:K_}{s:P_}{H:Hp}{ex:H_}{x y:Str}{px py pos:Pos}{k:Nat}
theorem AW(b:N.Nodup)(c:N[i]?=n_ x)(a:(relabel scope X.env).names.lookup x=n_ .local):PG (cxC X scope N s H ex) (.Name x pos) (MB i):=Bd (X:=cxC X scope N s H ex) b c (.inl a) (.inr a)
theorem Ut{i j:Nat}(b:X.calm=o4)(a:N.Nodup)(c:N[i]?=n_ x)(d:N[j]?=n_ y)(e:(relabel scope X.env).names.lookup x=n_ .local)(f:(relabel scope X.env).names.lookup y=n_ .local) :
  PG (cxC X scope N s H ex) (.Tuple [.Name x px,.Name y py] k pos) (aEi X.K 2 (UT (MB i) (UT (MB j) aEh))) :=
 Qg (X:=cxC X scope N s H ex) b (DS (AW a c e) (DS (AW a d f) Ny))
end
theorem AU.strs:∀(l:K_)(k:Nat),AU (l.map V.str) (strsFrom k l)
|[],_=>.nil
|x::r,k=>.cons ⟨k,Z⟩ (AU.strs r (k+1))
section
variable{X:Cx}
theorem UG:MtR X "str.split" (λx xs H Q=>∃a b,x=.str a/\xs=[.str b]/\(b.length==0)=o5/\a.length<=100000/\∀p,H p=o0->Q (.ref p) (upd H p (.lst ((Txt.split a b).map V.str)))):=by
 intro g s σ H x xs v us Q I z r h;refine Dx h λa b k l n o q=>?_;clear h;subst k;subst l;obtain⟨t,rfl⟩:=z;refine xea r.one λu j w=>?_;subst j;obtain⟨m,rfl⟩:=w;have big:a.length+2<=sizeLine:=C5 (Q9 o 2) A4;have fin:∀(c:F_)(tk:Nat),AU ((Txt.split a b).map V.str) c->EP X g σ Q (.ref s.heap.objs.size) {s with heap:=s.heap.push {cls:=.type "list",data:=.seq c.toArray},toks:=tk}:=λc tk y =>
  ⟨.ref _,_,I.lnew (t':=tk) y (by rw[B7];exact C5 (split_le a b) big),Z,q _ I.fresh⟩
 by_cases d:(decide (a.length<b.length) || decide (Builtin.Str.strKind a<Builtin.Str.strKind b))=o4
 .refine A6g F.slot_str_split (A8e _ _ _) F.entry_str_split (B0c _ _) (meets_str_split_cannot_occur a b t m d) (fin _ s.toks ?_);unfold Txt.split;rw[A0g d];exact .cons ⟨t,Z⟩ .nil
 .have f:=A0b.mpr d;by_cases i:(Builtin.Str.occurrences a b 0 a.length (a.length+1)).isEmpty=o4
  .refine A6g F.slot_str_split (A8e _ _ _) F.entry_str_split (B0c _ _) (meets_str_split_not_found a b t m f n i) (fin _ s.toks ?_);unfold Txt.split;rw[A0d d,A0g i];exact .cons ⟨t,Z⟩ .nil
  .have e:Txt.split a b=Builtin.Str.partsBetween a (Builtin.Str.occurrences a b 0 a.length (a.length+1)) b.length:=by
    unfold Txt.split;rw[A0d d,A0d i]
   refine A6g F.slot_str_split (A8e _ _ _) F.entry_str_split (B0c _ _) (meets_str_split_sep a b t m f n (A0b.mpr i) A3 (by rw[<-e];exact C5 (split_le a b) big)) ?_;refine fin _ _ ?_;rw[e];exact AU.strs _ _
theorem SY:MtR X "str.partition" (λx xs H Q=>∃a b,x=.str a/\xs=[.str b]/\(b.length==0)=o5/\a.length<=100000/\∀p,H p=o0->Q (.ref p) (upd H p (.tup [.str (Txt.partition a b).1,.str (Txt.partition a b).2.1,.str (Txt.partition a b).2.2]))):=by
 intro d s σ H x xs v us Q I y r h;refine Dx h λa b g j m k q=>?_;clear h;subst g;subst j;obtain⟨t,rfl⟩:=y;refine xea r.one λu f n=>?_;subst f;obtain⟨z,rfl⟩:=n;have fin:∀(c:F_)(tk:Nat),AU [.str (Txt.partition a b).1,.str (Txt.partition a b).2.1,.str (Txt.partition a b).2.2] c->EP X d σ Q (.ref s.heap.objs.size) {s with heap:=s.heap.push {cls:=.type "tuple",data:=.seq c.toArray},toks:=tk}:=λc tk w =>
  ⟨.ref _,_,I.laid (t':=tk) (o:=.tup [.str (Txt.partition a b).1,.str (Txt.partition a b).2.1,.str (Txt.partition a b).2.2]) (λ_ _ e=>C3 _ e) (B8 _) ⟨by show 3<=sizeLine;decide,c,w,_,F2 _ Z,Z,_,Z⟩,Z,q _ I.fresh⟩
 refine A6g F.slot_str_partition (A8e _ _ _) F.entry_str_partition (F.args_str_partition_2 _ _) (meets_str_partition a b t z m (C5 k A4)) ?_;show EP X d σ Q _ _;cases e:Builtin.Str.occurrences a b 0 a.length 1 with
 |nil =>
  refine fin _ _ ?_;unfold Txt.partition;rw[e];exact .cons ⟨_,Z⟩ (.cons ⟨_,Z⟩ (.cons ⟨_,Z⟩ .nil))
 |cons i l =>
  refine fin _ _ ?_;unfold Txt.partition;rw[e];exact .cons ⟨_,Z⟩ (.cons ⟨_,Z⟩ (.cons ⟨_,Z⟩ .nil))
theorem AU.tstrs:∀{l:K_}{a:F_},AU (l.map V.str) a->∃b:List (Str×Tok),a=strValues b/\b.map (·.1)=l
|[],_,.nil=>⟨[],Z,Z⟩
|x::r,_,.cons ⟨t,e⟩ rr=>by
 refine xea (AU.tstrs rr) λb c d=>?_;subst e c;exact⟨(x,t)::b,Z,by rw[F8,d]⟩
theorem Pq:MtR X "str.join" (λx xs H Q=>∃(a:Str)(p:R_)(l:K_),x=.str a/\xs=[.ref p]/\SqL X.K H p (l.map V.str)/\JoinOk a l=o4/\Q (.str (Str.join a l)) H):=by
 intro g s σ H x xs v us Q I o r h;refine CV h λa p l c d i f q=>?_;clear h;subst c;subst d;obtain⟨t,rfl⟩:=o;refine xea r.one λu b j=>?_;subst b;cases(show u=Value.ref p from j);refine AX (I.list i) λm n pl _=>xea (AU.tstrs n) λw b e=>?_;subst b;refine SC.join (texts:=l) pl.isList e f λt' k=>⟨.str _,H,I.tok k,⟨t',Z⟩,?_⟩
 have:Txt.join a l=Str.join a l:=StrLaws.glued_eq_join a l;rw[this];exact q
theorem UY(n:Int):∀{ns:I_}{a:F_},AU (ns.map V.int) a->a.countP (λy=>match y with|.int i _=>i==n|_=>o5)=ns.countP (· == n)
|[],_,.nil=>rfl
|x::r,_,.cons ⟨t,e⟩ rr=>by
 subst e;rw[Z3,Z3,UY n rr]
theorem ZD{ns:I_}{a:F_}(h:AU (ns.map V.int) a){y:S_}(b:y∈a):∃i t,y=.int i t:=by
 induction ns generalizing a with
 |nil=>cases h;simp at b
 |cons n r c =>
  cases h with
  |cons q d =>
   obtain⟨t,e⟩:=q;rcases C1.mp b with z|z
   .exact⟨n,t,z.trans e⟩
   .exact c d z
theorem aBe:MtR X "list.count" (λx xs H Q=>∃(l:R_)(ns:I_)(n:Int),x=.ref l/\xs=[.int n]/\H l=n_ (.lst (ns.map V.int))/\Q (.int (ns.countP (· == n):Nat)) H):=by
 intro g s σ H x xs v us Q I w r h;refine Go h λl ns n d f m q=>?_;clear h;subst d;subst f;cases w;refine xea r.one λu b o=>?_;subst b;obtain⟨tk,rfl⟩:=o;refine PB (I.lstM m) λz a k j A e=>A6g F.slot_list_count ⟨_,e,Z⟩ F.entry_list_count (F.args_list_count_2 _ _) (MeetsSeq.list_count l a.toArray k (.int n tk) (λy=>match y with|.int i _=>i==n|_=>o5) (λy p=>?_)) ⟨e,?_⟩
 .refine xe2 (ZD j (by simpa using p)) λi t c=>?_;subst c;exact PySem.MeetsSeq.EqGives.int i n t tk
 .refine⟨.int _,H,I.tok _,⟨_,Z⟩,?_⟩;have:(List.countP (λy=>match y with|Value.int i _=>i==n|_=>o5) a.toArray.toList)=ns.countP (· == n):=UY n (by simpa using j);rw[this];exact q
end
end L2
namespace L2
open PySem
section
variable{X:Cx}{es es':List Expr}{t t':TA}{pos:Pos}
theorem AG{j}(a:PA X es t):PA X (.Constant (.int i) j pos::es) (CI (tC (.int i)) t):=Aa Ac a
theorem MT{z:Str}{j}(a:PA X es t):PA X (.Constant (.str z) j pos::es) (CI (tC (.str z)) t):=Aa FQ a
theorem IC(h:PA X es' t')(a:PA X es t):PA X (.List es' pos::es) (CI (aDH t') t):=Aa (BO h) a
theorem AV{x1}(h:PA X es' t')(a:PA X es t):PA X (.Tuple es' x1 pos::es) (CI (YI t') t):=Aa (BH h) a
theorem AT{c:Operator}(h:OpR X (binaryOp c) r)(f:PE X a d)(g:PE X b e)(i:PA X es t):PA X (.BinOp a c b pos::es) (CI (tOp r d e) t):=Aa (AE h f g) i
theorem DK{K:O_}(h:X.K=K):IxR X (Lo K):=h▸Al
theorem UR{K:O_}(h:X.K=K):IxR X (aFa K):=h▸Az
end
theorem Br{P:Prop}(h:∀G:Prop,(P->G)->G):P:=h P id
theorem xq1{α:Sort _}{a:α}{P Q:α->Prop}(h:P a)(k:Q a):∃x,P x/\Q x:=⟨a,h,k⟩
theorem xq2{α β:Sort _}{a:α}{b:β}{P Q R:α->β->Prop}(h:P a b)(h':Q a b)(k:R a b):∃x y,P x y/\Q x y/\R x y:=⟨a,b,h,h',k⟩
theorem xq3{α β γ:Sort _}{a:α}{b:β}{c:γ}{P Q R S:α->β->γ->Prop}(h:P a b c)(h':Q a b c)(d:R a b c)(k:S a b c):∃x y z,P x y z/\Q x y z/\R x y z/\S x y z:=⟨a,b,c,h,h',d,k⟩
theorem xq4{α β γ δ:Sort _}{a:α}{b:β}{c:γ}{d:δ}{P Q R S T:α->β->γ->δ->Prop}(h:P a b c d)(h':Q a b c d)(e:R a b c d)(f:S a b c d)(k:T a b c d):∃x y z w,P x y z w/\Q x y z w/\R x y z w/\S x y z w/\T x y z w:=⟨a,b,c,d,h,h',e,f,k⟩
theorem xq5{K:O_}{f:Str}{H:Hp}{a C dx:R_}{fs:List (Str×V)}{v:V}{Q:V->Prop}(h:H a=n_ (.ins C dx fs))(c:Cls K C)(d:BS K C f)(e:fs.lookup f=n_ v)(k:Q v):∃b C dx fs w,V.ref a=.ref b/\H b=n_ (.ins C dx fs)/\Cls K C/\BS K C f/\fs.lookup f=n_ w/\Q w:=⟨a,C,dx,fs,v,Z,h,c,d,e,k⟩
theorem xw2{α β:Sort _}{a:α}{b:β}{P:α->Prop}{Q:α->β->Prop}{K:α->β->Prop}(e:P a)(f:Q a b)(k:K a b):∃c,P c/\∃d,Q c d/\K c d:=⟨a,e,b,f,k⟩
theorem xw3{α β γ:Sort _}{a:α}{b:β}{c:γ}{P:α->Prop}{Q:α->β->Prop}{R:α->β->γ->Prop}{K:α->β->γ->Prop}(g:P a)(h:Q a b)(i:R a b c)(k:K a b c):∃d,P d/\∃e,Q d e/\∃f,R d e f/\K d e f:=⟨a,g,b,h,c,i,k⟩
theorem xwb{α β γ:Sort _}{a:α}{b:β}{c:γ}{P:α->Prop}{Q:α->β->γ->Prop}{R:α->β->γ->Prop}{K:α->β->γ->Prop}(g:P a)(h:Q a b c)(i:R a b c)(k:K a b c):∃d,P d/\∃e f,Q d e f/\R d e f/\K d e f:=⟨a,g,b,c,h,i,k⟩
theorem xwm{α β γ δ:Sort _}{a:α}{b:β}{c:γ}{d:δ}{P:α->Prop}{Q:α->β->γ->δ->Prop}{R:α->β->γ->δ->Prop}{S:α->β->γ->δ->Prop}{K:α->β->γ->δ->Prop}(i:P a)(j:Q a b c d)(l:R a b c d)(m:S a b c d)(k:K a b c d):∃e,P e/\∃f g h,Q e f g h/\R e f g h/\S e f g h/\K e f g h:=⟨a,i,b,c,d,j,l,m,k⟩
theorem xwi{α β γ δ ε:Sort _}{a:α}{b:β}{c:γ}{d:δ}{e:ε}{P:α->Prop}{Q:α->β->γ->δ->ε->Prop}{R:α->β->γ->δ->ε->Prop}{S:α->β->γ->δ->ε->Prop}{T:α->β->γ->δ->ε->Prop}{K:α->β->γ->δ->ε->Prop}(l:P a)(m:Q a b c d e)(n:R a b c d e)(o:S a b c d e)(p:T a b c d e)(k:K a b c d e):∃f,P f/\∃g h i j,Q f g h i j/\R f g h i j/\S f g h i j/\T f g h i j/\K f g h i j:=⟨a,l,b,c,d,e,m,n,o,p,k⟩
theorem xwf{α β γ δ ε ζ:Sort _}{a:α}{b:β}{c:γ}{d:δ}{e:ε}{f:ζ}{P:α->Prop}{Q:α->β->γ->δ->ε->ζ->Prop}{R:α->β->γ->δ->ε->ζ->Prop}{S:α->β->γ->δ->ε->ζ->Prop}{T:α->β->γ->δ->ε->ζ->Prop}{U:α->β->γ->δ->ε->ζ->Prop}{K:α->β->γ->δ->ε->ζ->Prop}(n:P a)(o:Q a b c d e f)(p:R a b c d e f)(q:S a b c d e f)(r:T a b c d e f)(s:U a b c d e f)(k:K a b c d e f):∃g,P g/\∃h i j l m,Q g h i j l m/\R g h i j l m/\S g h i j l m/\T g h i j l m/\U g h i j l m/\K g h i j l m:=⟨a,n,b,c,d,e,f,o,p,q,r,s,k⟩
theorem xwn{α β γ δ ε:Sort _}{a:α}{b:β}{c:γ}{d:δ}{e:ε}{P:α->Prop}{Q:α->β->γ->δ->Prop}{R:α->β->γ->δ->Prop}{S:α->β->γ->δ->Prop}{T:α->β->γ->δ->ε->Prop}{K:α->β->γ->δ->ε->Prop}(l:P a)(m:Q a b c d)(n:R a b c d)(o:S a b c d)(p:T a b c d e)(k:K a b c d e):∃f,P f/\∃g h i,Q f g h i/\R f g h i/\S f g h i/\∃j,T f g h i j/\K f g h i j:=⟨a,l,b,c,d,m,n,o,e,p,k⟩
theorem xwj{α β γ δ ε ζ:Sort _}{a:α}{b:β}{c:γ}{d:δ}{e:ε}{f:ζ}{P:α->Prop}{Q:α->β->Prop}{R:α->β->γ->δ->ε->ζ->Prop}{S:α->β->γ->δ->ε->ζ->Prop}{T:α->β->γ->δ->ε->ζ->Prop}{U:α->β->γ->δ->ε->ζ->Prop}{K:α->β->γ->δ->ε->ζ->Prop}(n:P a)(o:Q a b)(p:R a b c d e f)(q:S a b c d e f)(r:T a b c d e f)(s:U a b c d e f)(k:K a b c d e f):∃g,P g/\∃h,Q g h/\∃i j l m,R g h i j l m/\S g h i j l m/\T g h i j l m/\U g h i j l m/\K g h i j l m:=⟨a,n,b,o,c,d,e,f,p,q,r,s,k⟩
theorem Bc{A B:TS}{D:Jc}{σ:St}{H:Hp}(h:let r:=B D;let s:=σ;∀k:St->Hp->Prop,(∀{σ H},r σ H->k σ H)->let E:Jc:={D with nx:=k};A E s H):Vu A B D σ H:=h _ λz=>z
end L2
namespace Nu
open PySem PySem.NumText PyProof.Rows
theorem ext{a b:Str}(h:a.cps.toList=b.cps.toList):a=b:=by
 obtain⟨⟨l⟩⟩:=a;obtain⟨⟨r⟩⟩:=b;cases h;rfl
theorem len(x:Str):x.length=x.cps.toList.length:=by simp[Str.length]
end Nu
namespace Tx
open PySem PySem.Builtin PySem.Builtin.Str PyProof.Rows
theorem De(a b:Str):(a++b).cps.toList=a.cps.toList++b.cps.toList:=cps_toList_append a b
def jl(sep:J_):List (List Nat)->List Nat
|[]=>[]
|[x]=>x
|x::y::r=>x++sep++jl sep (y::r)
theorem FI(a:Str):∀b:List Str,(Str.join a b).cps.toList=jl a.cps.toList (b.map λt=>t.cps.toList)
|[]=>rfl
|[x]=>rfl
|x::y::r=>by
 have e:Str.join a (x::y::r)=x++a++Str.join a (y::r):=rfl;rw[e,De,De,FI a (y::r)];rfl
theorem Ts{c:Nat}:∀{x y A B:J_},c∉x->c∉y->x++c::A=y++c::B->x=y/\A=B
|[],[],A,B,_,_,h=>⟨Z,by simpa using h⟩
|[],y::ys,A,B,_,hy,h=>by
 simp at h;exact absurd (by rw[h.1];exact C8) hy
|x::xs,[],A,B,hx,_,h=>by
 simp at h;exact absurd (by rw[<-h.1];exact C8) hx
|x::xs,y::ys,A,B,hx,hy,h=>by
 simp at h;obtain⟨e,h⟩:=h;obtain⟨a,b⟩:=Ts (x:=xs) (y:=ys) (λz=>hx (C9 _ z)) (λz=>hy (C9 _ z)) h;exact⟨by rw[e,a],b⟩
theorem Wf(c:Nat)(s:J_):∀(as bs:List (List Nat)),as≠[]->bs≠[]->(∀t∈as,c∉t)->(∀t∈bs,c∉t)->jl (c::s) as=jl (c::s) bs->as=bs
|[],_,h,_,_,_,_=>absurd Z h
|_,[],_,h,_,_,_=>absurd Z h
|[x],[y],_,_,_,_,e=>by
 have a:x=y:=e;rw[a]
|[x],y::z::r,_,_,ha,_,e=>by
 have a:x=y++c::s++jl (c::s) (z::r):=e;exact absurd (by rw[a];simp) (ha x C8)
|x::z::r,[y],_,_,_,hb,e=>by
 have a:x++c::s++jl (c::s) (z::r)=y:=e;exact absurd (by rw[<-a];simp) (hb y C8)
|x::x2::r,y::y2::r',_,_,ha,hb,e=>by
 have a:x++c::(s++jl (c::s) (x2::r))=y++c::(s++jl (c::s) (y2::r')):=by
  have:x++c::s++jl (c::s) (x2::r)=y++c::s++jl (c::s) (y2::r'):=e
  simpa using this
 obtain⟨d,f⟩:=Ts (ha x C8) (hb y C8) a;rw[d,Wf c s (x2::r) (y2::r') B0 B0 (λt b=>ha t (C9 _ b)) (λt b=>hb t (C9 _ b)) (List.append_cancel_left f)]
theorem RD {as bs:K_} (h:as.map (λt=>t.cps.toList)=bs.map λt=>t.cps.toList):as=bs:=by
 induction as generalizing bs with
 |nil=>cases bs with|nil=>rfl|cons=>simp at h
 |cons a r c =>
  cases bs with
  |nil=>simp at h
  |cons b q =>
   simp at h;rw[Nu.ext (a:=a) (b:=b) (by simpa using h.1),c (by simpa using h.2)]
theorem TU(c:Nat)(b:K_)(d:b≠[])(g:∀t∈b,c∉t.cps.toList):Txt.split (Str.join ⟨#[c]⟩ b) ⟨#[c]⟩=b:=by
 refine RD (Wf c [] _ _ ?_ ?_ ?_ ?_ ?_)
 .intro h;have:=split_pos (Str.join ⟨#[c]⟩ b) ⟨#[c]⟩;have i:(Txt.split (Str.join ⟨#[c]⟩ b) ⟨#[c]⟩).length=0:=by simpa using A2c List.length h
  lia
 .simpa using d
 .intro t f;refine xea (D0.mp f) λp e a=>?_;subst a;exact StrLaws.split_free _ c p e
 .intro t f;refine xea (D0.mp f) λp e a=>?_;subst a;exact g p e
 .have h:=A2c (λz:Str=>z.cps.toList) (StrLaws.join_split (Str.join ⟨#[c]⟩ b) ⟨#[c]⟩);rw[FI,FI]at h;exact h
theorem EJ(c:Nat)(a b:Str)(h:c∉a.cps.toList):Txt.partition (a++⟨#[c]⟩++b) ⟨#[c]⟩=(a,⟨#[c]⟩,b):=by
 have d:c∈(a++⟨#[c]⟩++b).cps.toList:=by rw[De,De];simp
 have s:=partition_head (a++⟨#[c]⟩++b) ⟨#[c]⟩;have g:=StrLaws.found_one (a++⟨#[c]⟩++b) c;rw[A0e d]at g;have f:(Txt.partition (a++⟨#[c]⟩++b) ⟨#[c]⟩).2.1=⟨#[c]⟩:=by
  unfold Txt.partition;cases e:occurrences (a++⟨#[c]⟩++b) ⟨#[c]⟩ 0 (a++⟨#[c]⟩++b).length 1 with
  |nil=>rw[e]at g;simp at g
  |cons i l=>rfl
 have m:c∉(Txt.partition (a++⟨#[c]⟩++b) ⟨#[c]⟩).1.cps.toList:=by
  rcases s with ⟨_,no⟩|⟨i,e,r,no⟩
  .obtain⟨j,t⟩:=M5 d;exact absurd ((StrLaws.subAt_one _ c j).mpr t) (no j)
  .rw[e];exact StrLaws.part_free _ c 0 i (by have:i+1<=_:=r.1;lia) λk _ u=>no k u
 have e:(Txt.partition (a++⟨#[c]⟩++b) ⟨#[c]⟩).1.cps.toList++(Txt.partition (a++⟨#[c]⟩++b) ⟨#[c]⟩).2.1.cps.toList++(Txt.partition (a++⟨#[c]⟩++b) ⟨#[c]⟩).2.2.cps.toList=a.cps.toList++[c]++b.cps.toList:=by
  have n:=A2c (λz:Str=>z.cps.toList) (StrLaws.partition_sum (a++⟨#[c]⟩++b) ⟨#[c]⟩);rw[De,De,De,De]at n;exact n
 rw[f]at e;have o:(Txt.partition (a++⟨#[c]⟩++b) ⟨#[c]⟩).1.cps.toList++c::(Txt.partition (a++⟨#[c]⟩++b) ⟨#[c]⟩).2.2.cps.toList=a.cps.toList++c::b.cps.toList:=by simpa using e
 obtain⟨p,q⟩:=Ts m h o;exact Prod.ext (Nu.ext p) (Prod.ext f (Nu.ext q))
theorem NQ{n:Int}(a:0<=n)(b:n<=9):(Str.ofString (toString n))=(⟨#[48+n.toNat]⟩:Str):=by
 obtain⟨m,rfl⟩:=M0 a;exact(show ∀m:Nat,m<10->(Str.ofString (toString (m:Int)))=(⟨#[48+(m:Int).toNat]⟩:Str) by decide +kernel) m A3
end Tx
namespace Tx
open PySem PySem.Builtin PySem.Builtin.Str PyProof.Rows
theorem We:∀a:List (List Nat),jl [] a=a.flatten
|[]=>rfl
|[x]=>by simp[jl]
|x::y::r=>by
 show x++[]++jl [] (y::r)=_;rw[We (y::r)];simp
theorem Yn(c:Str)(m:Nat):∀(l:K_)(b:Nat),(∀t∈l,t.length<=m)->l.foldl (λa t=>a+t.length+c.length) b<=b+l.length*(m+c.length)
|[],b,_=>by simp
|t::r,b,h=>by
 have e:=h t C8;have f:=Yn c m r (b+t.length+c.length) λz d=>h z (C9 _ d);rw[W1,F0,K6];lia
theorem Ps(m:Nat)(h:∀t∈l,t.length<=m)(d:l.length*(m+b.length)<=100000):JoinOk b l=o4:=by
 unfold JoinOk;have c:=Yn b m l 0 h;have e:l.toArray.foldl (λa t=>a+t.length+b.length) 0=l.foldl (λa t=>a+t.length+b.length) 0:=by simp
 rw[e];have:tooLong (l.foldl (λa t=>a+t.length+b.length) 0)=o5:=by
  unfold tooLong;refine A0f ?_;have:(100000:Nat)<=sizeLine:=by decide
  lia
 rw[this];rfl
theorem app_len(a b:Str):(a++b).length=a.length+b.length:=by
 rw[Nu.len,Nu.len,Nu.len,De,C6]
end Tx
namespace Tx
open PySem PySem.Builtin PySem.Builtin.Str PyProof.Rows
theorem aAm(x:Str)(c d k:Nat)(e:x.cps.toList[k]?=n_ c)(a:x.cps.toList[k+1]?=n_ d):StrLaws.At x ⟨#[c,d]⟩ x.length k:=by
 have l:=(B9.mp a).1;refine⟨?_,?_⟩
 .show k+2<=x.length;rw[Nu.len];exact Y5 l
 .rw[StrLaws.subAt_eq];show((x.cps.toList.drop k).take 2==[c,d])=o4;have b:x.cps.toList.drop k=c::d::x.cps.toList.drop (k+2):=by
   rw[List.drop_eq_getElem_cons A3,(B9.mp e).2,List.drop_eq_getElem_cons l,(B9.mp a).2]
  rw[b];simp
def Led(c d:Nat)(l:J_):Prop:=∀k:Nat,l[k]?=n_ c->l[k+1]?=n_ d
theorem Qi{c d a b:Nat}(l:Led c d x.cps.toList)(m:b<=x.length)(i:∀k,a<=k->k<b->¬StrLaws.At x ⟨#[c,d]⟩ x.length k):c∉(strSub x a b).cps.toList:=by
 intro g;rw[StrLaws.strSub_toList]at g;obtain⟨j,e⟩:=M5 g;have f:j<b-a:=by
  have h:=(B9.mp e).1;rw[L7]at h;lia
 rw[Y8 f,List.getElem?_drop]at e;exact i (a+j) (F5 _ _) A3 (aAm x c d (a+j) e (l _ e))
theorem OL{c d:Nat}(j:Led c d x.cps.toList):∀(b:J_)(a f:Nat),StrLaws.ChainG x ⟨#[c,d]⟩ x.length a b f->(∀k,f<=k->¬StrLaws.At x ⟨#[c,d]⟩ x.length k)->∀p∈StrLaws.partsFrom x 2 a b,c∉p.cps.toList
|[],a,f,h,hn,p,hp=>by
 have e:=h;subst e;rw[D4.mp hp];exact Qi j (B8 _) λk l _=>hn k l
|g::r,a,f,h,hn,p,hp=>by
 rcases C1.mp hp with rfl|i
 .exact Qi j (by have:g+2<=_:=h.2.1.1;lia) h.2.2.1
 .exact OL j r _ f h.2.2.2 hn p i
theorem aCW(x:Str):¬Builtin.Str.strKind x<Builtin.Str.strKind (⟨#[59,32]⟩:Str):=by
 have e:Builtin.Str.strKind (⟨#[59,32]⟩:Str)=1:=by simp[Builtin.Str.strKind]
 rw[e];unfold Builtin.Str.strKind;split
 .decide
 .split<;>decide
theorem TV(m:Led 59 32 x.cps.toList):∀p∈Txt.split x ⟨#[59,32]⟩,59∉p.cps.toList:=by
 refine xea (StrLaws.occ_tight x ⟨#[59,32]⟩ A4) λf c l=>?_;have a:59∈x.cps.toList->∃k,StrLaws.At x ⟨#[59,32]⟩ x.length k:=λb=>by
  obtain⟨j,i⟩:=M5 b;exact⟨j,aAm x 59 32 j i (m j i)⟩
 unfold Txt.split;split
 .rename_i g;intro p e;rw[D4.mp e];intro b;obtain⟨k,d⟩:=a b;have q:=d.1;rw[Bool.or_eq_true,A9g,A9g]at g;rcases g with h|h
  .have r:=h;lia
  .exact aCW x h
 .split
  .rename_i n;intro p e;rw[D4.mp e];intro b;obtain⟨k,d⟩:=a b;rw[List.isEmpty_iff.mp n]at c;have o:f=0:=c;exact l k A3 d
  .rw[StrLaws.partsBetween_eq];exact OL m _ 0 f c l
theorem aBT{c d:Nat}(a:c≠d):∀f:List (List Nat),(∀t∈f,c∉t)->Led c d (jl [c,d] f)
|[],_=>λk h=>by simp[jl]at h
|[x],hf=>λk h=>absurd (D8 (show x[k]?=n_ c from h)) (hf x C8)
|x::y::r,hf=>λk h=>by
 have e:jl [c,d] (x::y::r)=x++(c::d::jl [c,d] (y::r)):=by
  show x++[c,d]++jl [c,d] (y::r)=_;simp
 rw[e]at h⊢;by_cases b:k<x.length
 .rw[N5 b]at h;exact absurd (D8 h) (hf x C8)
 .rw[L9 (N9 b)]at h;rw[L9 A3];obtain⟨m,g⟩:∃m,k-x.length=m:=⟨_,Z⟩
  rw[show k+1-x.length=m+1 by lia];rw[g]at h;cases m with
  |zero=>rfl
  |succ m =>
   cases m with
   |zero =>
    have:n_ d=n_ c:=h;exact absurd (A1f this).symm a
   |succ m =>
    rw[Z2,Z2]at h⊢;exact(aBT a (y::r) λt i=>hf t (C9 _ i)) m h
theorem TR(b:K_)(e:b≠[])(g:∀t∈b,59∉t.cps.toList):Txt.split (Str.join ⟨#[59,32]⟩ b) ⟨#[59,32]⟩=b:=by
 have f:Led 59 32 (Str.join ⟨#[59,32]⟩ b).cps.toList:=by
  rw[FI];refine aBT A4 _ λt d=>xea (D0.mp d) λp c a=>?_;subst a;exact g p c
 refine RD (Wf 59 [32] _ _ ?_ ?_ ?_ ?_ ?_)
 .intro h;have:=split_pos (Str.join ⟨#[59,32]⟩ b) ⟨#[59,32]⟩;have i:(Txt.split (Str.join ⟨#[59,32]⟩ b) ⟨#[59,32]⟩).length=0:=by simpa using A2c List.length h
  lia
 .simpa using e
 .intro t d;refine xea (D0.mp d) λp c a=>?_;subst a;exact TV f p c
 .intro t d;refine xea (D0.mp d) λp c a=>?_;subst a;exact g p c
 .have h:=A2c (λz:Str=>z.cps.toList) (StrLaws.join_split (Str.join ⟨#[59,32]⟩ b) ⟨#[59,32]⟩);rw[FI,FI]at h;exact h
end Tx
namespace L2
open PySem PySem.Spec PyProof.Rows
section
variable{κ:Type}[DecidableEq κ]
def Bv(kvs:List (κ×V))(k:κ):Option V:=(kvs.find? λkv=>decide (kv.1=k)).map (·.2)
def DR(kvs:List (κ×V))(k:κ)(v:V):List (κ×V) :=
 if(kvs.any λkv=>decide (kv.1=k))=o4 then kvs.map (λkv=>if kv.1=k then(kv.1,v)else kv)else kvs++[(k,v)]
theorem BV{p:κ×V}{r:List (κ×V)}{k:κ}(e:p.1=k):Bv (p::r) k=n_ p.2:=by simp[Bv,S5,e]
theorem Bz{p:κ×V}{r:List (κ×V)}{k:κ}(e:¬p.1=k):Bv (p::r) k=Bv r k:=by simp[Bv,S5,e]
theorem IT(k:κ):∀kvs:List (κ×V),(kvs.any λa=>decide (a.1=k))=(Bv kvs k).isSome
|[]=>rfl
|p::r=>by
 rw[V7];by_cases e:p.1=k
 .simp only[BV e,A0e e,Bool.true_or,Option.isSome_some]
 .rw[Bz e,A0f e,Bool.false_or];exact IT k r
theorem TC(k j:κ)(y:V):∀kvs:List (κ×V),Bv (kvs.map λa=>if a.1=k then(a.1,y)else a) j=(Bv kvs j).map λx=>if j=k then y else x
|[]=>rfl
|p::r=>by
 have b:=TC k j y r;rw[F8];by_cases h:p.1=k
 .rw[A0g h];by_cases e:p.1=j
  .rw[BV (p:=(p.1,y)) e,BV e,V9,A0g (e.symm.trans h)]
  .rw[Bz (p:=(p.1,y)) e,Bz e,b]
 .rw[A0d h];by_cases e:p.1=j
  .rw[BV (p:=p) e,BV e,V9,A0d (λz=>h (e.trans z))]
  .rw[Bz (p:=p) e,Bz e,b]
theorem Rp(k j:κ)(y:V):∀kvs:List (κ×V),Bv kvs k=o0->Bv (kvs++[(k,y)]) j=if j=k then n_ y else Bv kvs j
|[],_=>by
 by_cases e:k=j
 .rw[A0g e.symm];exact BV (p:=(k,y)) e
 .rw[A0d (λz=>e z.symm)];exact Bz (p:=(k,y)) e
|p::r,hn=>by
 rw[List.cons_append];have a:¬p.1=k:=λz=>by rw[BV z]at hn;cases hn
 rw[Bz a]at hn;have b:=Rp k j y r hn;by_cases e:p.1=j
 .rw[BV e,BV e,A0d (λz=>a (e.trans z))]
 .rw[Bz e,Bz e,b]
theorem FC(kvs:List (κ×V))(k j:κ)(y:V):Bv (DR kvs k y) j=if j=k then n_ y else Bv kvs j:=by
 unfold DR;by_cases a:(kvs.any λc=>decide (c.1=k))=o4
 .rw[A0g a,TC];rw[IT]at a;by_cases e:j=k
  .obtain⟨x,b⟩:=Option.isSome_iff_exists.mp a;rw[A0g e,e,b,V9,A0g rfl]
  .rw[A0d e];cases Bv kvs j with
   |none=>rfl
   |some x=>rw[V9,A0d e]
 .rw[A0d a];refine Rp k j y kvs ?_;rw[IT]at a;cases q:Bv kvs k with
  |none=>rfl
  |some x=>rw[q]at a;exact(a Z).elim
theorem Ij(kvs:List (κ×V))(k:κ)(v:V):(DR kvs k v).length<=kvs.length+1:=by
 unfold DR;split
 .rw[B7];exact F5 _ _
 .rw[C6,F0,P9];exact B8 _
theorem GF{kvs:List (κ×V)}{k:κ}(v:V)(h:Bv kvs k=o0):DR kvs k v=kvs++[(k,v)]:=by
 unfold DR;rw[IT,h];exact A0d A4
theorem Le.isSome_eq(r:Le o u):o.isSome=u.isSome:=by
 cases o with
 |none=>cases u with
  |none=>rfl
  |some _=>exact(show False from r).elim
 |some _=>cases u with
  |none=>exact(show False from r).elim
  |some _=>rfl
theorem Le.getD(r:Le o u)(a:Bh d d'):Bh (o.getD d) (u.getD d'):=by
 cases o with
 |none=>cases u with
  |none=>exact a
  |some _=>exact(show False from r).elim
 |some _=>cases u with
  |none=>exact(show False from r).elim
  |some _=>exact r
theorem KV.val{kvs:List (κ×V)}{vs:List (κ×Value)}(r:KV kvs vs)(k:κ):Le (Bv kvs k) (valueAt vs k):=by
 unfold KV at r;induction r with
 |nil=>exact True.intro
 |@cons p q ps qs h t f =>
  obtain⟨c,d⟩:=h;by_cases e:p.1=k
  .have a:=c.symm.trans e;have b:valueAt (q::qs) k=n_ q.2:=by simp[valueAt,S5,a]
   rw[BV e,b];exact d
  .have a:¬q.1=k:=λz=>e (c.trans z);have b:valueAt (q::qs) k=valueAt qs k:=by simp[valueAt,S5,a]
   rw[Bz e,b];exact f
theorem KV.any(r:KV kvs vs)(k:κ):(kvs.any λa=>decide (a.1=k))=vs.any λa=>decide (a.1=k):=by
 unfold KV at r;induction r with
 |nil=>rfl
 |cons h t b=>rw[V7,V7,b,h.1]
theorem KV.repl(r:KV kvs vs)(k:κ)(f:Bh y u) :
  KV (kvs.map λa=>if a.1=k then(a.1,y)else a) (vs.map λa=>if a.1=k then(a.1,u)else a):=by
 unfold KV at r⊢;induction r with
 |nil=>exact .nil
 |@cons p q ps qs h t d =>
  rw[F8,F8];refine .cons ?_ d;obtain⟨b,c⟩:=h;by_cases e:p.1=k
  .rw[A0g e,A0g (b.symm.trans e)];exact⟨b,f⟩
  .rw[A0d e,A0d (λz=>e (b.trans z))];exact⟨b,c⟩
theorem KV.put(r:KV kvs vs)(k:κ)(a:Bh y u):KV (DR kvs k y) (stored vs k u):=by
 unfold DR stored;rw[r.any k];by_cases e:(vs.any λb=>decide (b.1=k))=o4
 .rw[A0g e,A0g e];exact r.repl k a
 .rw[A0d e,A0d e];exact A3f r ⟨Z,a⟩
theorem KV.length(r:KV kvs vs):kvs.length=vs.length:=A1e r
end
theorem RG{k:Key}(r:Bh (kV k) u):(Cv P w).is k u=o4:=by
 cases k with
 |inl i=>obtain⟨t,e⟩:=(show ∃t,u=Value.int i t from r);subst e;exact UJ P w i t
 |inr x=>obtain⟨t,e⟩:=(show ∃t,u=Value.str x t from r);subst e;exact UI P w x t
theorem RH:∀{ks:List Key}{us:F_},AU (ks.map kV) us->ItemsAre (Cv P w) ks us
|[],_,r=>by rw[Z5]at r;cases r;exact .nil
|k::ks,_,r=>by
 rw[F8]at r;cases r with
 |cons h t=>exact .cons (RG h) (RH t)
abbrev KT(H:Hp):List (List Key×V)->List (List Key×Addr×Value)->Prop:=Paired λp q=>p.1=q.1/\H q.2.1=n_ (.tup (p.1.map kV))/\Bh p.2 q.2.2
theorem KT.val{H:Hp}{kvs:List (List Key×V)}{xs:List (List Key×Addr×Value)}(r:KT H kvs xs)(k:List Key):Le (Bv kvs k) ((atKey xs k).map (·.2)):=by
 induction r with
 |nil=>exact True.intro
 |@cons p q ps qs h t f =>
  refine xa2 h λc _ d=>?_;by_cases e:p.1=k
  .have a:=c.symm.trans e;have b:atKey (q::qs) k=n_ q.2:=by simp[atKey,S5,a]
   rw[BV e,b];exact d
  .have a:¬q.1=k:=λz=>e (c.trans z);have b:atKey (q::qs) k=atKey qs k:=by simp[atKey,S5,a]
   rw[Bz e,b];exact f
theorem KT.repl(r:KT H kvs xs)(k:List Key)(g:Bh y u) :
  KT H (kvs.map λb=>if b.1=k then(b.1,y)else b) (xs.map (putAt k u)):=by
 induction r with
 |nil=>exact .nil
 |@cons p q ps qs h t f =>
  rw[F8,F8];refine .cons ?_ f;refine xa2 h λa c d=>?_;unfold putAt;by_cases e:p.1=k
  .rw[A0g e,A0g (a.symm.trans e)];exact⟨a,c,g⟩
  .rw[A0d e,A0d (λz=>e (a.trans z))];exact⟨a,c,d⟩
theorem KT.put(r:KT H kvs xs)(k:List Key)(c:H b=n_ (.tup (k.map kV)))(a:Bh y u) :
  KT H (DR kvs k y) (storedH xs k b u):=by
 have e:(kvs.any λd=>decide (d.1=k))=(atKey xs k).isSome:=by
  rw[IT,(r.val k).isSome_eq,Option.isSome_map]
 unfold DR storedH;rw[e];by_cases q:(atKey xs k).isSome=o4
 .rw[A0g q,A0g q];exact r.repl k a
 .rw[A0d q,A0d q];exact A3f r ⟨Z,c,a⟩
theorem KT.keeps(r:KT H kvs xs)(c:∀b ys,H b=n_ (.tup ys)->a b=n_ (.tup ys)):KT a kvs xs :=
 Paired.mapP r λ_ _ z=>⟨z.1,c _ _ z.2.1,z.2.2⟩
section
variable{P:N_}{w:Q_}{H:Hp}{h:T_}{a:R_}
theorem aD2(ok:HOk P w H h)(e:Rd H a u):BQ P w H h a u:=e.ok ok
theorem QG(ok:HOk P w H h)(e:Rd H a (.dK kvs)):kvs.length<=sizeLine/\(a==sysModules)=o5/\∃vs,KV kvs vs/\h.DictOf (Cv P w) a vs :=
 show BQ P w H h a (.dK kvs)from aD2 ok e
theorem aGf(ok:HOk P w H h)(e:H a=n_ (.dK kvs)):kvs.length<=sizeLine/\(a==sysModules)=o5/\∃vs,KV kvs vs/\h.DictOf (Cv P w) a vs:=QG ok (.inl e)
theorem OB(ok:HOk P w H h)(e:H a=n_ (.tup (ks.map kV))):(tupleKind (Cv P w)).is h ks a:=by
 exact MD (show BQ P w H h a (.tup (ks.map kV))from ok a _ e) λ_ b r c=>AX c λo f g d=>xe d λn i=>⟨o,b.toArray,n,f,g,i,by simpa using RH r⟩
theorem OQ(ok:HOk P w H h)(e:Rd H a (.dT kvs)):kvs.length<=sizeLine/\(a==sysModules)=o5 /\
  ∃xs,KT H kvs xs/\h.DictOfH (tupleKind (Cv P w)) a xs:=by
 refine Dh (show BQ P w H h a (.dT kvs)from aD2 ok e) λz y xs r c=>CV c λo g f i j k n s=>⟨z,y,xs,r,o,g,f,i,j,k,n,λx b=>?_,s⟩;have all:∀{l:List (List Key×V)}{m:List (List Key×Addr×Value)},KT H l m->∀x∈m,(tupleKind (Cv P w)).is h x.1 x.2.1:=by
  intro l m q;induction q with
  |nil=>intro x b;exact nomatch b
  |@cons p q ps qs d t u =>
   intro x b;rcases C1.mp b with e|b
   .subst e;exact OB ok (by rw[<-d.1];exact d.2.1)
   .exact u x b
 exact all r x b
theorem aGh(ok:HOk P w H h)(e:H a=n_ (.dT kvs)):kvs.length<=sizeLine/\(a==sysModules)=o5 /\
 ∃xs,KT H kvs xs/\h.DictOfH (tupleKind (Cv P w)) a xs:=OQ ok (.inl e)
end
def GW(H:Hp)(a:R_)(y:V)(r:Option V):Prop :=
 (∃kvs k,Rd H a (.dK kvs)/\y=kV k/\r=Bv kvs k)\/∃kvs k b,Rd H a (.dT kvs)/\y=.ref b/\H b=n_ (.tup (k.map kV))/\r=Bv kvs k
def Mq(H:Hp)(a:R_)(y v:V)(H':Hp):Prop :=
 (∃kvs k,H a=n_ (.dK kvs)/\y=kV k/\kvs.length<sizeLine/\H'=upd H a (.dK (DR kvs k v))) \/
 ∃kvs k b,H a=n_ (.dT kvs)/\y=.ref b/\H b=n_ (.tup (k.map kV))/\kvs.length<sizeLine/\H'=upd H a (.dT (DR kvs k v))
theorem GW.k{H:Hp}{a:R_}{kvs:List (Key×V)}{k:Key}(e:H a=n_ (.dK kvs)):GW H a (kV k) (Bv kvs k):=.inl ⟨kvs,k,.inl e,Z,Z⟩
theorem GW.t{H:Hp}{a b:R_}{kvs:List (List Key×V)}{k:List Key}(e:H a=n_ (.dT kvs))(c:H b=n_ (.tup (k.map kV))):GW H a (.ref b) (Bv kvs k):=.inr ⟨kvs,k,b,.inl e,Z,c,Z⟩
theorem Mq.k{H:Hp}{a:R_}{kvs:List (Key×V)}{k:Key}{v:V}(e:H a=n_ (.dK kvs))(b:kvs.length<sizeLine):Mq H a (kV k) v (upd H a (.dK (DR kvs k v))):=.inl ⟨kvs,k,e,Z,b,Z⟩
theorem Mq.t{H:Hp}{a b:R_}{kvs:List (List Key×V)}{k:List Key}{v:V}(e:H a=n_ (.dT kvs))(c:H b=n_ (.tup (k.map kV)))(d:kvs.length<sizeLine) :
 Mq H a (.ref b) v (upd H a (.dT (DR kvs k v))):=.inr ⟨kvs,k,b,e,Z,c,d,Z⟩
section
variable{X:Cx}{n9:A_}{σ:St}{H:Hp}{s:P_}{a:R_}{y v:V}{u r:S_}{o:Option V}{A:Around}{E:B_}
theorem Inv.big(I:Inv X n9 σ H s):sysModules<s.heap.objs.size:=by
 have h:=(I.mod.glob.keeps I.bk).lt;exact W4 A4 h
theorem Zr(D:A.units+1<cLine)(I:Inv X n9 σ H s)(g:GW H a y (n_ v))(q:Bh y u)(h:∀f t,Inv X n9 σ H t->Bh v f->Q f t) :
  wpAny (model X.prog X.w) A (getItem (.ref a) u) Q E s:=by
 rcases g with ⟨kvs,k,e,j,l⟩|⟨kvs,k,b,e,j,x,l⟩
 .subst j;exact Dh (QG I.hok e) λz B vs c i=>xea (Le.some_of (v:=v) (o:=valueAt vs k) (by rw[l];exact c.val k)) λf n d=>wpAny_getItem_of (RG q) i.mapOf n (h f _ (I.tok _) d)
 .subst j;cases(show u=Value.ref b from q);refine Dh (OQ I.hok e) λz B xs c i=>xea (Le.some_of (v:=v) (o:=(atKey xs k).map (·.2)) (by rw[l];exact c.val k)) λf n d=>xea (D5.mp n) λp C m=>wpAny_getItem_heap (A6h D) (OB I.hok x) i C ?_;rw[m];exact h f _ (I.tok _) d
theorem aCN(p:A.units+1<cLine)(I:Inv X n9 σ H s)(g:GW H a y o)(j:Bh y u)(h:∀m,Inv X n9 σ H m->Q (.bool (!o.isSome)) m) :
  wpAny (model X.prog X.w) A (compareOp .NotIn u (.ref a)) Q E s:=by
 rcases g with ⟨kvs,k,e,f,l⟩|⟨kvs,k,b,e,f,n,l⟩
 .subst f;refine Dh (QG I.hok e) λz i vs c d=>wpAny_notIn_of (RG j) i d.mapOf ?_;rw[<-(c.val k).isSome_eq,<-l];exact h _ (I.tok _)
 .subst f;cases(show u=Value.ref b from j);refine Dh (OQ I.hok e) λz i xs c d=>wpAny_notIn_heap (A6h p) (OB I.hok n) i d ?_;have q:=(c.val k).isSome_eq;rw[Option.isSome_map]at q;rw[<-q,<-l];exact h _ (I.tok _)
theorem Tk{c:HO}(I:Inv X n9 σ H s)(h:Mut (H a))(g:Heap.SameBut a s.heap h')(f:∃q,h'.get? a=n_ q)(new:BQ X.prog X.w (upd H a c) h' a c) :
  Inv X n9 σ (upd H a c) {s with heap:=h',toks:=t'} :=
 I.write (x:=a) (e:=a) h (.inl Z) (λb q d z=>(g.2 b d).trans z) f new
theorem aEY{c:Hp}(z:kvs.length<=sizeLine)(e:(a==sysModules)=o5)(b:KV kvs vs)(d:h'.DictOf (Cv P w) a vs) :
 BQ P w c h' a (.dK kvs):=⟨z,e,vs,b,d⟩
theorem Zq(V:A.units+1<cLine)(I:Inv X n9 σ H s)(g:Mq H a y v D)(L:Bh y u)(K:Bh v r)(h:∀M,Inv X n9 σ D M->Q () M) :
  wpAny (model X.prog X.w) A (setItem (.ref a) u r) Q E s:=by
 rcases g with ⟨kvs,k,e,n,l,m⟩|⟨kvs,k,b,e,n,F,l,m⟩
 .subst n m;refine Dh (aGf I.hok e) λz p vs d j=>?_;have B:vs.length<=sizeLine:=by rw[<-d.length];exact z
  have t:(DR kvs k v).length<=sizeLine:=by have:=Ij kvs k v;lia
  refine wpAny_setItem_pairs (hsz:=B) (RG L) j λh' f x=>h _ ?_;have U:∃q,h'.get? a=n_ q:=let ⟨q,_,_,i,_⟩:=f;⟨q,i⟩;exact Tk I (by rw[e];exact True.intro) x U (aEY t p (d.put k K) f)
 .subst n m;cases(show u=Value.ref b from L);refine Dh (aGh I.hok e) λz p xs d j=>?_;have B:xs.length<=sizeLine:=by rw[<-A1e d];exact z
  have t:(DR kvs k v).length<=sizeLine:=by have:=Ij kvs k v;lia
  refine wpAny_setItem_heap (hsz:=B) (A6h V) (OB I.hok F) j λh' f x=>h _ ?_;refine CV f λq O N i P R S C=>xa C λ_ T=>Tk I (by rw[e];exact True.intro) x ⟨q,i⟩ ⟨t,p,_,(d.put k F K).keeps λc ys G=>?_,q,O,N,i,P,R,S,T⟩;rw[Ax (AI G e (λz=>nomatch z))];exact G
end
def aF2(i:Expr):Prop:=∀ov iv,subscripted i o5 ov iv=operate [ov,iv] (getItem ov iv)
theorem aDF{prog:N_}{w:Q_}{A:Around}{E:B_}{s:P_}{g:Env}{b a:Expr}{pos:Pos}{T id:String}{Q:B_}
  (m:typeLookup (.type T) "__getitem__" = pure (n_ (.builtin id))) (n:aF2 a)
  (h:wpAny (model prog w) A (eval b g) (λo e=>wpAny (model prog w) A (eval a g) (λi c=>c.TypeIs o T/\wpAny (model prog w) A (getItem o i) Q E c) E e) E s) :
  wpAny (model prog w) A (eval (.Subscript b a pos) g) Q E s:=by
 refine Subscript_ (A3d h (λo e j=>A3d j (λi c d=>?_) λ_ _ x=>x) λ_ _ x=>x);obtain⟨l,d⟩:=d;unfold subscriptTail;refine A0c ?_;rw[getitemInPython_of_ne l.not_modules];refine A0c (wpAny_specialOf l m ?_);have fin:wpAny (model prog w) A (subscripted a o5 o i) (λr f=>wpAny (model prog w) A (letTemporaryGo b o r >>= λ_=>pure r) Q E f) E c:=by
  rw[n o i];exact wpAny_operating (A3d d (λr f k=>A0c (wpAny_letTemporaryGo (A0h k))) λ_ _ x=>x)
 first
  |exact A0h (A0c fin)
  |exact A0c (A0h (A0c fin))
  |exact A0c fin
theorem UV{c:A_}(I:Inv X c σ H s)(g:GW H a y o):s.TypeIs (.ref a) "dict" := by
 rcases g with ⟨kvs,k,e,_,_⟩|⟨kvs,k,b,e,_,_,_⟩
 .exact Dh (QG I.hok e) λ_ _ vs _ d=>d.typeIs
 .exact Dh (OQ I.hok e) λ_ _ xs _ d=>d.typeIs
def aHu(td ty:TE):TE:=fun σ H Q=>td σ H λx H1=>ty σ H1 λy H2=>∃a v,x=.ref a/\GW H2 a y (n_ v)/\Q v H2
def aDG(ty td:TE):TE:=fun σ H Q=>ty σ H λy H1=>td σ H1 λx H2=>∃a o,x=.ref a/\GW H2 a y o/\Q (.bl (!o.isSome)) H2
def aHV(td ty tv:TE):TS:=λD σ H=>tv σ H λv H1=>td σ H1 λx H2=>ty σ H2 λy H3=>∃a H4,x=.ref a/\Mq H3 a y v H4/\D.nx σ H4
section
variable{X:Cx}{o i e value:Expr}{pos pos' tpos:Pos}{td ty tv:TE}
theorem SF(r:X.A.units+1<cLine)(p:PE X o td)(n:PE X i ty)(q:aF2 i):PE X (.Subscript o i pos) (aHu td ty):=by
 intro b s σ H Q I h;refine aDF PySem.F.slot_dict_getitem.lookup q (thn (p b s σ H _ I h) λu C ⟨x,f,k,z,t⟩=>thn (n b C σ f _ k t) λD E ⟨y,j,d,B,a,v,m,g,w⟩=>?_);subst m;obtain rfl:u=Value.ref a:=z;exact⟨UV d g,Zr r d g B λK G l c=>⟨v,j,l,c,w⟩⟩
theorem YM(r:X.A.units+1<cLine)(p:PE X i ty)(q:PE X o td):PC X .NotIn i o (aDG ty td):=by
 intro b s σ H Q I h;refine thn (p b s σ H _ I h) λD C c=>AS c λy f k B v=>thn (q b C σ f _ k v) λu E c=>AS c λx j l z d=>AS d λa t n g w=>?_;subst n;obtain rfl:u=Value.ref a:=z;exact aCN r l g B λF m=>⟨.bl (!t.isSome),j,m,Z,w⟩
theorem Fw(w:X.A.units+1<cLine)(q:PE X o td)(p:PE X i ty)(z:PE X value tv)(t:swapsWith value (n_ (.Subscript o i pos')) pos.line X.env=pure o5) :
  PS X (.Assign [.Subscript o i pos'] value pos) (aHV td ty tv):=by
 intro b s σ H D I h;refine wpAny_Assign_Subscript (thn (z b s σ H _ I h) λr L ⟨v,c,j,F,B⟩=>thn (q b L σ c _ j B) λu M ⟨x,d,k,G,C⟩=>thn (p b M σ d _ k C) λO P ⟨y,N,l,K,a,f,n,g,E⟩=>?_) t;subst n;obtain rfl:u=Value.ref a:=G;exact Zq w l g K F λQ m=>⟨σ,f,m,E⟩
end
theorem aA0(h:T_)(a:sysModules<h.objs.size):BQ P w H (h.push {cls:=.type "dict",data:=.dict #[]}) h.objs.size (.dK []) :=
 ⟨M7 _,beq_eq_false_iff_ne.mpr (A1a (L8 a)),[],.nil,Heap.DictOf.new h⟩
theorem aA1(h:T_)(a:sysModules<h.objs.size):BQ P w H (h.push {cls:=.type "dict",data:=.dict #[]}) h.objs.size (.dT []) :=
 ⟨M7 _,beq_eq_false_iff_ne.mpr (A1a (L8 a)),[],.nil,_,#[],0,F2 _ Z,⟨Z,Z,Z⟩,Z,Z,T3⟩
def aFp:TE:=λ_ H Q=>∀p,H p=o0->Q (.ref p) (upd H p (.dK []))
def aFq:TE:=λ_ H Q=>∀p,H p=o0->Q (.ref p) (upd H p (.dT []))
section
variable{X:Cx}{pos:Pos}
theorem Lw:PE X (.Dict [] [] pos) aFp:=λb s σ H Q I h =>
 wpAny_Dict_empty ⟨.ref s.heap.objs.size,_,I.laid (a:=s.heap.objs.size) (o:=.dK []) (t':=s.toks) (λ_ _ q=>C3 _ q) (B8 _) (aA0 s.heap I.big),Z,h _ (I.hok.fresh (B8 _))⟩
theorem Lu:PE X (.Dict [] [] pos) aFq:=λb s σ H Q I h =>
 wpAny_Dict_empty ⟨.ref s.heap.objs.size,_,I.laid (a:=s.heap.objs.size) (o:=.dT []) (t':=s.toks) (λ_ _ q=>C3 _ q) (B8 _) (aA1 s.heap I.big),Z,h _ (I.hok.fresh (B8 _))⟩
end
structure M1(X:Cx)(o:Expr)(m:Str)(apos:Pos)(e:Expr)(cpos:Pos):Prop where
n8:attributeBase o m X.env (eval o X.env)=eval o X.env
few:((backTo cpos (starEach [e] X.env)).all (λx=>!x.1) && (backToKw cpos (keywordEach [] X.env)).all (λx=>x.1.isSome)
 && decide (([e]:List Expr).length+([]:List Keyword).length+(if([]:List Keyword).isEmpty then 0 else 1)<30))=o4
line:(apos.endLine==cpos.line)=o4
trees:backTo cpos (starEach [e] X.env)=[(o5,eval e X.env)]
structure M2(X:Cx)(o:Expr)(m:Str)(apos:Pos)(e f:Expr)(cpos:Pos):Prop where
n8:attributeBase o m X.env (eval o X.env)=eval o X.env
few:((backTo cpos (starEach [e,f] X.env)).all (λx=>!x.1) && (backToKw cpos (keywordEach [] X.env)).all (λx=>x.1.isSome)
 && decide (([e,f]:List Expr).length+([]:List Keyword).length+(if([]:List Keyword).isEmpty then 0 else 1)<30))=o4
line:(apos.endLine==cpos.line)=o4
trees:backTo cpos (starEach [e,f] X.env)=[(o5,eval e X.env),(o5,eval f X.env)]
def IsD(H:Hp)(a:R_):Prop:=(∃kvs,Rd H a (.dK kvs))\/∃kvs,Rd H a (.dT kvs)
theorem aBG(I:Inv X g σ H s)(d:IsD H a) :
  s.TypeIs (.ref a) "dict" /\ (∀b,Value.ref a=.ref b->∃c,s.heap.get? b=n_ c/\c.dict=o0)/\(a==sysModules)=o5:=by
 rcases d with ⟨kvs,e⟩|⟨kvs,e⟩
 .refine Dh (QG I.hok e) λ_ j vs _ f=>⟨f.typeIs,λb q=>?_,j⟩
  cases q;exact Dw f λc _ _ h i _=>⟨c,h,i.2.1⟩
 .refine Dh (OQ I.hok e) λ_ j xs _ f=>⟨f.typeIs,λb q=>?_,j⟩
  cases q;exact Dw f λc _ _ h i _=>⟨c,h,i.2.1⟩
section
variable{X:Cx}{n9:A_}{σ:St}{H:Hp}{s:P_}{a:R_}{y d:V}{u r:S_}{o:Option V}{A:Around}{E:B_}
theorem aEW(t:A.units+1<cLine)(I:Inv X n9 σ H s)(g:GW H a y o)(m:Bh y u)(h:∀p n,Inv X n9 σ H n->Bh (o.getD .non) p->Q p n) :
  wpAny (model X.prog X.w) A (call (.builtin "dict.get") [.ref a,u]) Q E s:=by
 rcases g with ⟨kvs,k,e,i,l⟩|⟨kvs,k,b,e,i,q,l⟩
 .subst i;refine Dh (QG I.hok e) λz j vs c f=>call_meetsIn A4a f.typeIs A6e (PySem.F.args_dict_get_2 _ _) (meets_dict_get (Cv X.prog X.w) a (RG m) j) ⟨_,f.mapOf,h _ _ (I.tok _) ?_⟩;rw[l];exact(c.val k).getD Z
 .subst i;cases(show u=Value.ref b from m);refine Dh (OQ I.hok e) λz j xs c f=>call_meetsIn A4a f.typeIs A6e (PySem.F.args_dict_get_2 _ _) (meetsH_dict_get (tupleKind (Cv X.prog X.w)) a b j) ⟨A6h t,k,xs,OB I.hok q,f,h _ _ (I.tok _) ?_⟩;rw[l];exact(c.val k).getD Z
theorem aEX(v:A.units+1<cLine)(I:Inv X n9 σ H s)(g:GW H a y o)(n:Bh y u)(m:Bh d r)(h:∀q p,Inv X n9 σ H p->Bh (o.getD d) q->Q q p) :
  wpAny (model X.prog X.w) A (call (.builtin "dict.get") [.ref a,u,r]) Q E s:=by
 rcases g with ⟨kvs,k,e,i,l⟩|⟨kvs,k,b,e,i,t,l⟩
 .subst i;refine Dh (QG I.hok e) λz j vs c f=>call_meetsIn A4a f.typeIs A6e (PySem.F.args_dict_get_3 _ _ _) (meets_dict_get_default (Cv X.prog X.w) a (RG n) j r) ⟨_,f.mapOf,h _ _ (I.tok _) ?_⟩;rw[l];exact(c.val k).getD m
 .subst i;cases(show u=Value.ref b from n);refine Dh (OQ I.hok e) λz j xs c f=>call_meetsIn A4a f.typeIs A6e (PySem.F.args_dict_get_3 _ _ _) (meetsH_dict_get_default (tupleKind (Cv X.prog X.w)) a b j r) ⟨A6h v,k,xs,OB I.hok t,f,h _ _ (I.tok _) ?_⟩;rw[l];exact(c.val k).getD m
end
def aFn(td ty:TE):TE:=fun σ H Q=>td σ H λx H1=>∃a,x=.ref a/\IsD H1 a/\ty σ H1 λy H2=>∃o,GW H2 a y o/\Q (o.getD .non) H2
def aFo(td ty tx:TE):TE:=fun σ H Q=>td σ H λx H1=>∃a,x=.ref a/\IsD H1 a/\ty σ H1 λy H2=>tx σ H2 λz H3=>∃o,GW H3 a y o/\Q (o.getD z) H3
section
variable{X:Cx}{o e f:Expr}{apos cpos:Pos}{td ty tx:TE}
theorem IW(w:X.A.units+1<cLine)(v:PE X o td)(t:PE X e ty)(m:M1 X o "get" apos e cpos):PE X (.Call (.Attribute o "get" apos) [e] [] cpos) (aFn td ty):=by
 intro b s σ H Q I h;refine wpAny_Call_method m.n8 m.few m.line PySem.F.plainAttrs_dict A4a PySem.F.type_dict_get (thn (v b s σ H _ I h) λu E r=>?_);refine AS r λx k j C i=>AX i λa q d z=>?_;subst q;obtain rfl:u=Value.ref a:=C;refine xa2 (aBG j d) λG K _=>⟨G,K,?_⟩
 rw[m.trees];refine A8f Z (A9d (A7g (thn (t b E σ k _ j z) λL N ⟨y,l,n,D,M,g,B⟩=>Calls.spliced_nil ?_)));exact aEW w n g D λP O p c=>⟨_,l,p,c,B⟩
theorem Uv(D:X.A.units+1<cLine)(C:PE X o td)(w:PE X e ty)(B:PE X f tx)(m:M2 X o "get" apos e f cpos):PE X (.Call (.Attribute o "get" apos) [e,f] [] cpos) (aFo td ty tx):=by
 intro b s σ H Q I h;refine wpAny_Call_method m.n8 m.few m.line PySem.F.plainAttrs_dict A4a PySem.F.type_dict_get (thn (C b s σ H _ I h) λu O v=>?_);refine AS v λx k j L i=>AX i λa t d E=>?_;subst t;obtain rfl:u=Value.ref a:=L;refine xa2 (aBG j d) λR S _=>⟨R,S,?_⟩
 rw[m.trees];refine A8f Z (A9d (A7g (thn (w b O σ k _ j E) λU P ⟨y,l,p,M,G⟩ =>
  A7g (thn (B b P σ l _ p G) λT W ⟨z,n,q,N,V,g,K⟩=>Calls.spliced_nil ?_))))
 exact aEX D q g M N λw' Y r c=>⟨_,n,r,c,K⟩
end
section
variable{κ:Type}[DecidableEq κ]
theorem ZG{kvs:List (κ×V)}{k:κ}(h:Bv kvs k=o0):¬k∈kvs.map (·.1):=by
 intro m;refine xea (D0.mp m) λp a e=>?_;have q:(kvs.any λb=>decide (b.1=k))=o4:=U6.mpr ⟨p,a,A0e e⟩;rw[IT,h]at q;exact absurd q B0
theorem Yc:∀{l:List κ}{k:κ},l.Nodup->¬k∈l->(l++[k]).Nodup
|[],k,_,_=>by simp
|a::r,k,h,hk=>by
 obtain⟨b,c⟩:=N4.mp h;show(a::(r++[k])).Nodup;refine N4.mpr ⟨λm=>?_,Yc c λm=>hk (C1.mpr (Or.inr m))⟩;rcases F6.mp m with q|q
 .exact b q
 .exact hk (C1.mpr (Or.inl (D4.mp q).symm))
theorem aCd{kvs:List (κ×V)}{k:κ}(v:V)(a:(kvs.map (·.1)).Nodup)(h:Bv kvs k=o0):((DR kvs k v).map (·.1)).Nodup:=by
 rw[GF v h,C7];exact Yc a (ZG h)
end
section
variable{X:Cx}
theorem SE{K:O_}(b:X.K=K)(d:PE X e a)(c:attributeBase e f X.env (eval e X.env)=eval e X.env):PE X (.Attribute e f pos) (aHv K a f):=b▸AF d c
theorem Ja{ns:I_}{a:F_}(f:AU (ns.map V.int) a):∀(i:Nat) v,a.toArray[i]?=n_ v->∃t,v=.int (ns.getD i 0) t:=λi v e=>by
 have e:a[i]?=n_ v:=by simpa using e
 cases c:ns[i]? with
 |none =>
  have:a[i]?=o0:=f.none_of (by rw[C0,c];rfl);rw[e]at this;cases this
 |some b =>
  refine xea (f.get (i:=i) (x:=V.int b) (by rw[C0,c];rfl)) λu d g=>?_;rw[e]at d;cases d;rw[D7,c];obtain⟨t,rfl⟩:=g;exact⟨t,Z⟩
theorem Gm(E:X.calm=o4):GX X (.builtin "min") (λxs H Q=>∃(p:R_)(ns:I_),xs=[.ref p]/\SqL X.K H p (ns.map V.int)/\ns≠[]/\∀m∈ns,(∀x∈ns,m<=x)->Q (.int m) H):=by
 intro g s σ H xs us Q I r h;refine Ep h λp ns k G ne q=>?_;clear h;subst k;cases r with
 |cons M N =>
  cases N;cases(show _=Value.ref p from M);refine AX (I.list G) λa u pl O=>?_;have d:p<s.heap.objs.size:=by refine Cw pl λo n e _=>?_;exact F3 e
  have l:=L8 d;have len:a.toArray.size=ns.length:=by rw[F4,<-u.length,B7]
  have pos:=W2.mpr ne;refine call_min_walk (A7c pl.isList ?_);refine⟨s.heap.objs.size,_,_,_,_,_,_,Z,(Walks.list (A:=X.A.in1) (I.ok.hd E) s.heap.objs.size p l a.toArray),⟨⟨_,F2 _ Z,Z,Z⟩,?_⟩,?_,by rw[len];exact pos,CmpOf.ints_lt (λi=>ns.getD i 0) (Ja u),?_⟩
  .exact pl.isList.at λo e=>C3 _ e
  .intro b c;show b<(s.heap.push _).objs.size;rw[S2];rcases C1.mp c with rfl|c
   .exact V3 _
   .rcases C1.mp c with rfl|c
    .exact K7 d
    .cases c
  .intro v h' tk y kk;have B:Inv X g σ H {s with heap:=h',toks:=tk}:=I.kept λb o e=>kk b o (by intro z;exact L8 (F3 e) (by simpa using z)) (C3 _ e);obtain⟨t,rfl⟩:=Ja u _ _ y;obtain⟨w,b2⟩:=argBest_lt (λi=>ns.getD i 0) (a.toArray.size-1);generalize argBest (λi j=>decide (ns.getD i 0<ns.getD j 0)) (a.toArray.size-1)=z at w b2 y⊢;rw[len]at w b2;have f:z<ns.length:=by lia
   have D:ns.getD z 0=ns[z]:=by rw[D7,C4 f];rfl
   refine⟨.int _,H,B,⟨t,Z⟩,q _ (by rw[D];exact P4 f) λx L=>?_⟩;obtain⟨j,F,e⟩:=K0.mp L;have:=b2 j A3;have C:ns.getD j 0=x:=by rw[D7,C4 F,<-e];rfl
   rw[<-C];exact this
theorem Ml(E:X.calm=o4):GX X (.builtin "max") (λxs H Q=>∃(p:R_)(ns:I_),xs=[.ref p]/\SqL X.K H p (ns.map V.int)/\ns≠[]/\∀m∈ns,(∀x∈ns,x<=m)->Q (.int m) H):=by
 intro g s σ H xs us Q I r h;refine Ep h λp ns k G ne q=>?_;clear h;subst k;cases r with
 |cons M N =>
  cases N;cases(show _=Value.ref p from M);refine AX (I.list G) λa u pl O=>?_;have d:p<s.heap.objs.size:=by refine Cw pl λo n e _=>?_;exact F3 e
  have l:=L8 d;have len:a.toArray.size=ns.length:=by rw[F4,<-u.length,B7]
  have pos:=W2.mpr ne;refine call_max_walk (A7c pl.isList ?_);refine⟨s.heap.objs.size,_,_,_,_,_,_,Z,(Walks.list (A:=X.A.in1) (I.ok.hd E) s.heap.objs.size p l a.toArray),⟨⟨_,F2 _ Z,Z,Z⟩,?_⟩,?_,by rw[len];exact pos,CmpOf.ints_gt (λi=>ns.getD i 0) (Ja u),?_⟩
  .exact pl.isList.at λo e=>C3 _ e
  .intro b c;show b<(s.heap.push _).objs.size;rw[S2];rcases C1.mp c with rfl|c
   .exact V3 _
   .rcases C1.mp c with rfl|c
    .exact K7 d
    .cases c
  .intro v h' tk y kk;have B:Inv X g σ H {s with heap:=h',toks:=tk}:=I.kept λb o e=>kk b o (by intro z;exact L8 (F3 e) (by simpa using z)) (C3 _ e);obtain⟨t,rfl⟩:=Ja u _ _ y;obtain⟨w,b2⟩:=argBest_gt (λi=>ns.getD i 0) (a.toArray.size-1);generalize argBest (λi j=>decide (ns.getD i 0 > ns.getD j 0)) (a.toArray.size-1)=z at w b2 y⊢;rw[len]at w b2;have f:z<ns.length:=by lia
   have D:ns.getD z 0=ns[z]:=by rw[D7,C4 f];rfl
   refine⟨.int _,H,B,⟨t,Z⟩,q _ (by rw[D];exact P4 f) λx L=>?_⟩;obtain⟨j,F,e⟩:=K0.mp L;have:=b2 j A3;have C:ns.getD j 0=x:=by rw[D7,C4 F,<-e];rfl
   rw[<-C];exact this
end
theorem Vi(ns a:I_):((List.range (min ns.length a.length)).all (λj=>ns.getD j 0==a.getD j 0) && ns.length==a.length)=decide (ns=a):=by
 rw[S6,S1,T4,A9b,A9c];constructor
 .intro b;obtain⟨c,d⟩:=b;refine List.ext_getElem d λi e f=>?_;have:=c i (M8.mpr A3);rw[A9b,D7,D7,C4 e,C4 f]at this;exact this
 .rintro rfl;exact⟨λx _=>beq_iff_eq.mpr Z,Z⟩
section
variable{X:Cx}
theorem Rq{H:Hp}{ns:I_}{a:F_}(i:AU (ns.map V.int) a){A:Around}{s:P_}{d:I_}{b:F_}(c:AU (d.map V.int) b)(j:Nat)(g:j<a.toArray.size)(h:j<b.toArray.size):PySem.SeqAt.EqAt A s a.toArray[j] b.toArray[j] (ns.getD j 0==d.getD j 0):=by
 obtain⟨t,e⟩:=Ja i j _ (P1 g);obtain⟨u,f⟩:=Ja c j _ (P1 h);rw[e,f];exact PySem.SeqAt.EqAt.int_int _ t _ u
theorem Rx(w:X.A.units+64<cLine):OpR X (compareOp .Eq) (λx y H Q=>∃(a b:R_)(ns e:I_),x=.ref a/\y=.ref b/\SqT X.K H a (ns.map V.int)/\SqT X.K H b (e.map V.int)/\Q (.bl (decide (ns=e))) H):=by
 intro f s σ H x y v u Q I r t h;refine CM h λa b ns e c d k l q=>?_;clear h;subst c;subst d;cases r;cases t;refine AX (I.tuple k) λxs g o _=>AX (I.tuple l) λys i p _=>PySem.SeqAt.eq_tupleAt o p A3 (λj m n=>Rq (H:=H) g i j m n) ?_;rw[F4,F4,<-g.length,<-i.length,B7,B7,Vi];exact⟨.bl _,H,I,Z,q⟩
end
section
variable{prog:N_}{w:Q_}{A:Around}{E:B_}{s:P_}{d it:R_}{o:Obj}{es:Array DictEntry}{ep i:Nat}
theorem Um(f:(d==sysModules)=o5)(b:s.heap.get? d=n_ o)(e:o.ExactDict)(c:o.data=.dict es ep)
  (q:Q (.ref s.heap.objs.size) {s with heap:=s.heap.push {cls:=.type "dict_keyiterator",data:=.fields #[.ref d,.int 0 0,.int es.size 0,.int ep 0]} }):wpAny (model prog w) A (pyIter (.ref d)) Q E s:=by
 have a:s.TypeIs (.ref d) "dict" := ⟨o,b,e.1⟩
 refine wpAny_pyIter_slot a F.slot_dict_iter (A4d F.slot_dict_iter a F.entry_dict_iter ?_ (F.args_dict_iter_1 _));unfold Builtin.«dict.__iter__»;refine A0c ?_;unfold Builtin.Dict.dictSlotNone;refine A0c (wpAny_notOrdered_dict a ?_);show wpAny _ _ (pure (Value.ref d)) _ _ s;refine A0h ?_;show wpAny _ _ (Builtin.Dict.showsAll d >>= _) _ _ s;unfold Builtin.Dict.showsAll;rw[A0d (by rw[f];exact F1)];refine A0c (A0h ?_);refine A0c (A8a b c ?_);refine A0c (wpAny_dictEpoch b c ?_);refine A0c (A5g (A0h ⟨_,Z,"dict_keyiterator",_,⟨_,F2 _ Z,Z⟩,F.slot_dict_keyiterator_next.lookup,?_⟩));simpa[rawInt] using q
theorem aB7(hit:s.heap.IsKeyIter it d i es.size ep)(f:s.heap.get? d=n_ o)(e:o.data=.dict es ep)(g:i<es.size)
  (q:∀h',h'.IsKeyIter it d (i+1) es.size ep->Heap.SameBut it s.heap h'->Q (n_ es[i].key) {s with heap:=h'}):wpAny (model prog w) A (pyNext (.ref it)) Q E s:=by
 refine AX (id hit) λj b h a=>?_;unfold pyNext;refine A0c (A5f (wpAny_callSpecial?_slot (name:=Str.ofString "__next__") hit.typeIs A5d (A4d A5d hit.typeIs F.entry_dict_keyiterator_next ?_ (F.args_dict_keyiterator_next_1 _))));refine A0c (A0h ?_);refine A0c ?_;refine A0c ?_
 (first|refine A0c (A4h hit.typeIs (A0h ?_))|refine A0c (A6f hit.typeIs (A0h ?_)));refine A0c (wpAny_fieldsOf b a ?_)
 have c:Builtin.Dict_items.ownsTuple "dict_keyiterator" = o5:=A4;simp only[c,Q6,A5h];show wpAny _ _ (if(Value.ref d==Value.none)=o4 then _ else _) _ _ s;rw[A0d (show ¬((Value.ref d==Value.none)=o4)from F1)];refine A0c (A0h ?_);refine A0c (A8a f e ?_);rw[A0d B0];refine A0c (A0h ?_);refine A0c (wpAny_dictEpoch f e ?_);rw[A0d B0];refine A0h ?_;simp only[show ¬((i:Int)<0)from by lia,A5h,M4,P1 g];refine A0c ?_
 (first|refine A0c (A4h hit.typeIs (A0h ?_))|refine A0c (A6f hit.typeIs (A0h ?_)));refine A0c (wpAny_isOneOf_keyiter hit.typeIs ?_)
 show wpAny _ _ (setField (.ref it) 1 (rawInt ((i:Int)+1)) >>= _) _ _ s;refine A0c (A9e b a B0 ?_);have next:(s.heap.update it (Obj.mapFields (·.setIfInBounds 1 (rawInt ((i:Int)+1))))).IsKeyIter it d (i+1) es.size ep:=⟨_,X5 _ b (Obj.isFreed_of_fields (A7h a _)),(Obj.cls_mapFields ..).trans h,by rw[A7h a];simp[rawInt]⟩
 refine A0c (A5e ?_);refine A0c (wpAny_isOneOf_keyiter (s:={s with heap:=s.heap.update it (Obj.mapFields (·.setIfInBounds 1 (rawInt ((i:Int)+1))))}) next.typeIs ?_);show wpAny _ _ (pure es[i].key) _ _ _;exact A0h (A0h ⟨_,Z,A0h (q _ next (A7e ..))⟩)
theorem aC6(j:A.handled=o0)(hit:s.heap.IsKeyIter it d i es.size ep)(h:s.heap.get? d=n_ o)(g:o.data=.dict es ep)(k:es.size<=i)
  (q:∀h',Heap.ExtBut it s.heap h'->Q o0 {s with heap:=h'}):wpAny (model prog w) A (pyNext (.ref it)) Q E s:=by
 refine AX (id hit) λn c l f=>?_;unfold pyNext;refine A0c (A5f (wpAny_callSpecial?_slot (name:=Str.ofString "__next__") hit.typeIs A5d (A4d A5d hit.typeIs F.entry_dict_keyiterator_next ?_ (F.args_dict_keyiterator_next_1 _))));refine A0c (A0h ?_);refine A0c ?_;refine A0c ?_
 (first|refine A0c (A4h hit.typeIs (A0h ?_))|refine A0c (A6f hit.typeIs (A0h ?_)));refine A0c (wpAny_fieldsOf c f ?_)
 have e:Builtin.Dict_items.ownsTuple "dict_keyiterator" = o5:=A4;simp only[e,Q6,A5h];show wpAny _ _ (if(Value.ref d==Value.none)=o4 then _ else _) _ _ s;rw[A0d (show ¬((Value.ref d==Value.none)=o4)from F1)];refine A0c (A0h ?_);refine A0c (A8a h g ?_);rw[A0d B0];refine A0c (A0h ?_);refine A0c (wpAny_dictEpoch h g ?_);rw[A0d B0];refine A0h ?_;simp only[show ¬((i:Int)<0)from by lia,A5h,M4,Array.getElem?_eq_none k];refine A0c ?_
 (first|refine A0c (A4h hit.typeIs (A0h ?_))|refine A0c (A6f hit.typeIs (A0h ?_)))
 show wpAny _ _ (setField (.ref it) 0 .none >>= _) _ _ s;refine A0c (A9e c f B0 ?_);show wpAny _ _ (newExc (.type "StopIteration") [] >>= _) _ _ _;refine A0c ?_;simp only[newExc,newTuple];refine A0c (A5g ?_ (by size_fits));refine A0c (m:=firstArgMember _ _) (wpAny_of_eq (a:=Value.none) (by first|rfl|(simp only[firstArgMember];rfl)) ?_);refine A5g ?_ (by size_fits);simp only[raiseNew];refine A0c (wpAny_handled ?_);rw[show A.in1.handled=o0 from j];refine A0c (A0h (wpAny_throw ?_));refine A0c (wpAny_isInstance (T:="StopIteration") (b:=o4) ⟨_,F2 _ Z,Z⟩ isSubtype_stop ?_);exact A0h (q _ (((A7e ..).extBut.push _).push _))
end
def Itd(a:R_)(o:Obj)(kvs:List (List Key×V)):It :=
 ⟨λi H=>H a=n_ (.frz o (.dT kvs))/\i<kvs.length,λi H x H'=>H'=H/\∃b k v,x=.ref b/\kvs[i]?=n_ (k,v)/\H b=n_ (.tup (k.map kV)),λi H=>H a=n_ (.frz o (.dT kvs))/\kvs.length<=i⟩
theorem aA9(ok:HOk P w H h)(e:H a=n_ (.frz o (.dT kvs))) :
  h.get? a=n_ o/\∃(xs:List (List Key×Addr×Value))(b:Array DictEntry)(c:Nat),KT H kvs xs/\o.data=.dict b c/\b.toList=xs.map (entryOfKey (tupleKind (Cv P w))):=by
 refine xa3 (show BQ P w H h a (.frz o (.dT kvs))from ok a _ e) λg z y d=>xea d λxs r f=>CV f λo' b c i l j k m=>?_;rw[g]at i;cases i;exact⟨g,xs,b,c,r,j,k⟩
theorem KT.at_:∀{kvs:List (List Key×V)}{xs:List (List Key×Addr×Value)}{i:Nat}{x:List Key×Addr×Value},KT H kvs xs->xs[i]?=n_ x->∃v,kvs[i]?=n_ (x.1,v)/\H x.2.1=n_ (.tup (x.1.map kV)):=by
 intro kvs xs i x r;induction r generalizing i with
 |nil=>intro e;simp at e
 |@cons p q ps qs h t f =>
  intro e;cases i with
  |zero =>
   have e:q=x:=by simpa using e
   subst e;exact xa2 h λa d _=>⟨p.2,by rw[List.getElem?_cons_zero,<-a],by rw[<-a];exact d⟩
  |succ i =>
   exact xea (f (i:=i) (by simpa using e)) λv b c=>⟨v,by simpa using b,c⟩
theorem PD{P:N_}{w:Q_}{K:O_}{tg:Expr}(a it:R_)(o:Obj)(kvs:List (List Key×V))(l:Array DictEntry)(N:Nat)(r:o.data=.dict l N)(hz:l.size=kvs.length):Rh P w K tg (Itd a o kvs) [it] it (λi h=>h.IsKeyIter it a i l.size N) where
 mem:=by simp
 obj:=λi h st b f=>by
  obtain rfl:b=it:=by simpa using f
  exact AX st λo e c d=>⟨o,e,λv z=>(by rw[d]at z;cases z)⟩
 keep:=λi h h' st k=>st.at λo e=>k it B0 o e
 item:=by
  intro X C G B O i m s σ H E I p st D;subst C G B;obtain⟨F,hi⟩:=D;refine xa (aA9 I.hok F) λA L=>Dw L λxs aa Y kt j M=>?_;rw[r]at j;cases j;have g:i<l.size:=by lia
  refine xa5 (p it B0) λt u f2 x f4 y=>aB7 st A r g λh' n sb=>?_;have Q:i<xs.length:=by rw[<-size_of_entries M];exact g
  refine xea (KT.at_ kt (C4 Q)) λv R S=>?_;have U:l[i].key=.ref xs[i].2.1:=by
   have:=entry_at M i;rw[P1 g,C4 Q]at this;rw[A1f this];rfl
  exact AX (id n) λq e c d=>⟨_,Z,US (s:={s with heap:=h'}) e c d A4 ⟨.ref xs[i].2.1,H,(I.turned (t':=s.toks) (λb o f e=>(sb.2 b f).trans e) t u x f4 y),U,⟨Z,_,_,v,Z,R,S⟩,n,λb f=>(p b f).1⟩⟩
 done:=by
  intro X C G B O i m s σ H E I p st D;subst C G B;obtain⟨F,hi⟩:=D;obtain⟨A,_⟩:=aA9 I.hok F;exact xa5 (p it B0) λt u f2 x f4 y=>aC6 (I.ok.hd O) st A r A3 λh' T=>⟨Z,I.turned (t':=s.toks) (λb o f e=>T b o f e) t u x f4 y⟩
 self:=λ_ _ _ _ _ st h=>wpAny_pyIter_keyiter st h
theorem aEg{a:R_}{o:Obj}{kvs:List (List Key×V)}{g:TG}{w:TS}{D:Jc}{σ:St}{H:Hp}(c:Nat->St->Hp->Prop)(B:c 0 σ H)(F:∀i σ H,i<=kvs.length->c i σ H->H a=n_ (.frz o (.dT kvs)))
  (G:∀i b k v σ H,kvs[i]?=n_ (k,v)->H b=n_ (.tup (k.map kV))->c i σ H->g (.ref b) σ H fun h r=>w {D with nx:=c (i+1),ct:=c (i+1),bk:=D.nx} h r) (C:∀σ H,c kvs.length σ H->D.nx σ H) :
  ∃W:Nat->Nat->St->Hp->Prop,(∃m,W 0 m σ H)/\∀i m σ H,W i m σ H ->
   ((Itd a o kvs).stop i H/\D.nx σ H)\/((Itd a o kvs).go i H/\∃N:St->Hp->Prop,(∀σ' d,N σ' d->∃u,u<m/\W (i+1) u σ' d)/\∀x d,(Itd a o kvs).yld i H x d->g x σ d fun h r=>w {D with nx:=N,ct:=N,bk:=D.nx} h r):=by
 refine⟨λi m σ H=>m=kvs.length-i/\i<=kvs.length/\c i σ H,⟨kvs.length,by simp,M7 _,B⟩,?_⟩;intro i m σ H n;refine xa2 n λf E p=>?_;clear n;subst f;have e:=F i σ H E p;by_cases j:i<kvs.length
 .refine .inr ⟨⟨e,j⟩,c (i+1),fun σ' d z=>⟨_,by lia,Z,Y5 j,z⟩,?_⟩;intro x d q;refine xa q λf l=>Dw l λb k v s y A=>?_;clear l;clear q;subst f;subst s;exact G i b k v σ _ y A p
 .have t:i=kvs.length:=by lia
  subst t;exact .inl ⟨⟨e,B8 _⟩,C σ H p⟩
section
variable{X:Cx}
def aF0(i j:Int):Prop:=0<j/\j<2^64
theorem NB:OpR X (binaryOp .FloorDiv) (rI aF0 λi j=>.int (i/j)):=opI λi j _ _ _ _ _ b q=>by
 have a:=b.1;have d:=b.2;refine floordiv_int (A0a a) (by rw[W7 i (S8 a)];exact q) (.inl (PyProof.noPylong_of_log2 ?_));have c:j.natAbs<2^64:=by lia
 exact D3 ((Nat.log2_lt A3).mpr c) A4
end
end L2
namespace L2
open PySem PySem.W PyProof.Rows
section
variable{rk:Nat->Int}{n:Nat}
def rkC(rk:Nat->Int)(n i j:Nat)(C:Bool->Shared->Prop)(s:P_):Prop:=i<n/\j<n/\C (decide (rk i<rk j)) s
structure Cy(n:Nat)(p:Array Nat):Prop where
sz:p.size=n
pm:p.Perm (List.range n).toArray
def kk(rk:Nat->Int)(p:Array Nat)(i:Nat):Int:=rk (p.getD i 0)
theorem Cy.lt{p:Array Nat}(h:Cy n p){i:Nat}(b:i<n):p.getD i 0<n:=by
 have a:i<p.size:=by rw[h.sz];exact b
 have e:p.getD i 0=p[i]:=by simp[Array.getD,a]
 have:=(Array.Perm.mem_iff h.pm).mp (Array.getElem_mem a);rw[e]
 simpa using this
theorem Cy.rev{p:Array Nat}(h:Cy n p)(i j:Nat):Cy n (kas_rev p i j):=⟨(mirror_size _ _ _ _).trans h.sz,(mirror_perm _ _ _ _).trans h.pm⟩
theorem Cy.bub{p:Array Nat}(h:Cy n p)(i j:Nat):Cy n (bubble p i j):=⟨(bubble_size _ _ _).trans h.sz,(bubble_perm _ _ _).trans h.pm⟩
theorem gd(p:Array Nat)(i:Nat):p.getD i 0=p[i]?.getD 0:=by
 simp
theorem Tb{p:Array Nat}(h:Cy n p){i j:Nat}(a:j<=n)(k:Nat):kk rk (kas_rev p i j) k=if i<=k/\k<j then kk rk p (i+j-1-k)else kk rk p k:=by
 have e:=getElem?_mirror_all (xs:=p) (i:=i) (by rw[h.sz];exact a) k;unfold kk kas_rev;rw[gd,e];split<;>rw[gd]
theorem aBR{p:Array Nat}(h:Cy n p){a d:Nat}(c:a<n)(b:d<=a)(k:Nat):kk rk (bubble p a d) k=if k=a-d then kk rk p a else if a-d<k/\k<=a then kk rk p (k-1)else kk rk p k:=by
 have e:=getElem?_bubble (xs:=p) (by rw[h.sz];exact c) d b k;unfold kk;rw[gd,e];split
 .rw[gd]
 .split<;>rw[gd]
def Up(rk:Nat->Int)(p:Array Nat)(m:Nat):Prop:=∀i j,i<=j->j<m->kk rk p i<=kk rk p j
def Dn(rk:Nat->Int)(p:Array Nat)(m:Nat):Prop:=∀i j,i<=j->j<m->kk rk p j<=kk rk p i
theorem Up.step{p:Array Nat}{m:Nat}(h:Up rk p m)(c:1<=m)(q:kk rk p (m-1)<=kk rk p m):Up rk p (m+1):=λi j a b=>by
 rcases S9.mp b with z|z
 .exact h i j a z
 .subst z;rcases Nat.lt_or_ge i j with y|y
  .exact W6 (h i (j-1) A3 A3) q
  .have:i=j:=W0 a y;subst this;exact R8 _
theorem Dn.step{p:Array Nat}{m:Nat}(h:Dn rk p m)(c:1<=m)(q:kk rk p m<=kk rk p (m-1)):Dn rk p (m+1):=λi j a b=>by
 rcases S9.mp b with z|z
 .exact h i j a z
 .subst z;rcases Nat.lt_or_ge i j with y|y
  .exact W6 q (h i (j-1) A3 A3)
  .have:i=j:=W0 a y;subst this;exact R8 _
theorem Wn{p:Array Nat}(a:Cy n p):∀{f m:Nat}{s:P_}{Q:Nat->Shared->Prop},1<=m->m+f<=n->Up rk p m->(∀r,m<=r->r<=m+f->Up rk p r->(r<m+f->kk rk p r<kk rk p (r-1))->Q r s)->(kas_asc p f m).kasWp (rkC rk n) Q s
|0,m,s,Q,h1,hf,up,k=>k m (B8 _) (B8 _) up λz=>absurd z (R6 _)
|f+1,m,s,Q,h1,hf,up,k=>by
 refine⟨a.lt A3,a.lt A3,?_⟩;by_cases c:kk rk p m<kk rk p (m-1)
 .rw[A0e (show rk (p.getD m 0)<rk (p.getD (m-1) 0)from c)];dsimp only;rw[A0g rfl];exact k m (B8 _) (F5 _ _) up λ_=>c
 .rw[A0f (show ¬rk (p.getD m 0)<rk (p.getD (m-1) 0)from c)];dsimp only;rw[A0d B0];exact Wn a (O6 _ _) A3 (up.step h1 A3) λr e g b d=>k r A3 A3 b λz=>d A3
theorem Qd{p:Array Nat}(b:Cy n p){m q:Nat}(a:m<=n)(c:q+1<=m)(eq:∀i,m-(q+1)<=i->i<m->kk rk p i=kk rk p (m-1))(k:Nat):kk rk (kas_rev p (m-(q+1)) m) k=kk rk p k:=by
 rw[Tb b a];split
 .rename_i z;rw[eq _ A3 A3,eq k z.1 z.2]
 .rfl
theorem Pw:∀{f m q:Nat}{p:Array Nat}{s:P_}{Q:Array Nat×Nat×Nat->Shared->Prop},Cy n p->q+1<=m->m+f<=n->Dn rk p m->(∀i,m-(q+1)<=i->i<m->kk rk p i=kk rk p (m-1)) ->
 (∀a b h,Cy n a->h+1<=b->b<=n->Dn rk a b->(∀i,b-(h+1)<=i->i<b->kk rk a i=kk rk a (b-1))->Q (a,b,h) s)->(kas_desc f p m q).kasWp (rkC rk n) Q s
|0,m,q,p,s,Q,pn,hq,hf,dn,eq,k=>k p m q pn hq hf dn eq
|f+1,m,q,p,s,Q,pn,hq,hf,dn,eq,k=>by
 refine⟨pn.lt A3,pn.lt A3,?_⟩;have one:∀{a:Array Nat},∀i,m+1-(0+1)<=i->i<m+1->kk rk a i=kk rk a (m+1-1):=λi l o=>by
  have:i=m+1-1:=by lia
  rw[this]
 by_cases c:kk rk p m<kk rk p (m-1)
 .rw[A0e (show rk (p.getD m 0)<rk (p.getD (m-1) 0)from c)];dsimp only;rw[A0g rfl];by_cases g:q > 0
  .rw[A0g g];have same:=Qd pn A3 hq eq;refine Pw (pn.rev _ _) (O6 _ _) A3 ?_ one k;refine Dn.step (λi j t r=>?_) A3 ?_
   .rw[same i,same j];exact dn i j t r
   .rw[same m,same (m-1)];exact S8 c
  .rw[A0d g];exact Pw pn (O6 _ _) A3 (dn.step A3 (S8 c)) one k
 .rw[A0f (show ¬rk (p.getD m 0)<rk (p.getD (m-1) 0)from c)];dsimp only;rw[A0d B0];refine⟨pn.lt A3,pn.lt A3,?_⟩;by_cases d:kk rk p (m-1)<kk rk p m
  .rw[A0e (show rk (p.getD (m-1) 0)<rk (p.getD m 0)from d)];dsimp only;rw[A0g rfl];exact k p m q pn hq A3 dn eq
  .rw[A0f (show ¬rk (p.getD (m-1) 0)<rk (p.getD m 0)from d)];dsimp only;rw[A0d B0];have e:kk rk p m=kk rk p (m-1):=by lia
   refine Pw pn (U2 hq A4) A3 (dn.step A3 (P5 e)) (λi l o=>?_) k;rw[K5];by_cases z:i=m
   .rw[z]
   .rw[eq i A3 A3,e]
theorem Wz{m:Nat}{p:Array Nat}{s:P_}{Q:Nat×Array Nat->Shared->Prop}(a:Cy n p)(c:1<=m)(e:m<=n)(f:Dn rk p m)(k:∀r b,Cy n b->r<=n->1<=r->Up rk b r->Q (r,b) s):(kas_tail3 m n p).kasWp (rkC rk n) Q s:=by
 unfold kas_tail3;rw[KasT.kasWp_bind];refine Wn (a.rev _ _) c A3 (λi j l d=>?_) λr g o h _=>k r _ (a.rev _ _) A3 (C5 c g) h;rw[Tb a e,Tb a e,A0g ⟨O6 _ _,D6 l d⟩,A0g ⟨O6 _ _,d⟩];exact f _ _ A3 A3
theorem WX{m:Nat}{p:Array Nat}{s:P_}{Q:Nat×Array Nat->Shared->Prop}(l:Cy n p)(t:m+1<=n)(f:Dn rk p (m+1))(k:∀r d,Cy n d->r<=n->1<=r->Up rk d r->Q (r,d) s):(kas_descPart m n p).kasWp (rkC rk n) Q s:=by
 unfold kas_descPart;rw[KasT.kasWp_bind];refine Pw l (O6 _ _) A3 f (λi o q=>?_) λd u v b e a c eq=>?_
 .have:i=m+1-1:=by lia
  rw[this]
 .dsimp only;split
  .refine Wz (b.rev _ _) A3 a (λi j h g=>?_) k;rw[Qd b a e eq,Qd b a e eq];exact c i j h g
  .exact Wz b A3 a c k
theorem aAy{p:Array Nat}{s:P_}{Q:Nat×Array Nat->Shared->Prop}(f:Cy n p)(w:1<=n)(k:∀r q,Cy n q->r<=n->1<=r->Up rk q r->Q (r,q) s):(kas_count n p).kasWp (rkC rk n) Q s:=by
 unfold kas_count;rw[KasT.kasWp_bind];have t:Up rk p 1:=λi j o l=>by
  have d:i=0:=by lia
  have h:j=0:=by lia
  rw[d,h];exact R8 _
 refine Wn f (B8 _) A3 t λr d h m x=>?_;by_cases e:r=n
 .rw[A0g (by simpa using e)];exact k r p f (K8 e) d m
 .rw[A0d (by simpa using e)];have g:=x A3;by_cases u:r > 1
  .rw[A0g u];refine⟨f.lt (Y7 w),f.lt A3,?_⟩;by_cases c:kk rk p 0<kk rk p (r-1)
   .rw[A0e (show rk (p.getD 0 0)<rk (p.getD (r-1) 0)from c)];dsimp only;rw[A0g rfl];exact k r p f A3 d m
   .rw[A0f (show ¬rk (p.getD 0 0)<rk (p.getD (r-1) 0)from c)];dsimp only;rw[A0d B0];have all:∀i,i<r->kk rk p i=kk rk p (r-1):=λi v=>by
     have a:=m 0 i (O6 _ _) v;have b:=m i (r-1) A3 A3;lia
    have same:∀i,kk rk (kas_rev p 0 r) i=kk rk p i:=λi=>by
     rw[Tb f A3];split
     .rw[all _ A3,all i A3]
     .rfl
    refine WX (f.rev _ _) A3 (Dn.step (λi j o l=>?_) d ?_) k
    .rw[same,same,all i (D6 o l),all j l];exact R8 _
    .rw[same,same];exact S8 g
  .rw[A0d u];have:r=1:=by lia
   subst this;refine WX f A3 (Dn.step (λi j o l=>?_) d (S8 g)) k;have d:i=0:=by lia
   have h:j=0:=by lia
   rw[d,h];exact R8 _
theorem Qf{p:Array Nat}{k:Nat}(g:Cy n p)(j:k<n):∀{f l r:Nat}{s:P_}{Q:Nat->Shared->Prop},l<=r->r<=k->r<=l+f->Up rk p k->(∀i,i<l->kk rk p i<=kk rk p k)->(∀i,r<=i->i<k->kk rk p k<=kk rk p i) ->
 (∀t,t<=k->(∀i,i<t->kk rk p i<=kk rk p k)->(∀i,t<=i->i<k->kk rk p k<=kk rk p i)->Q t s)->(kas_place p k f l r).kasWp (rkC rk n) Q s
|0,l,r,s,Q,h1,h2,h3,up,a,b,c=>by
 have:l=r:=W0 h1 h3;subst this;exact c l h2 a b
|f+1,l,r,s,Q,h1,h2,h3,up,a,b,c=>by
 unfold kas_place;by_cases e:l ≥ r
 .rw[A0g e];have:l=r:=W0 h1 e;subst this;exact c l h2 a b
 .rw[A0d e];refine⟨g.lt j,g.lt A3,?_⟩;by_cases d:kk rk p k<kk rk p ((l+r)/2)
  .rw[A0e (show rk (p.getD k 0)<rk (p.getD ((l+r)/2) 0)from d)];dsimp only;rw[A0g rfl];refine Qf g j A3 A3 A3 up a (λi h m=>?_) c;have:=up ((l+r)/2) i h m;lia
  .rw[A0f (show ¬rk (p.getD k 0)<rk (p.getD ((l+r)/2) 0)from d)];dsimp only;rw[A0d B0];refine Qf g j A3 h2 A3 up (λi h=>?_) b c;have:=up i ((l+r)/2) (O3 h) A3;lia
theorem aAs:∀{f k:Nat}{p:Array Nat}{s:P_}{Q:Array Nat->Shared->Prop},Cy n p->k+f=n->Up rk p k->(∀h,Cy n h->Up rk h n->Q h s)->(kas_bin f p k).kasWp (rkC rk n) Q s
|0,k,p,s,Q,pn,e,up,c=>c p pn (by rw[<-e];exact up)
|f+1,k,p,s,Q,pn,e,up,c=>by
 unfold kas_bin;rw[KasT.kasWp_bind];refine Qf pn A3 (M7 _) (B8 _) (O6 _ _) up (λi v=>absurd v (N3 _)) (λi r u=>absurd u (Nat.not_lt_of_le r)) λt w a b=>aAs (pn.bub _ _) A3 (λi j o l=>?_) c;rw[aBR pn A3 (R3 _ _),aBR pn A3 (R3 _ _),show k-(k-t)=t by lia];by_cases m:i=t
 .rw[A0g m];by_cases d:j=t
  .rw[A0g d];exact R8 _
  .rw[A0d d,A0g ⟨by lia,O3 l⟩];exact b _ A3 A3
 .rw[A0d m];by_cases g:t<i/\i<=k
  .rw[A0g g,A0d A3,A0g ⟨D3 g.1 o,O3 l⟩];exact up _ _ A3 A3
  .rw[A0d g];by_cases d:j=t
   .rw[A0g d];exact a i A3
   .rw[A0d d];by_cases q:t<j/\j<=k
    .rw[A0g q];exact up _ _ A3 A3
    .rw[A0d q];exact up _ _ o A3
theorem aDC{s:P_}{Q:Array Nat->Shared->Prop}(e:1<=n)(c:∀a,Cy n a->Up rk a n->Q a s):(kas_sort n).kasWp (rkC rk n) Q s:=by
 unfold kas_sort;rw[KasT.kasWp_bind];refine aAy ⟨by simp,Array.Perm.refl _⟩ e λr a b g f d=>?_;dsimp only;split
 .rw[show max r 1=r by lia];exact aAs b A3 d c
 .have:r=n:=by lia
  subst this;exact c a b d
theorem aD3{α:Type}{a:Nat->Nat->(Bool->Shared->Prop)->Shared->Prop}{s:P_}(h:∀i j C,i<n->j<n->C (decide (rk i<rk j)) s->a i j C s):∀{t:KasT α}{Q:α->Shared->Prop},t.kasWp (rkC rk n) Q s->t.kasWp a Q s
|.ret _,_,q=>q
|.ask _ _ _,_,⟨h1,h2,h3⟩=>h _ _ _ h1 h2 (aD3 h h3)
end
end L2
namespace L2
open PySem PySem.W PySem.Spec PyProof.Rows
def Ds:List Int->List Int->Bool
|[],[]=>o5
|[],_::_=>o4
|_::_,[]=>o5
|a::as,b::bs=>if a=b then Ds as bs else decide (a<b)
theorem QA:∀a,Ds a a=o5
|[]=>rfl
|a::as=>by unfold Ds;rw[A0g rfl];exact QA as
theorem NG:∀{a b c:I_},Ds a c=o4->Ds a b=o4\/Ds b c=o4
|[],[],_,h=>.inr h
|[],_::_,_,_=>.inl Z
|_::_,_,[],h=>by cases h
|a::as,[],c::cs,_=>.inr Z
|a::as,b::bs,c::cs,h=>by
 unfold Ds at h⊢;by_cases e:a=c
 .subst e;rw[A0g rfl]at h;by_cases d:a=b
  .subst d;rw[A0g rfl,A0g rfl];exact NG h
  .rw[A0d d,A0d (λz=>d z.symm)];rcases Int.lt_or_gt_of_ne d with z|z
   .exact .inl (A0e z)
   .exact .inr (A0e z)
 .rw[A0d e]at h;by_cases d:a=b
  .subst d;rw[A0d e];exact .inr (A0e (A2b h))
  .rw[A0d d];by_cases z:a<b
   .exact .inl (A0e z)
   .by_cases f:b=c
    .lia
    .rw[A0d f];exact .inr (A0e A3)
theorem UN:∀{a b:I_},Ds a b=o5->Ds b a=o5->a=b
|[],[],_,_=>rfl
|[],_::_,h,_=>by cases h
|_::_,[],_,h=>by cases h
|a::as,b::bs,h,h'=>by
 unfold Ds at h h';by_cases c:a=b
 .subst c;rw[A0g rfl]at h h';rw[UN h h']
 .rw[A0d c]at h;rw[A0d (λz=>c z.symm)]at h';have:=A6c h;have:=A6c h';lia
theorem aBV(h:Ds a b=o4):Ds b a=o5:=by
 cases e:Ds b a with
 |false=>rfl
 |true =>
  rcases NG (b:=b) (show Ds a b=o4 from h)with z|z
  ·
   have:Ds a a=o4\/Ds a a=o5:=by cases Ds a a<;>simp
   exact absurd (lexI_two h e) B0
  .rw[QA]at z;cases z
where lexI_two:∀{a b:I_},Ds a b=o4->Ds b a=o4->o5=o4
|[],[],h,_=>h
|[],_::_,_,h=>h
|_::_,[],h,_=>h
|a::as,b::bs,h,h'=>by
 unfold Ds at h h';by_cases c:a=b
 .subst c;rw[A0g rfl]at h h';exact lexI_two h h'
 .rw[A0d c]at h;rw[A0d (λz=>c z.symm)]at h';have:=A2b h;have:=A2b h';lia
def Uh(rows:List (List Int))(i:Nat):Int:=((rows.countP λr=>Ds r (rows.getD i []):Nat):Int)
theorem RO{α:Type}{p q:α->Bool}:∀{l:List α}{x:α},x∈l->(∀y,p y=o4->q y=o4)->p x=o5->q x=o4->l.countP p<l.countP q
|y::l,x,a,h,hp,hq=>by
 rw[Z3,Z3];have le:l.countP p<=l.countP q:=List.countP_mono_left λz _=>h z;rcases C1.mp a with rfl|a
 .rw[hp,hq];simp only[Q6,A5h,A7d];exact Nat.lt_succ_of_le le
 .have:=RO a h hp hq;by_cases b:p y=o4
  .rw[b,h y b];exact Nat.add_lt_add_right this _
  .rw[A0d b];split<;>lia
theorem VG{rows:List (List Int)}{i j:Nat}(d:i<rows.length):decide (Uh rows i<Uh rows j)=Ds (rows.getD i []) (rows.getD j []):=by
 have e:rows.getD i []∈rows:=by
  rw[D7,C4 d];exact P4 d
 unfold Uh;generalize rows.getD i []=a at *
 generalize rows.getD j []=b;cases h:Ds a b with
 |true =>
  refine A0e ?_;have:=RO (p:=λr=>Ds r a) (q:=λr=>Ds r b) e (λy c=>?_) (QA a) h
  .lia
  .rcases NG (b:=b) c with z|z
   .exact z
   .rw[aBV h]at z;cases z
 |false =>
  refine A0f ?_;have:=List.countP_mono_left (l:=rows) (p:=λr=>Ds r b) (q:=λr=>Ds r a) λy _ c=>?_
  .lia
  .rcases NG (b:=a) c with z|z
   .exact z
   .rw[h]at z;cases z
section
variable{prog:N_}{w:Q_}{A:Around}{E:B_}
theorem Yi:∀{xs ys:I_}{us vs:F_}{i:Nat},AU (xs.map V.int) us->AU (ys.map V.int) vs->Q (Ds xs ys) s->KatLex prog w A b (decide (xs.length<ys.length)) Q (us.zip vs) i s
|[],[],_,_,i,.nil,.nil,q=>q
|[],y::ys,_,_,i,.nil,.cons _ _,q=>by
 show Q (decide (0<ys.length+1)) s;rw[A0e (Nat.succ_pos _)];exact q
|x::xs,[],_,_,i,.cons _ _,.nil,q=>by
 show Q (decide (xs.length+1<0)) s;rw[A0f (N3 _)];exact q
|x::xs,y::ys,u::us,v::vs,i,.cons r1 t1,.cons r2 t2,q=>by
 obtain⟨t,rfl⟩:=(show ∃t,u=.int x t from r1)
 obtain⟨t',rfl⟩:=(show ∃t,v=.int y t from r2)
 refine wpAny_eqBool_int ?_;unfold Ds at q;by_cases e:x=y
 .subst e;rw[A0g rfl]at q;simp only[beq_self_eq_true,A7d];rw[show decide ((x::xs).length<(x::ys).length)=decide (xs.length<ys.length) by simp];exact(Yi (b:=b) (i:=i+1) t1 t2 q)
 .rw[A0d e]at q;have a:(x==y)=o5:=by simpa using e
  simp only[a,Q6,A5h];cases b && i==0 with
  |true=>exact oneLt_int q
  |false =>
   exact kat_one _ _ (wpAny_lt_int q)
end
section
variable{X:Cx}
theorem Wv{H:Hp}{h:T_}(ok:HOk X.prog X.w H h){a:List (Addr×List Int)}(s:∀q∈a,H q.1=n_ (.tup (q.2.map V.int))/\q.2≠[]){i:Nat}(f:i<a.length) :
  ∃(b:R_)(o:Obj)(us:F_)(m:Nat),(a.map λq=>Value.ref q.1).getD i Value.none=.ref b/\h.get? b=n_ o/\o.cls=.type "tuple" /\ o.data=.seq us.toArray m/\AU (((a.map (·.2)).getD i []).map V.int) us:=by
 have p:=P4 f;obtain⟨l,t⟩:=s _ p;refine MD (show BQ X.prog X.w H h _ (.tup _)from ok _ _ l) λ_ g r j=>AX j λo e c k=>xe k λn d=>⟨_,o,g,n,?_,e,c,d,?_⟩
 .rw[D7,C0,C4 f];rfl
 .rw[D7,C0,C4 f];exact r
theorem RM(ok:HOk X.prog X.w H h):∀{a:List (Addr×List Int)},(∀q∈a,H q.1=n_ (.tup (q.2.map V.int))/\q.2≠[])->∃fs:List Value,KatTups h (a.map λq=>Value.ref q.1) fs/\fs.length=a.length/\∀v∈fs,∃x t,v=.int x t
|[],_=>⟨[],.nil,Z,λv b=>nomatch b⟩
|q::a,hq=>by
 refine AX (RM ok λy f=>hq y (C9 _ f)) λfs k l m=>?_;obtain⟨e,ne⟩:=hq q (C8 ..);refine MD (show BQ X.prog X.w H h _ (.tup _)from ok _ _ e) λ_ s r g=>AX g λo j c i=>xe i λn d=>?_
 match p:q.2,ne with
 |x::xs,_ =>
  rw[p]at r;cases r with
  |@cons _ u _ us z A =>
   obtain⟨t,rfl⟩:=(show ∃t,u=.int x t from z)
   refine⟨.int x t::fs,.cons j c d B0 k,by rw[F0,F0,l],λv b=>?_⟩;rcases C1.mp b with rfl|b
   .exact⟨x,t,Z⟩
   .exact m v b
end
theorem aER{k:Nat}{tc:TT}{fin:List V->Hp->Prop}(d:Nat->List V->Hp->Prop)(z:d 0 [] H)(C:∀i c H,i<=kvs.length->d i c H->H a=n_ (.frz r (.dT kvs)))
  (D:∀i b kk v c H,kvs[i]?=n_ (kk,v)->H b=n_ (.tup (kk.map kV))->d i c H->Bt k cs g tc s σ (.ref b) c H (d (i+1))) (A:∀c H,d kvs.length c H->fin c H):FK k cs g tc s (Itd a r kvs) σ H fin:=by
 refine⟨λi m c H=>m=kvs.length-i/\i<=kvs.length/\d i c H,⟨kvs.length,by simp,M7 _,z⟩,?_⟩;intro i m c H l;refine xa2 l λf B p=>?_;clear l;subst f;have q:=C i c H B p;by_cases h:i<kvs.length
 .refine .inr ⟨⟨q,h⟩,d (i+1),λo t E=>⟨kvs.length-(i+1),by lia,Z,h,E⟩,λx t y=>?_⟩;refine xa y λf j=>Dw j λb kk v n u w=>?_;clear j;clear y;subst f;subst n;exact D i b kk v c _ u w p
 .have e:i=kvs.length:=by lia
  subst e;exact .inl ⟨⟨q,B8 _⟩,A c H p⟩
end L2
namespace L2
open PySem PySem.W PySem.Spec PyProof.Rows
def aEk(tl:TE):TI:=fun σ H R=>tl σ H λx H1=>∃a kvs,x=.ref a/\Rd H1 a (.dT kvs)/\∀o H2,H2 a=n_ (.frz o (.dT kvs))->(∀b u,H1 b=n_ u->b≠a->H2 b=n_ u)->R (Itd a o kvs) H2
theorem Lr(P:PE X l N):PI X T l (aEk N):=by
 intro g s σ H R I h;refine thn (P g s σ H _ I h) λv d ⟨x,C,k,S,Q⟩=>AS Q λa kvs e f q=>?_;subst e;cases S;rcases f with f|⟨o,f⟩
 .refine Dh (show BQ X.prog X.w C d.heap a (.dT kvs)from k.hok a _ f) λz y xs r j=>CV j λo m t i A p B M=>?_;have G:m.size=kvs.length:=by rw[size_of_entries B,<-A1e r]
  have D:Inv X g σ (upd C a (.frz o (.dT kvs))) d:=Tk (t':=d.toks) k (by rw[f];exact True.intro) ⟨Z,λ_ _=>Z⟩ ⟨o,i⟩ ⟨i,z,y,xs,KT.keeps r λc ys L=>(by rw[Ax (AI L f (λz=>nomatch z))];exact L),o,m,t,i,A,p,B,M⟩;refine Um y i A p ⟨d.heap.objs.size,[d.heap.objs.size],_,_,_,Z,D.kept (t':=d.toks) λb o e=>C3 _ e,PD a _ o kvs m t p G,⟨_,F2 _ Z,Z,Z⟩,λb F=>?_,q o _ Af λb u e n=>by rw[Ax n];exact e⟩;obtain rfl:b=d.heap.objs.size:=by simpa using F
  exact D.fpOk (B8 _) (D.hok.fresh (B8 _))
 .refine xa3 (show BQ X.prog X.w C d.heap a (.frz o (.dT kvs))from k.hok a _ f) λi z y j=>xea j λxs r K=>CV K λo' m t E A p B M=>?_;have O:=A1f (i.symm.trans E);subst O;have G:m.size=kvs.length:=by rw[size_of_entries B,<-A1e r]
  refine Um y i A p ⟨d.heap.objs.size,[d.heap.objs.size],_,_,_,Z,k.kept (t':=d.toks) λb o e=>C3 _ e,PD a _ o kvs m t p G,⟨_,F2 _ Z,Z,Z⟩,λb F=>?_,q o _ f λb u e n=>e⟩;obtain rfl:b=d.heap.objs.size:=by simpa using F
  exact k.fpOk (B8 _) (k.hok.fresh (B8 _))
end L2
namespace PyProof.Rows
open PySem
end PyProof.Rows
namespace PyProof.Rows
open PySem
end PyProof.Rows
namespace PyProof.Rows
open PySem
section
variable{prog:N_}{w:Q_}{A:Around}{E:B_}{s:P_}{rk:Keyed->Nat}{S:Keyed->Prop}{κ:SortKind}
theorem aDs{a:Array Keyed}{i:Nat}{x:Keyed}{st:SortSt}{Q:Keyed->SortSt->Prop}(e:a[i]?=n_ x)(h:Q x st):wpS (model prog w) A E s (elem' a i) Q st:=by
 rw[elem'_eq,e];exact wpS_pure h
end
end PyProof.Rows
namespace PyProof.Rows
open PySem
section
variable{prog:N_}{w:Q_}{A:Around}{E:B_}{s:P_}{rk:Keyed->Nat}{S:Keyed->Prop}{κ:SortKind}
theorem wpI{M:Model}{α:Type}{c:Prop}[Decidable c]{p q:StateT SortSt Sem α}{Q:α->SortSt->Prop}{st:SortSt}(a:c->wpS M A E s p Q st)(b:¬c->wpS M A E s q Q st):wpS M A E s (if c then p else q) Q st:=by
 by_cases h:c
 .rw[A0g h];exact a h
 .rw[A0d h];exact b h
theorem wpE{M:Model}{α:Type}{x y:Nat}{p q:StateT SortSt Sem α}{Q:α->SortSt->Prop}{st:SortSt}(a:x=y->wpS M A E s p Q st)(b:x≠y->wpS M A E s q Q st):wpS M A E s (if(x==y)=o4 then p else q) Q st:=wpI (λz=>a (eq_of_beq z)) λz=>b λe=>z (beq_iff_eq.mpr e)
end
end PyProof.Rows
namespace PyProof.Rows
open PySem
end PyProof.Rows
namespace PyProof.Rows
open PySem
end PyProof.Rows
namespace PyProof.Rows
open PySem
end PyProof.Rows
namespace PyProof.Rows
open PySem
end PyProof.Rows
namespace PyProof.Rows
open PySem
end PyProof.Rows
namespace PyProof.Rows
open PySem
end PyProof.Rows
namespace PyProof.Rows
open PySem
end PyProof.Rows
namespace PyProof.Rows
open PySem
end PyProof.Rows
namespace PyProof.Rows
open PySem
end PyProof.Rows
namespace PyProof.Rows
open PySem
end PyProof.Rows
namespace L2
open PySem PySem.Spec PyProof.Rows
theorem Rg(d:R_)(i:(d==sysModules)=o5):Meets (Builtin.«dict.__len__» {pos:=[Value.ref d]}) λ_ R s=>∃o a f,s.heap.get? d=n_ o/\o.data=Data.dict a f/\R (Except.ok (Flow.ret (Value.int (a.size:Int) s.toks))) {s with toks:=s.toks+1}:=by
 intro prog w A R s c;refine Dw c λo a f j b h=>?_;show wpAny (model prog w) A.in1 (do
  let n <-dictSize d;let m <-Builtin.Dict.pendingCount d
  retInt (↑n+↑m)) _ _ s
 refine A0c (A0c (A8a j b (A0h (A0c (wpAny_pendingCount_other i (A3d (wpAny_ret_mkInt (Q:=λv g=>R (Except.ok (Flow.ret v)) g) ?_) (λfin g ⟨v,e,q⟩=>by subst e;exact q) (λ_ _ x=>x)))))));show R (Except.ok (Flow.ret (Value.int ((a.size:Int)+((0:Nat):Int)) s.toks))) _;rw[show((a.size:Int)+((0:Nat):Int))=(a.size:Int) by lia];exact h
section
variable{X:Cx}
theorem RU:GX X (.builtin "len") (λxs H Q=>∃a kvs,xs=[V.ref a]/\Rd H a (.dT kvs)/\Q (.int kvs.length) H):=by
 intro g s σ H xs us Q I r h;refine AS h λa kvs c m q=>?_;clear h;subst c;refine xea (Ro r) λu b v=>?_;subst b;cases v;refine Dh (OQ I.hok m) λz y xs d e=>CV e λo f i j x k l A=>?_;have p:f.size=kvs.length:=by
  have:=A2c List.length l;rw[B7,P8]at this;rw[this,A1e d]
 rw[sizeLine_eq]at z;refine call_len_meets (n:=(kvs.length:Int)) e.typeIs F.slot_dict_len F.entry_dict_len (F.args_dict_len_1 _) (Rg a y) A3 A3 (λw t=>⟨o,f,i,j,k,?_⟩) ⟨.int kvs.length,H,I.tok _,⟨_,Z⟩,q⟩;rw[p];exact t
end
end L2
namespace L2
open PySem PySem.W PySem.Spec PyProof.Rows
def PH:Sp:=λvs H Q _=>∃(t:R_)(x y:Int)(r:I_),vs=[.ref t]/\H t=n_ (.tup ((x::y::r).map V.int))/\∀u,H u=o0->Q (.ref u) (upd H u (.tup [.int y,.int x]))
structure It3 where
a:Addr
x:Int
y:Int
r:List Int
def It3.ns(q:It3):List Int:=q.x::q.y::q.r
section
variable{X:Cx}{n9:A_}{σ:St}{H H':Hp}{s:P_}{k:Nat}{f b:R_}{fd:E_}{ps:K_}
theorem DW.stay(fp:DW X n9 H b)(a:H' b=o0):DW X n9 H' b:=⟨a,fp.2⟩
theorem DW.turn(fp:DW X n9 H b)(I:Inv X n9 σ H s)(kp:∀c o,c≠b->s.heap.get? c=n_ o->h'.get? c=n_ o):Inv X n9 σ H {s with heap:=h',toks:=t'} :=
 I.turned kp fp.1 fp.2.1 fp.2.2.2.1 fp.2.2.2.2.1 fp.2.2.2.2.2
theorem DW.nost(fp:DW X n9 H b)(I:Inv X n9 σ H s):b∉frs X.stack:=λz=>by
 rcases C1.mp (I.stkSub b z)with y|y
 .exact fp.2.1 y
 .exact fp.2.2.1 y
theorem Yk{n:Around}{P:PySem.Fin->Shared->Prop}{E:B_}(I:Inv X n9 σ H s){a g:R_}{i c:Nat}{ks h:M_}{st:SortSt}(t:DW X n9 H a)(r:DW X n9 H g)(l:g≠a)(x:s.heap.get? g=n_ (seqObj "list" ks c))(u:s.heap.get? a=n_ (seqObj "list" #[] i))(m:(arrOf st).map (·.2)=h)(v:failedOf st=o0)(y:h.size<=sizeLine)(z:ks.size<=sizeLine)
  (fin:∀(h':T_)(q:Nat),Inv X n9 σ H {s with heap:=h'}->h'.get? a=n_ (seqObj "list" h q)->P (.done (.ret .none)) {s with heap:=h'}):wpAny (model X.prog X.w) n (ksk_tail a o5 i (.ref g) st) P E s:=by
 unfold ksk_tail;have p:Inv X n9 σ H {s with heap:=s.heap.update g (Obj.mapSeq λ_=>#[])}:=r.turn (t':=s.toks) I λb o j e=>by rw[R4 _ _ _ _ j];exact e
 have d:(s.heap.update g (Obj.mapSeq λ_=>#[])).get? a=n_ (seqObj "list" #[] i):=by rw[R4 _ _ _ _ (A1a l)];exact u
 refine A0c (listUpdate_at x Z (A0c (wpAny_letGo (A0c (seqEpoch_at d Z (A0c (listUpdate_at d Z ?_ (hsz2:=?_))))))) (hsz:=z))
 .rw[v];simp only[bne_self_eq_false,Q6,A5h];rw[m];refine A0h (fin _ _ (t.turn (s:={s with heap:=s.heap.update g (Obj.mapSeq λ_=>#[])}) (t':=s.toks) p λb o j e=>by rw[R4 _ _ _ _ j];exact e) (get?_update_seq d _))
 .simp only[Q6,A5h];rw[m];exact V2 y
end
end L2
namespace L2
open PySem PySem.W PySem.Spec PyProof.Rows
section
variable{prog:N_}{w:Q_}{A:Around}{E:B_}{s:P_}{ks vs:F_}{κ:SortKind}
theorem aFb{Q:SortSt->Shared->Prop}{rk:Nat->Int}(n:ks.length=vs.length)(two:2<=vs.length)(d:vs.length<64)(m:∀i j C,i<vs.length->j<vs.length->C (decide (rk i<rk j)) s->kas_ask prog w A κ ks i j C s)
  (k:∀p a,Cy vs.length p->Up rk p vs.length->failedOf a=o0->arrOf a=p.map (kas_item (ks.toArray.zip vs.toArray))->Q a s):wpAny (model prog w) A ((sortRuns').run (SortSt.mk' κ (ks.toArray.zip vs.toArray) #[] 7 o0)) (λr b=>Q r.2 b) E s :=
 kat_run (G:=λp b=>b=s/\Cy vs.length p/\Up rk p vs.length) n two d (λp a b e c f g=>by
  obtain⟨rfl,h,l⟩:=g;exact k p a h l f c) (aD3 m (aDC A3 λo e c=>⟨Z,e,c⟩))
end
section
variable{X:Cx}{n9:A_}{σ:St}{H H':Hp}{s:P_}{k:Nat}{f b:R_}{fd:E_}{ps:K_}
def Nc(out:List It3):Prop:=out.Pairwise λp q=>Ds [q.y,q.x] [p.y,p.x]=o5
end
end L2
namespace PyProof.Rows
open PySem
theorem aBd:∀f n r:Nat,minRun' f n r<=n+r
|0,n,r=>B8 _
|f+1,n,r=>by
 rw[minRun'_succ];split
 .exact B8 _
 .exact C5 (aBd f _ _) A3
section
variable{prog:N_}{w:Q_}{A:Around}{E:B_}{s:P_}
theorem ltA{st:SortSt}{i j:Nat}{x y:Keyed}{Q:Option Bool->SortSt->Prop}(a:(arrOf st)[i]?=n_ x)(b:(arrOf st)[j]?=n_ y)(h:wpS (model prog w) A E s (lt' x y) Q st):wpS (model prog w) A E s (ltAt' i j) Q st:=by
 rw[ltAt'_eq];exact A6b (wpS_get (A6b (aDs a (A6b (aDs b h)))))
theorem aDA{st:SortSt}{Q:Unit->SortSt->Prop}{n:Nat}(l:(arrOf st).size=n)(o:1<=n)(j:pendingOf st=#[])(p:∀(i:Nat) x y (Q:Option Bool->SortSt->Prop),i+1<n->(arrOf st)[i+1]?=n_ x->(arrOf st)[i]?=n_ y->Q (n_ o5) st->wpS (model prog w) A E s (lt' x y) Q st)
  (k:Q () (setPending st #[(0,n,0)])):wpS (model prog w) A E s sortRuns' Q st:=by
 rw[sortRuns'_eq];refine A6b (wpS_get ?_);dsimp only;simp only[l];have u:=aBd n n 0;generalize minRun' n n 0=m at u⊢;refine A6b (wpS_mono (wpS_forRange (I:=λx c d=>(x=0/\c=(o0,0)/\d=st)\/(c=(o0,n)/\d=setPending st #[(0,n,0)])) (Q:=λc d=>c=(o0,n)/\d=setPending st #[(0,n,0)]) ?step ?fin (.inl ⟨Z,Z,Z⟩)) ?post)
 case fin =>
  rintro c d (⟨z,_⟩|h)
  .lia
  .exact h
 case step =>
  rintro x c d _ r (⟨rfl,rfl,e⟩|⟨rfl,e⟩)
  .rw[e];clear e;dsimp only;rw[A0d A3];refine A6b ?_;refine A6b (wpS_mono (wpS_forRange (I:=λx c d=>d=st/\c=(o0,x)) (Q:=λc d=>d=st/\c=(o0,n)) ?_ ?_ ⟨Z,Z⟩) ?_)
   .rintro x c d t r ⟨e,rfl⟩;rw[e];clear e;obtain⟨y,rfl⟩:∃y,x=y+1:=⟨x-1,by lia⟩
    obtain⟨a,f⟩:∃a,(arrOf st)[0+(y+1)]?=n_ a:=⟨_,P1 A3⟩
    obtain⟨b,g⟩:∃b,(arrOf st)[0+(y+1)-1]?=n_ b:=⟨_,P1 A3⟩
    exact A6b (ltA f g (p y a b _ A3 (by rw[<-f];congr 1;lia) (by rw[<-g];congr 1;lia) (wpS_pure ⟨Z,Z⟩)))
   .rintro c d ⟨e,rfl⟩;exact⟨e,by rw[Nat.sub_zero,Nat.max_eq_right o]⟩
   .rintro c d ⟨e,rfl⟩;rw[e];clear e;refine wpE (λ_=>wpS_pure ?_) λq=>absurd Z q;dsimp only;rw[A0d A3];refine A6b (wpS_get ?_);rw[j];exact A6b (wpS_modify (wpS_pure (.inr ⟨by rw[N7],by rw[j];rfl⟩)))
  .rw[e];dsimp only;rw[A0g (B8 _)];exact wpS_pure ⟨Z,Z⟩
 case post =>
  rintro c d ⟨rfl,e⟩;rw[e];clear e;refine A6b (wpS_mono (wpS_forRange (I:=λ_ c d=>c=(o0,())/\d=setPending st #[(0,n,0)]) (Q:=λc d=>c=(o0,())/\d=setPending st #[(0,n,0)]) ?_ (λ_ _ h=>h) ⟨Z,Z⟩) ?_)
  .rintro x c d _ _ ⟨rfl,e⟩;rw[e];refine A6b (wpS_get ?_);rw[A0g (by show 1<=1;decide)];exact wpS_pure ⟨Z,Z⟩
  .rintro c d ⟨rfl,e⟩;rw[e];exact wpS_pure k
end
end PyProof.Rows
namespace L2
open PySem PySem.W PySem.Spec PyProof.Rows
section
variable{prog:N_}{w:Q_}{A:Around}{E:B_}{s:P_}{ks vs:F_}{κ:SortKind}
theorem aFc{Q:SortSt->Shared->Prop}{rk:Nat->Int}(t:ks.length=vs.length)(one:1<=vs.length)(u:∀i j,i<=j->j<vs.length->rk i<=rk j)(D:∀i j C,i<vs.length->j<vs.length->C (decide (rk i<rk j)) s->kas_ask prog w A κ ks i j C s)
  (k:∀p a,Cy vs.length p->Up rk p vs.length->failedOf a=o0->arrOf a=p.map (kas_item (ks.toArray.zip vs.toArray))->Q a s):wpAny (model prog w) A ((sortRuns').run (SortSt.mk' κ (ks.toArray.zip vs.toArray) #[] 7 o0)) (λr l=>Q r.2 l) E s:=by
 have sz:(ks.toArray.zip vs.toArray).size=vs.length:=by simp[t]
 have f:∀{i:Nat}{x:Keyed},(ks.toArray.zip vs.toArray)[i]?=n_ x->x.1=ks.getD i Value.none:=λ{i x} e=>by
  have d:=(Array.getElem?_eq_some_iff.mp e).1;have B:i<ks.length:=by rw[t,<-sz];exact d
  rw[P1 d]at e;cases e;rw[D7,C4 B];simp
 have n:=kas_range (ks.toArray.zip vs.toArray);rw[sz]at n;have g:=aDA (st:=SortSt.mk' κ (ks.toArray.zip vs.toArray) #[] 7 o0) (Q:=λ_ a=>Q a s) (prog:=prog) (w:=w) (A:=A) (E:=E) (s:=s) sz one Z (λi x y F d v z q=>?_) ?_
 .exact A3d g (λr l h=>by obtain⟨rfl,q⟩:=h;exact q) λ_ _ e=>e
 .rw[lt'_eq];refine A6b (wpS_get ?_);have c:=D (i+1) i (λb l=>l=s/\b=o5) d A3 ⟨Z,A0f (by have:=u i (i+1) (T5 i) d;lia)⟩;unfold kas_ask at c;rw[<-f v,<-f z]at c;refine A6b (wpS_lift (A5f (A3d c (λb l h=>?_) λ_ _ x=>x.elim)));obtain⟨rfl,rfl⟩:=h;exact⟨Z,wpS_pure q⟩
 .have gd:∀{i:Nat},i<vs.length->(List.range vs.length).toArray.getD i 0=i:=λ{i} d=>by simp[Array.getD,d]
  refine k (List.range vs.length).toArray _ ⟨by simp,Array.Perm.refl _⟩ (λi j o m=>?_) Z n.symm;unfold kk;rw[gd m,gd (D6 o m)];exact u i j o m
theorem aHU{Q:SortSt->Shared->Prop}{rk:Nat->Int}(d:ks.length=vs.length)(two:2<=vs.length)(b:vs.length<64\/∀i j,i<=j->j<vs.length->rk i<=rk j)(c:∀i j C,i<vs.length->j<vs.length->C (decide (rk i<rk j)) s->kas_ask prog w A κ ks i j C s)
  (k:∀p a,Cy vs.length p->Up rk p vs.length->failedOf a=o0->arrOf a=p.map (kas_item (ks.toArray.zip vs.toArray))->Q a s):wpAny (model prog w) A ((sortRuns').run (SortSt.mk' κ (ks.toArray.zip vs.toArray) #[] 7 o0)) (λr e=>Q r.2 e) E s :=
 b.elim (λh=>aFb d two h c k) λh=>aFc d A3 h c k
theorem aC8{a:List It3}(h:Nc a){i j:Nat}(d:i<=j)(b:j<a.length):Uh (a.map λq=>[q.y,q.x]) i<=Uh (a.map λq=>[q.y,q.x]) j:=by
 by_cases e:i=j
 .rw[e];exact R8 _
 .have:=VG (rows:=a.map λq=>[q.y,q.x]) (i:=j) (j:=i) (by rw[B7];exact b);have gd:∀{k:Nat}(c:k<a.length),(a.map λq=>[q.y,q.x]).getD k []=[a[k].y,a[k].x]:=λ{k} c=>by
   rw[D7,C0,C4 c];rfl
  rw[gd b,gd (D6 d b),W8.mp h i j _ b A3]at this;exact Int.not_lt.mp (A6c this)
end
section
variable{X:Cx}{n9:A_}{σ:St}{H H':Hp}{s:P_}{k:Nat}{f b:R_}{fd:E_}{ps:K_}
theorem aBP {A2:Around} {P:PySem.Fin->Shared->Prop} {E:B_} (F:AM X.prog X.w X.K X.mg X.n8 CX0 k f fd ps PH) (hb:CY X.K fd ps []) (hr:Dt k A2) (an:∀s H,Pc X.prog X.w X.K X.mg X.n8 X.A X.stack s H->Pc X.prog X.w X.K X.mg X.n8 A2 X.stack s H) (I:Inv X n9 σ H s) {a:R_} {d:List It3} {n:Nat} (ho:s.heap.get? a=n_ (seqObj "list" (d.map λq=>Value.ref q.a).toArray n)) (fa:DW X n9 H a) (hit:∀q∈d,H q.a=n_ (.tup (q.ns.map V.int))) (af:d.length<64\/(d.length<=1000/\Nc d))
  (fin:∀(p:Array Nat)(H':Hp)(L:P_)(c:Nat),Cy d.length p->Up (Uh (d.map λq=>[q.y,q.x])) p d.length->Inv X n9 σ H' L->(∀b u,H b=n_ u->H' b=n_ u)->H' a=o0->L.heap.get? a=n_ (seqObj "list" (p.toList.map λi=>(d.map λq=>Value.ref q.a).getD i Value.none).toArray c)->P (.done (.ret .none)) L) :
  wpAny (model X.prog X.w) A2 (ksk_tree a (.ref f) o5) P E s:=by
 have len:(d.map λq=>Value.ref q.a).length=d.length:=B7 _;have ln:d.length<=sizeLine:=C5 (af.elim (λh=>C5 (Q7 h) A4) (λh=>h.1)) (show 1000<=sizeLine by decide);unfold ksk_tree;refine A0c (listItems_at ho Z (A0c (listUpdate_at ho Z ?_)));have ⟨M,he1⟩:∃M,(s.heap.update a (Obj.mapSeq λ_=>#[])).get? a=n_ (seqObj "list" #[] M):=⟨_,get?_update_seq ho _⟩
 have I1:Inv X n9 σ H {s with heap:=s.heap.update a (Obj.mapSeq λ_=>#[])}:=fa.turn (t':=s.toks) I λc o hc e=>by rw[R4 _ _ _ _ hc];exact e
 generalize s.heap.update a (Obj.mapSeq λ_=>#[])=O at he1 I1⊢;refine A0c (seqEpoch_at he1 Z (A0c (wpAny_newTuple (A0c (wpAny_newList (A5e ?_))))));have I2:Inv X n9 σ H {s with heap:=O.push (seqObj "tuple" (d.map λq=>Value.ref q.a).toArray 0)}:=I1.kept (t':=s.toks) λb o e=>C3 _ e;have ac:=C3 (seqObj "tuple" (d.map λq=>Value.ref q.a).toArray 0) he1;show wpAny (model X.prog X.w) A2 (ksk_rest a (.ref f) o5 (d.map λq=>Value.ref q.a).toArray M (.ref (O.push (seqObj "tuple" (d.map λq=>Value.ref q.a).toArray 0)).objs.size)) P E {s with heap:=(O.push (seqObj "tuple" (d.map λq=>Value.ref q.a).toArray 0)).push (seqObj "list" #[] 0)};generalize O.push (seqObj "tuple" (d.map λq=>Value.ref q.a).toArray 0)=l at I2 ac⊢;have fS:DW X n9 H l.objs.size:=I2.fpOk (B8 _) (I2.hok.fresh (B8 _));have ag:=C3 (seqObj "list" #[] 0) ac;have ad:(l.push (seqObj "list" #[] 0)).get? l.objs.size=n_ (seqObj "list" #[] 0):=F2 _ Z;have I3:Inv X n9 σ H {s with heap:=l.push (seqObj "list" #[] 0)}:=I2.kept (t':=s.toks) λb o e=>C3 _ e;have U:l.objs.size≠a:=W3 (F3 ac);generalize l.push (seqObj "list" #[] 0)=h3 at ag ad I3⊢;generalize l.objs.size=S at fS ad U⊢;unfold ksk_rest;refine A0c (wpAny_rule ?_);rw[List.forIn_toArray];refine A0c (ksk_fold (λj L=>∃(H':Hp)(us:H_)(c:Nat),Inv X n9 σ H' L/\(∀b u,H b=n_ u->H' b=n_ u)/\H' a=o0/\H' S=o0/\L.heap.get? S=n_ (seqObj "list" (us.map Value.ref).toArray c)/\L.heap.get? a=n_ (seqObj "list" #[] M)/\us.length=j/\∀(i:Nat) u q,us[i]?=n_ u->d[i]?=n_ q->H' u=n_ (.tup ([q.y,q.x].map V.int))) (d.map λq=>Value.ref q.a) 0 _ ⟨H,[],0,I3,λb u e=>e,fa.1,fS.1,ad,ag,Z,λi u q e=>(nomatch e)⟩ ?_ ?_)
 .rintro j x ⟨hp,gn,dr,tk,os⟩ hx ⟨H',us,c,g,kp,na,nk,hk,ha,G,R⟩;have jl:j<d.length:=by have:=(B9.mp hx).1;rw[len]at this;exact this
  rw[C0]at hx;obtain⟨q,eq,rfl⟩:=D5.mp hx;rw[N7]at G⊢;have N:=fa.stay na;have B:=fS.stay nk;have tq:=kp _ _ (hit q (D8 eq));have ak:PH [V.ref q.a] H' (λv al=>∃u,v=.ref u/\H' u=o0/\al=upd H' u (.tup [.int q.y,.int q.x])) E0:=⟨q.a,q.x,q.y,q.r,Z,tq,λu hu=>⟨u,Z,hu,Z⟩⟩
  refine A0c (A5f (wpAny_call (A8d (F.run A2 X.stack _ H' ⟨[Value.ref q.a],[]⟩ ([Value.ref q.a]++[]) [V.ref q.a] _ E0 hr (an _ _ g.env0) (hb _ [Value.ref q.a] g.kIn (F.len _ _ _ _ ak)) (show AU [V.ref q.a] [Value.ref q.a]from .cons Z .nil) ak) λr au hq=>?_)));cases r with
  |error e=>exact hq.elim
  |ok fl =>
   cases fl with
   |next=>exact hq.elim
   |brk=>exact hq.elim
   |cont=>exact hq.elim
   |ret u =>
    obtain⟨v,H2,as,aa,un,ai,rv,Y,rfl,ao,rfl⟩:=hq;obtain⟨hh,g2,d2,t2,ar⟩:=au;obtain rfl:ar=os:=as;cases(show _=Value.ref Y from rv);have I4:=g.call (h':=hh) (g':=g2) (d':=d2) (t':=t2) (ch:=[]) un ai aa (λb z=>absurd z B0);have ah:hh.get? S=_:=un.keep _ _ hk nk (B.nost g) B0;have am:hh.get? a=_:=un.keep _ _ ha na (N.nost g) B0;have np:∀{b:R_}{o:HO},H' b=n_ o->upd H' Y (.tup [.int q.y,.int q.x]) b=n_ o:=λ{b o} e=>by rw[Ax (Av e ao)];exact e
    have aq:upd H' Y (.tup [.int q.y,.int q.x]) a=o0:=un.free _ _ ha na B0;have aj:upd H' Y (.tup [.int q.y,.int q.x]) S=o0:=un.free _ _ hk nk B0;have ⟨c2,hk5⟩:∃c2,(hh.update S (Obj.mapSeq (·.push (.ref Y)))).get? S=n_ (seqObj "list" ((us.map Value.ref).toArray.push (.ref Y)) c2):=⟨_,get?_update_seq ah _⟩
    refine A0c (listUpdate_at ah Z (A0h ⟨Z,upd H' Y (.tup [.int q.y,.int q.x]),us++[Y],c2,(B.stay aj).turn (t':=t2) I4 λb o hb e=>by rw[R4 _ _ _ _ hb];exact e,λb o e=>np (kp b o e),aq,aj,?_,?_,by rw[C6,G];rfl,λi u2 q2 eu ab=>?_⟩) (hsz2:=?_))
    .show(hh.update S _).get? S=_;rw[hk5];simp
    .show(hh.update S _).get? a=_;rw[R4 _ _ _ _ (A1a U)];exact am
    .by_cases hi:i<j
     .rw[N5 A3]at eu;exact np (R i u2 q2 eu ab)
     .have:i=j:=by
       have:=(B9.mp eu).1;rw[C6,G]at this;have:i<j+1:=this;lia
      subst this;rw[L9 A3,G,Z4]at eu;cases eu;rw[eq]at ab;cases ab;exact Af
    .simp;lia
 .rintro⟨hp,gn,dr,tk,os⟩ ⟨H',us,c,g,kp,na,nk,hk,ha,G,R⟩;rw[N7,len]at G;have N:=fa.stay na;have B:=fS.stay nk;have lk:(us.map Value.ref).length=(d.map λq=>Value.ref q.a).length:=by rw[B7,len,G]
  refine A0c (listItems_at hk Z ?_);unfold ksk_end;dsimp only;simp only[Q6,A5h];have sz:(d.map λq=>Value.ref q.a).toArray.size=d.length:=by rw[F4,len]
  by_cases few:(d.map λq=>Value.ref q.a).toArray.size<2
  .rw[A0g few,A0g few];refine A0c (A0h ?_);rw[StateT.run_pure];refine A0c (A0h ?_);dsimp only;have eo:(arrOf (SortSt.mk' general' ((us.map Value.ref).toArray.zip (d.map λq=>Value.ref q.a).toArray) #[] 7 o0)).map (·.2)=((List.range d.length).toArray.toList.map λi=>(d.map λq=>Value.ref q.a).getD i Value.none).toArray:=by
    rw[sz]at few;clear hit fin ho R g hk;show((us.map Value.ref).toArray.zip (d.map λq=>Value.ref q.a).toArray).map (·.2)=_
    match d,us,G,few with
    |[],[],_,_=>simp
    |[v],[u],_,_=>simp
   refine Yk (c:=c) g N B U hk ha eo Z (by simp;lia) (by simp;lia) λh' c' I5 h5=>fin (List.range d.length).toArray H' _ c' ⟨by simp,Array.Perm.refl _⟩ (λi j ij hj=>by rw[sz]at few;have e:i=j:=A3;rw[e];exact R8 _) I5 kp na h5
  .rw[A0d few,A0d few];have two:2<=d.length:=by lia
   have D:∀q∈(us.zip (d.map λq=>[q.y,q.x])),H' q.1=n_ (.tup (q.2.map V.int))/\q.2≠[]:=λq hq=>by
    obtain⟨i,hi⟩:=M5 hq;rw[W9,C0]at hi;obtain⟨O,l⟩:=hi;obtain⟨it,M,e2⟩:=D5.mp l;rw[<-e2];exact⟨R i q.1 it O M,by simp⟩
   have z1:((us.zip (d.map λq=>[q.y,q.x])).map λq=>Value.ref q.1)=us.map Value.ref:=by
    show List.map (Value.ref ∘ Prod.fst) _=_;rw[<-O1];rw[List.map_fst_zip (by rw[B7,G];exact B8 _)]
   have zl:(us.zip (d.map λq=>[q.y,q.x])).length=d.length:=by rw[Z8,B7,G,Nat.min_self]
   have z2:((us.zip (d.map λq=>[q.y,q.x])).map (·.2))=d.map λq=>[q.y,q.x]:=List.map_snd_zip (by rw[B7,G];exact B8 _);obtain⟨fs,k1,k2,k3⟩:=RM g.hok D;rw[z1]at k1;refine A0c (kat_kind (T:=.type "int") k1 (by rw[k2,zl];lia) (λv hv=>?_) Z ?_)
   .obtain⟨x,t,rfl⟩:=k3 v hv;exact .now
   have ae:(us.map Value.ref).toArray.size<=sizeLine:=by simp;lia
   refine A0c (A3d (aHU (ks:=us.map Value.ref) (vs:=d.map λq=>Value.ref q.a) (κ:=tuples' o4) (rk:=Uh (d.map λq=>[q.y,q.x])) (Q:=λW L=>L={heap:=hp,gens:=gn,drawn:=dr,toks:=tk,os:=os}/\failedOf W=o0/\∃p,Cy d.length p/\Up (Uh (d.map λq=>[q.y,q.x])) p d.length/\arrOf W=p.map (kas_item ((us.map Value.ref).toArray.zip (d.map λq=>Value.ref q.a).toArray))) lk (by rw[len];lia) (af.imp (λh=>by rw[len];exact h) λh i j ij hj=>aC8 h.2 ij (by rw[len]at hj;exact hj)) ?_ λp W O l h3 h4=>⟨Z,h3,p,by rw[len]at O;exact O,by rw[len]at l;exact l,h4⟩) ?_ λ_ _ e=>e)
   .intro i j C hi hj cc;rw[len]at hi hj;obtain⟨b,o,av,m,M,e2,e3,e4,e5⟩:=Wv g.hok D (i:=i) (by rw[zl];exact hi);obtain⟨b',o',aw,m',f1,f2,f3,f4,f5⟩:=Wv g.hok D (i:=j) (by rw[zl];exact hj);rw[z1]at M f1;rw[z2]at e5 f5;unfold kas_ask;rw[M,f1];refine kat_lt e2 e4 f2 f4 ?_;rw[VG (by rw[B7];exact hi)]at cc;have:=Yi (prog:=X.prog) (w:=X.w) (A:=A2) (b:=o4) (i:=0) e5 f5 cc;have l1:=e5.length;have l2:=f5.length;rw[B7]at l1 l2;rw[F4,F4,<-l1,<-l2];exact this
   rintro⟨⟨⟩,W⟩ L ⟨rfl,hf,p,pn,up,ea⟩;dsimp only at hf ea⊢;have eo:=kat_snds lk ea;refine Yk (c:=c) g N B U hk ha eo hf (by simp only[F4,B7,P8,pn.sz];exact ln) ae λh' c' I5 h5=>fin p H' _ c' pn up I5 kp na h5
theorem Wd {Q:VK} (F:AM X.prog X.w X.K X.mg X.n8 CX0 k f fd ps PH) (P:CY X.K fd ps []) (hr:Dt (k+2) X.A) (I:Inv X n9 σ H s) {p:R_} {g:List It3} (Y:SqL X.K H p (g.map λq=>V.ref q.a)) (hit:∀q∈g,H q.a=n_ (.tup (q.ns.map V.int))) (C:g.length<64\/(g.length<=1000/\Nc g))
  (q:∀(L:R_)(v:List It3)(H':Hp),(∀b u,H b=n_ u->H' b=n_ u)->H' L=o0->v.Perm g->Nc v->Q (.ref L) (upd H' L (.lst (v.map λq=>V.ref q.a)))) :
  wpAny (model X.prog X.w) X.A (call (.builtin "sorted") [.ref p] [("key",.ref f)]) (EP X n9 σ Q) X.xe s:=by
 obtain⟨M,rv,pl,hz⟩:=I.list Y;have ei:M=g.map λq=>Value.ref q.a:=by
  clear pl hz q Y C hit;induction g generalizing M with
  |nil=>cases rv;rfl
  |cons it g R =>
   cases rv with
   |cons a1 a2 =>
    cases(show _=Value.ref it.a from a1);rw[F8,R _ a2]
 subst ei;have len:(g.map λq=>Value.ref q.a).length=g.length:=B7 _;have T:g.length<=sizeLine:=C5 (C.elim (λh=>C5 (Q7 h) A4) (λh=>h.1)) (show 1000<=sizeLine by decide);refine PyProof.Rows.call_function_entry_kw kind_sorted plain_sorted entry_sorted (ksk_s1 _ _) ?_;unfold Builtin.«sorted»;refine A0c (m:=checkCount "sorted" 1 1 _) (A0h (A0c (collect_list pl.isList (A0c (wpAny_newList ?_ (by rw[len];exact T))) (by rw[len];exact T))));have O:((s.heap.push (seqObj "list" #[] 0)).update s.heap.objs.size (Obj.mapSeq (· ++ (g.map λq=>Value.ref q.a).toArray))).objs.size=s.heap.objs.size+1:=by
  rw[Heap.size_update];exact size_push' ..
 have B:(((s.heap.push (seqObj "list" #[] 0)).update s.heap.objs.size (Obj.mapSeq (· ++ (g.map λq=>Value.ref q.a).toArray))).push (seqObj "list" (g.map λq=>Value.ref q.a).toArray 0)).get? (s.heap.objs.size+1)=n_ (seqObj "list" (g.map λq=>Value.ref q.a).toArray 0):=by
  have:=F2 ((s.heap.push (seqObj "list" #[] 0)).update s.heap.objs.size (Obj.mapSeq (· ++ (g.map λq=>Value.ref q.a).toArray))) (show(seqObj "list" (g.map λq=>Value.ref q.a).toArray 0).isFreed=o5 from Z);rw[O]at this;exact this
 have D:∀b o,s.heap.get? b=n_ o->(((s.heap.push (seqObj "list" #[] 0)).update s.heap.objs.size (Obj.mapSeq (· ++ (g.map λq=>Value.ref q.a).toArray))).push (seqObj "list" (g.map λq=>Value.ref q.a).toArray 0)).get? b=n_ o:=λb o e =>
  C3 _ (by rw[R4 _ _ _ _ (L8 (F3 e))];exact C3 _ e)
 show wpAny (model X.prog X.w) _ _ _ _ {s with heap:=(((s.heap.push (seqObj "list" #[] 0)).update s.heap.objs.size (Obj.mapSeq (· ++ (g.map λq=>Value.ref q.a).toArray))).push (seqObj "list" (g.map λq=>Value.ref q.a).toArray 0))};rw[O];have U:Inv X n9 σ H {s with heap:=(((s.heap.push (seqObj "list" #[] 0)).update s.heap.objs.size (Obj.mapSeq (· ++ (g.map λq=>Value.ref q.a).toArray))).push (seqObj "list" (g.map λq=>Value.ref q.a).toArray 0))}:=I.kept (t':=s.toks) D;have E:DW X n9 H (s.heap.objs.size+1):=I.fpOk (T5 _) (I.hok.fresh (T5 _));generalize ((s.heap.push (seqObj "list" #[] 0)).update s.heap.objs.size (Obj.mapSeq (· ++ (g.map λq=>Value.ref q.a).toArray))).push (seqObj "list" (g.map λq=>Value.ref q.a).toArray 0)=h1 at B U⊢;refine A0c (A5e (PyProof.Rows.wpAny_call_entry_kw slot_list_sort ⟨_,B,Z⟩ entry_list_sort ?_ (ksk_l1 _ _)));rw[ksk_t1];refine aBP F P hr.in1.in1 (λs H e=>e.in1.in1) U B E hit C λr H' s' c pn up I' kp na ha=>⟨_,Z,A0h ⟨_,Z,?_⟩⟩
 have N:r.toList.Perm (List.range g.length):=by simpa using pn.pm.toList
 have sz:r.size=g.length:=pn.sz;have lt:∀i∈r.toList,i<g.length:=λi t=>by simpa using (N.mem_iff).mp t
 let d:It3:=⟨0,0,0,[]⟩
 have v:(r.toList.map λi=>g.getD i d).Perm g:=by
  refine(N.map _).trans ?_;refine List.Perm.of_eq (List.ext_getElem? λi=>?_);rw[C0];by_cases t:i<g.length
  .rw[T1 t,C4 t];show n_ (g.getD i d)=_;rw[D7,C4 t];rfl
  .rw[Q0 (by simpa using t),Q0 A3];rfl
 have rows:Nc (r.toList.map λi=>g.getD i d):=by
  refine W8.mpr λi j t G ij=>?_;rw[B7,P8,sz]at t G;have u:=up i j (Q7 ij) G;have gi:r.getD i 0=r[i]'A3:=by simp[Array.getD,sz,t]
  have gj:r.getD j 0=r[j]'A3:=by simp[Array.getD,sz,G]
  have li:=lt _ (P4 (l:=r.toList) (n:=i) (by rw[P8];lia));have S:=lt _ (P4 (l:=r.toList) (n:=j) (by rw[P8];lia));rw[K2]at li S;unfold kk at u;rw[gi,gj]at u;rw[V4,V4,K2,K2];generalize r[i]=a at *
  generalize r[j]=b at *
  have:=VG (rows:=g.map λq=>[q.y,q.x]) (i:=b) (j:=a) (by rw[B7];exact S);rw[A0f A3]at this;have gd:∀{c:Nat},c<g.length->(g.map λq=>[q.y,q.x]).getD c []=[(g.getD c d).y,(g.getD c d).x]:=λ{c} hc=>by
   rw[D7,C0,D7,C4 hc];rfl
  rw[gd S,gd li]at this;exact this.symm
 refine⟨.ref (s.heap.objs.size+1),_,I'.track (o:=.lst ((r.toList.map λi=>g.getD i d).map λq=>V.ref q.a)) na (R0 (C5 I.sz (T5 _))) (R0 (C5 I.ok.bsz (C5 I.sz (T5 _)))) (A1a E.2.1) E.2.2.2.2.1 E.2.2.2.2.2 (λb P z=>E.2.2.1 (z▸P)) ⟨by rw[B7,B7,P8,sz];exact T,_,c,?_,ha⟩,Z,q (s.heap.objs.size+1) _ H' kp na v rows⟩;have:∀{l:J_},(∀i∈l,i<g.length)->AU ((l.map λi=>g.getD i d).map λq=>V.ref q.a) (l.map λi=>(g.map λq=>Value.ref q.a).getD i Value.none):=by
  intro l;induction l with
  |nil=>intro _;exact .nil
  |cons i l R =>
   intro W;refine .cons ?_ (R λj G=>W j (C9 _ G));have t:=W i (C8 ..);show Bh (V.ref (g.getD i d).a) ((g.map λq=>Value.ref q.a).getD i Value.none);rw[D7,D7,C0,C4 t];rfl
 exact this lt
def aFt(K:O_)(t:TA):TE:=fun σ H Q=>t σ H λvs H1=>∃(p:R_)(items:List It3),vs=[.ref p]/\SqL K H1 p (items.map λq=>V.ref q.a)/\(items.length<64\/(items.length<=1000/\Nc items))/\(∀q∈items,H1 q.a=n_ (.tup (q.ns.map V.int)))/\∀(L:R_)(out:List It3)(H':Hp),(∀b u,H1 b=n_ u->H' b=n_ u)->H' L=o0->out.Perm items->Nc out->Q (.ref L) (upd H' L (.lst (out.map λq=>V.ref q.a)))
theorem VH{t:TA}{p kp kpos pos:Pos}(c:Cal X.prog X.w X.K X.mg X.n8 CX0 k a ps PH)(P:Dt (k+2) X.A)(L:Gl X "sorted")(N:X.mg "sorted" = o0)(g:Gl X a)(C:PA X [e] t)(E:(a==("__debug__" : Str))=o5:=by decide)
  (G:backTo pos (starEach [e] X.env)=(o5,eval e X.env)::backTo pos (starEach [] X.env):=by rfl) (j:(backTo pos (starEach [e] X.env)).any (·.1)=o5:=by rfl):PE X (.Call (.Name "sorted" p) [e] [⟨n_ "key",.Name a kp,kpos⟩] pos) (aFt X.K t):=by
 intro n9 s σ H Q I h;obtain⟨f,fd,F,i,M,D⟩:=c.ex;refine A5a (LQ I L N PyProof.Rows.boot_sorted ?_);refine PyProof.Rows.callWith_kw (thn (C pos n9 s σ H _ I h) λus V ⟨vs,m,r,T,S⟩=>?_) G j Z Z;obtain⟨R,l,rfl,O,d,hit,q⟩:=S;refine thn (aC2 (nm:=n_ "key") (kpos:=kpos) (aCz (pos:=kp) g i E) aFW pos n9 V σ m (λo n=>o=[.ref f]/\n=m) r ⟨Z,Z⟩) λY W ⟨o,n,u,U,z,B⟩=>?_;subst z;subst B;cases T with
 |cons v x =>
  cases x;cases(show _=Value.ref R from v);cases U with
  |cons y b2 =>
   cases b2;cases(show _=Value.ref f from y);exact Wd F D P u O hit d q
end
section
variable{X:Cx}
theorem aDJ{H:Hp}{s:P_}{A:Around}(ok:HOk X.prog X.w H s.heap)(i:A.units<cLine){a b:R_}{ns d:I_}(g:H a=n_ (.tup (ns.map V.int)))(c:H b=n_ (.tup (d.map V.int))):PySem.SeqAt.EqAt A s (.ref a) (.ref b) (decide (ns=d)):=by
 by_cases e:a=b
 .subst e;rw[g]at c;injection c with c
  injection c with c
  rw[A0e ((List.map_inj_right (λa b e=>by injection e)).mp c)];exact PySem.SeqAt.EqAt.same _
 .refine MD (show BQ X.prog X.w H s.heap _ (.tup _)from ok _ _ g) λ_ k r pt=>MD (show BQ X.prog X.w H s.heap _ (.tup _)from ok _ _ c) λ_ l h f=>PySem.SeqAt.EqAt.of_refs e ?_;have:=PySem.SeqAt.RcAt.tuples (A:=A) (s:=s) (e:=λj=>ns.getD j 0==d.getD j 0) pt f i λj m n=>Rq (H:=H) r h j m n;rw[F4,F4,<-r.length,<-h.length,B7,B7,Vi]at this;exact this
theorem Wu {xs:F_} {a:List (Addr×List Int)} (h:AU (a.map λq=>V.ref q.1) xs):xs=a.map λq=>Value.ref q.1:=by
 induction a generalizing xs with
 |nil=>cases h;rfl
 |cons i a d =>
  cases h with
  |cons b c =>
   cases(show _=Value.ref i.1 from b);rw[F8,d c]
theorem Uw(G:X.A.units+64<cLine):OpR X (compareOp .Eq) (λx y H Q=>∃(a b:R_)(c d:List (Addr×List Int)),x=.ref a/\y=.ref b/\SqL X.K H a (c.map λq=>V.ref q.1)/\SqL X.K H b (d.map λq=>V.ref q.1)/\(∀q∈c,H q.1=n_ (.tup (q.2.map V.int)))/\(∀q∈d,H q.1=n_ (.tup (q.2.map V.int)))/\Q (.bl (decide (c.map (·.2)=d.map (·.2)))) H):=by
 intro n s σ H x y v u Q I C D h;obtain⟨a,b,c,d,rfl,rfl,o,p,E,F,q⟩:=h;cases C;cases D;refine AX (I.list o) λxs w k _=>AX (I.list p) λys B m _=>?_;cases Wu w;cases Wu B;by_cases l:c.length=d.length
 .refine PySem.SeqAt.eq_listAt (e:=λj=>decide ((c.map (·.2))[j]?=(d.map (·.2))[j]?)) k.isList m.isList (by simpa using l) A3 (λj r t=>?_) ?_
  .have g:j<c.length:=by simpa using r
   have i:j<d.length:=by simpa using t
   have:=aDJ (A:=X.A.in1) I.hok (by show X.A.units+1<_;lia) (E _ (P4 g)) (F _ (P4 i));simp only[C0,C4 g,C4 i,V9,Option.some.injEq,List.getElem_toArray,V4];exact this
  .have:(List.range (c.map λq=>Value.ref q.1).toArray.size).all (λj=>decide ((c.map (·.2))[j]?=(d.map (·.2))[j]?))=decide (c.map (·.2)=d.map (·.2)):=by
    rw[S6,T4,A9c];refine⟨λh=>List.ext_getElem? λj=>?_,λh j _=>by rw[h];exact A0e Z⟩;by_cases f:j<c.length
    .exact A2b (h j (M8.mpr (by simpa using f)))
    .rw[Q0 (by simpa using f),Q0 (by simp;lia)]
   rw[this];exact⟨.bl _,H,I,Z,q⟩
 .rw[A0f (λz=>l (by simpa using A2c List.length z))]at q;exact PySem.SeqAt.eq_list_lengthsAt k.isList m.isList (by simpa using l) A3 ⟨.bl _,H,I,Z,q⟩
end
end L2
namespace J
open PySem L2
theorem asI{N P:K_}{c:Scope}(a:c.kind=.function:=by rfl)(b:c.isCoroutine=o5:=by rfl)(d:c.isGenerator=o5:=by rfl)(e:N.Nodup:=by decide +kernel)(f:N.take P.length=P:=by rfl)(g:∀x∈P,c.names.lookup x=n_ .local∨c.names.lookup x=n_ .cell:=by decide +kernel)(h:∀y∈c.names,y.2≠.free:=by decide +kernel):Aw N P c:=⟨a,b,d,e,f,g,h⟩
def top(i:Nat):Stmt:=PySem.Challenge.pw_jumpfield_k72_comes_again.main.body.getD i (.Pass ⟨0,0,0,0⟩)
abbrev MJ:Stmt:=top 11
abbrev VS:List Str:=["thing"]
theorem Uc:Aw VS VS (Ak MJ):=asI
abbrev MK:Stmt:=top 18
theorem Ud:Aw VS VS (Ak MK):=asI
abbrev Sy:Stmt:=top 19
abbrev dY:List Str:=["wanted","state"]
theorem aCB:Aw dY dY (Ak Sy):=asI
abbrev Fs:Stmt:=top 23
abbrev Mx:List Str:=["text","words","cell","conditions"]
abbrev IF:List Str:=["text"]
theorem EA:Aw Mx IF (Ak Fs):=asI
abbrev Jj:Stmt:=top 24
abbrev SK:List Str:=["word"]
theorem QP:Aw SK SK (Ak Jj):=asI
abbrev Iu:Stmt:=top 25
theorem PQ:Aw SK SK (Ak Iu):=asI
abbrev EY:Stmt:=top 26
theorem Nl:Aw SK SK (Ak EY):=asI
abbrev Gu:Stmt:=top 27
abbrev Qr:List Str:=["word","parts"]
theorem JQ:Aw Qr SK (Ak Gu):=asI
abbrev Gs:Stmt:=top 28
abbrev Qq:List Str:=["signs","numbers","sign"]
abbrev GH:List Str:=["signs"]
theorem FM:Aw Qq GH (Ak Gs):=asI
abbrev Fq:Stmt:=top 29
theorem PR:Aw SK SK (Ak Fq):=asI
abbrev Ir:Stmt:=top 32
abbrev QV:List Str:=["box","dx","dy"]
theorem PP:Aw QV QV (Ak Ir):=asI
abbrev DA:Stmt:=top 33
abbrev FG:List Str:=["boxes","left","top","right","bottom"]
abbrev Ih:List Str:=["boxes"]
theorem EB:Aw FG Ih (Ak DA):=asI
abbrev Iv:Stmt:=top 38
abbrev QX:List Str:=["box","limit"]
theorem PU:Aw QX QX (Ak Iv):=asI
abbrev MH:Stmt:=top 39
abbrev VQ:List Str:=["grove","field"]
theorem Ub:Aw VQ VQ (Ak MH):=asI
abbrev Jm:Stmt:=top 40
abbrev SO:List Str:=["grove"]
theorem QQ:Aw SO SO (Ak Jm):=asI
abbrev Oc:Stmt:=top 41
abbrev YW:List Str:=["grove","square","level","parts","bare"]
abbrev LZ:List Str:=["grove","square"]
theorem Jf:Aw YW LZ (Ak Oc):=asI
abbrev Od:Stmt:=top 42
abbrev YX:List Str:=["grove","square","kept"]
theorem ME:Aw YX LZ (Ak Od):=asI
abbrev Id:Stmt:=top 43
abbrev ON:List Str:=["grove","square","inner"]
theorem Nm:Aw ON LZ (Ak Id):=asI
abbrev EZ:Stmt:=top 44
abbrev Ot:List Str:=["grove","square","bare","place","quarter","part_place","part"]
theorem BZ:Aw Ot LZ (Ak EZ):=asI
abbrev Gr:Stmt:=top 45
abbrev Qp:List Str:=["grove","field","box","wide"]
abbrev EK:List Str:=["grove","field","box"]
theorem FL:Aw Qp EK (Ak Gr):=asI
abbrev Jh:Stmt:=top 46
abbrev SI:List Str:=["grove","field","level","wide"]
abbrev Jy:List Str:=["grove","field","level"]
theorem Io:Aw SI Jy (Ak Jh):=asI
abbrev Oe:Stmt:=top 47
abbrev YZ:List Str:=["grove","field","x","y","state","place","wide","half"]
abbrev Ol:List Str:=["grove","field","x","y","state"]
theorem Jg:Aw YZ Ol (Ak Oe):=asI
abbrev MG:Stmt:=top 48
abbrev VP:List Str:=["grove","square","x","y","state","level","half","parts","place"]
abbrev GG:List Str:=["grove","square","x","y","state"]
theorem Er:Aw VP GG (Ak MG):=asI
abbrev MN:Stmt:=top 49
abbrev VV:List Str:=["grove","cells","field","cell"]
abbrev MW:List Str:=["grove","cells"]
theorem Ic:Aw VV MW (Ak MN):=asI
abbrev Qb:Stmt:=top 51
abbrev dW:List Str:=["grove","field","box","reach"]
theorem NZ:Aw dW VQ (Ak Qb):=asI
abbrev VF:Stmt:=top 53
abbrev eE:List Str:=["jumps","field","n","tuples"]
abbrev VJ:List Str:=["jumps","field","n"]
theorem WO:Aw eE VJ (Ak VF):=asI
abbrev VE:Stmt:=top 54
abbrev eB:List Str:=["jumps","field","n","grove","told","here","rest","e","square","result"]
theorem Ez:Aw eB VJ (Ak VE):=asI
abbrev Jl:Stmt:=top 55
abbrev SN:List Str:=["grove","field","n","box"]
abbrev JB:List Str:=["grove","field","n"]
theorem Mr:Aw SN JB (Ak Jl):=asI
abbrev Lj:Stmt:=top 56
abbrev UD:List Str:=["grove","field","e","reach","level"]
abbrev LA:List Str:=["grove","field","e"]
theorem FZ:Aw UD LA (Ak Lj):=asI
abbrev MI:Stmt:=top 58
abbrev VR:List Str:=["grove","field","dx","dy","box","target","wide","size","bare","four"]
abbrev MV:List Str:=["grove","field","dx","dy"]
theorem Dz:Aw VR MV (Ak MI):=asI
abbrev LX:Stmt:=top 59
abbrev YY:List Str:=["grove","four","right","down","known","bare","seen","square"]
abbrev Gi:List Str:=["grove","four","right","down","known"]
theorem EW:Aw YY Gi (Ak LX):=asI
abbrev EX:Stmt:=top 60
abbrev Oq:List Str:=["four","right","down","bare"]
theorem Nj:Aw Oq Oq (Ak EX):=asI
abbrev DX:Stmt:=top 61
abbrev OW:List Str:=["grove","four","right","down","known","half","rows","made","place","column","row","inner"]
theorem BC:Aw OW Gi (Ak DX):=asI
abbrev Ee:Stmt:=top 62
abbrev MY:List Str:=["grove","four","a","b","c","d"]
abbrev Dc:List Str:=["grove","four"]
theorem Ch:Aw MY Dc (Ak Ee):=asI
abbrev MF:Stmt:=top 64
abbrev VO:List Str:=["grove","field","box","shape"]
theorem Lg:Aw VO VQ (Ak MF):=asI
abbrev Iw:Stmt:=top 65
abbrev QY:List Str:=["jumps","field","most","seen","here","count","found","earlier"]
abbrev IG:List Str:=["jumps","field","most"]
theorem Cp:Aw QY IG (Ak Iw):=asI
abbrev Gw:Stmt:=top 69
theorem OR:Aw IF IF (Ak Gw):=asI
abbrev Li:Stmt:=top 70
abbrev UC:List Str:=["text","rule"]
theorem Nk:Aw UC IF (Ak Li):=asI
abbrev MO:Stmt:=top 71
abbrev VW:List Str:=["rule","cell","around","number","clause"]
abbrev MX:List Str:=["rule","cell","around"]
theorem Lh:Aw VW MX (Ak MO):=asI
abbrev Of:Stmt:=top 72
abbrev Za:List Str:=["rule","cell","around","number"]
theorem PV:Aw Za MX (Ak Of):=asI
abbrev Ji:Stmt:=top 73
abbrev SJ:List Str:=["rule"]
theorem QO:Aw SJ SJ (Ak Ji):=asI
abbrev Jk:Stmt:=top 76
abbrev SM:List Str:=["grove","square","parts","a","b","c","d"]
theorem Dl:Aw SM LZ (Ak Jk):=asI
abbrev ML:Stmt:=top 77
abbrev VU:List Str:=["nine"]
theorem Ue:Aw VU VU (Ak ML):=asI
abbrev DN:Stmt:=top 78
abbrev Mp:List Str:=["grove","four","parts"]
theorem FD:Aw Mp Dc (Ak DN):=asI
abbrev Og:Stmt:=top 81
abbrev Zb:List Str:=["_law_script","_law_k"]
theorem VD:Aw Zb Zb (Ak Og):=asI
abbrev MP:Stmt:=top 82
abbrev VX:List Str:=["_law_cell","_law_k","_law_value"]
abbrev GL:List Str:=["_law_cell","_law_k"]
theorem OJ:Aw VX GL (Ak MP):=asI
abbrev FN:Stmt:=top 83
abbrev OX:List Str:=["_law_mains","_law_value"]
theorem Oa:Aw OX OX (Ak FN):=asI
abbrev CK:Stmt:=top 84
abbrev FW:List Str:=["_law_mains","_law_seed","_law_j","_law_wanted","_law_k","_law_value","_law_mask"]
abbrev DO:List Str:=["_law_mains","_law_seed","_law_j"]
theorem BW:Aw FW DO (Ak CK):=asI
abbrev Fa:Stmt:=top 85
abbrev Ou:List Str:=["_law_mains","_law_seed","_law_j","_law_taken","_law_conditions","_law_k"]
theorem CB:Aw Ou DO (Ak Fa):=asI
abbrev Jp:Stmt:=top 86
abbrev SS:List Str:=["_law_condition","_law_around","_law_k","_law_many","_law_state"]
abbrev JF:List Str:=["_law_condition","_law_around"]
theorem DQ:Aw SS JF (Ak Jp):=asI
abbrev Gx:Stmt:=top 87
abbrev Qt:List Str:=["_law_clauses","_law_cell","_law_around","_law_at_here","_law_fits","_law_condition"]
abbrev GM:List Str:=["_law_clauses","_law_cell","_law_around"]
theorem Dj:Aw Qt GM (Ak Gx):=asI
abbrev Gz:Stmt:=top 88
abbrev Qv:List Str:=["_law_clauses","_law_cell","_law_around","_law_at_here"]
theorem JS:Aw Qv GM (Ak Gz):=asI
abbrev EF:Stmt:=top 89
abbrev NF:List Str:=["_law_script","_law_first","_law_many","_law_mains","_law_clauses","_law_k"]
abbrev EN:List Str:=["_law_script","_law_first","_law_many"]
theorem Cr:Aw NF EN (Ak EF):=asI
abbrev FE:Stmt:=top 90
abbrev LL:List Str:=["_law_condition"]
theorem Su:Aw LL LL (Ak FE):=asI
abbrev Ie:Stmt:=top 91
abbrev OO:List Str:=["_law_clauses","_law_parts","_law_clause","_law_words"]
abbrev LD:List Str:=["_law_clauses"]
theorem Ga:Aw OO LD (Ak Ie):=asI
abbrev Gy:Stmt:=top 92
abbrev Qu:List Str:=["_law_cell"]
theorem OS:Aw Qu Qu (Ak Gy):=asI
abbrev Iy:Stmt:=top 93
abbrev Ra:List Str:=["_law_states","_law_some","_law_place"]
abbrev Fz:List Str:=["_law_states"]
theorem Gq:Aw Ra Fz (Ak Iy):=asI
abbrev Es:Stmt:=top 94
abbrev Ii:List Str:=["_law_clauses","_law_states","_law_offsets","_law_found","_law_xs","_law_ys","_law_y","_law_x","_law_around","_law_state"]
abbrev LE:List Str:=["_law_clauses","_law_states"]
theorem Ci:Aw Ii LE (Ak Es):=asI
abbrev FO:Stmt:=top 95
abbrev OY:List Str:=["_law_script","_law_first","_law_many","_law_left","_law_top","_law_mains","_law_states","_law_k","_law_value"]
abbrev FR:List Str:=["_law_script","_law_first","_law_many","_law_left","_law_top"]
theorem CO:Aw OY FR (Ak FO):=asI
abbrev Lk:Stmt:=top 96
theorem Sw:Aw Qu Qu (Ak Lk):=asI
abbrev DF:Stmt:=top 97
abbrev Ge:List Str:=["_law_states","_law_left","_law_top"]
theorem Ip:Aw Ge Fz (Ak DF):=asI
abbrev Ix:Stmt:=top 98
abbrev QZ:List Str:=["_law_clauses","_law_states","_law_most","_law_seen","_law_k","_law_last","_law_at_here"]
abbrev IH:List Str:=["_law_clauses","_law_states","_law_most"]
theorem CN:Aw QZ IH (Ak Ix):=asI
abbrev Jn:Stmt:=top 99
abbrev SQ:List Str:=["_law_script","_law_m","_law_made","_law_state"]
abbrev JD:List Str:=["_law_script","_law_m"]
theorem Iq:Aw SQ JD (Ak Jn):=asI
abbrev Jo:Stmt:=top 100
abbrev SR:List Str:=["_law_found","_law_due","_law_number"]
abbrev JE:List Str:=["_law_found","_law_due"]
theorem Ms:Aw SR JE (Ak Jo):=asI
abbrev WP:Stmt:=top 101
abbrev dZ:List Str:=["_law_script","_law_clauses","_law_most","_law_made","_law_many","_law_left","_law_states","_law_grove","_law_jumps","_law_field","_law_due","_law_fewer"]
abbrev aDz:List Str:=["_law_script"]
theorem Ed:Aw dZ aDz (Ak WP):=asI
abbrev GC:Stmt:=Bj (top 20) 0
abbrev Qx:List Str:=["self","state","numbers"]
theorem OU:Aw Qx Qx (Ak GC):=asI
abbrev FP:Stmt:=Bj (top 20) 1
abbrev OZ:List Str:=["self","around"]
theorem Ob:Aw OZ OZ (Ak FP):=asI
abbrev Iz:Stmt:=Bj (top 21) 0
abbrev Rb:List Str:=["self","wanted"]
theorem PX:Aw Rb Rb (Ak Iz):=asI
abbrev EG:Stmt:=Bj (top 21) 1
theorem OT:Aw OZ OZ (Ak EG):=asI
abbrev IB:Stmt:=Bj (top 22) 0
abbrev Rf:List Str:=["self","cell","conditions","makes"]
theorem PZ:Aw Rf Rf (Ak IB):=asI
abbrev Fu:Stmt:=Bj (top 22) 1
abbrev Mz:List Str:=["self","cell","around"]
theorem Qa:Aw Mz Mz (Ak Fu):=asI
abbrev Ju:Stmt:=Bj (top 34) 0
abbrev SX:List Str:=["self","state","level","bare"]
abbrev JI:List Str:=["self"]
theorem Fp:Aw SX JI (Ak Ju):=asI
abbrev Jt:Stmt:=Bj (top 34) 1
abbrev SW:List Str:=["self","parts","level","number"]
abbrev Gd:List Str:=["self","parts","level"]
theorem Mt:Aw SW Gd (Ak Jt):=asI
abbrev GB:Stmt:=Bj (top 34) 2
abbrev Qw:List Str:=["self","parts","number"]
abbrev AZ:List Str:=["self","parts"]
theorem JU:Aw Qw AZ (Ak GB):=asI
abbrev DC:Stmt:=Bj (top 34) 3
abbrev LP:List Str:=["self","square"]
theorem JY:Aw LP LP (Ak DC):=asI
abbrev Js:Stmt:=Bj (top 34) 4
abbrev SV:List Str:=["self","state"]
theorem QT:Aw SV SV (Ak Js):=asI
abbrev Fc:Stmt:=Bj (top 34) 7
theorem Nq:Aw LP LP (Ak Fc):=asI
abbrev Fb:Stmt:=Bj (top 34) 9
theorem Np:Aw LP LP (Ak Fb):=asI
abbrev Qc:Stmt:=Bj (top 34) 10
abbrev OV:Stmt:=Bj (top 34) 11
abbrev Jr:Stmt:=Bj (top 34) 12
theorem QS:Aw LP LP (Ak Jr):=asI
abbrev Ft:Stmt:=Bj (top 34) 13
abbrev Re:List Str:=["self","square","box"]
theorem EE:Aw Re LP (Ak Ft):=asI
abbrev DH:Stmt:=Bj (top 34) 14
abbrev Ox:List Str:=["self","square","level","half","boxes","place","quarter","box"]
theorem BG:Aw Ox LP (Ak DH):=asI
abbrev Ig:Stmt:=Bj (top 68) 0
abbrev OP:List Str:=["self","text"]
theorem Sx:Aw OP OP (Ak Ig):=asI
abbrev Jq:Stmt:=Bj (top 79) 0
abbrev ST:List Str:=["self","grove","rule"]
theorem QR:Aw ST ST (Ak Jq):=asI
abbrev EH:Stmt:=Bj (top 79) 1
abbrev LO:List Str:=["self","rule","text"]
abbrev GP:List Str:=["self","rule"]
theorem JT:Aw LO GP (Ak EH):=asI
abbrev IA:Stmt:=Bj (top 79) 2
abbrev Rc:List Str:=["self","square","e"]
theorem PY:Aw Rc Rc (Ak IA):=asI
abbrev Ef:Stmt:=Bj (top 79) 3
abbrev MZ:List Str:=["self","square","e","level"]
theorem FV:Aw MZ Rc (Ak Ef):=asI
abbrev DG:Stmt:=Bj (top 79) 4
abbrev Ov:List Str:=["self","square","e","result"]
theorem EC:Aw Ov Rc (Ak DG):=asI
abbrev CH:Stmt:=Bj (top 79) 5
abbrev FA:List Str:=["self","square","e","grove","level","nine"]
theorem ED:Aw FA Rc (Ak CH):=asI
abbrev BD:Stmt:=Bj (top 79) 6
abbrev DD:List Str:=["self","square","e","nine"]
theorem EU:Aw DD Rc (Ak BD):=asI
abbrev DB:Stmt:=Bj (top 79) 7
abbrev LN:List Str:=["self","square","parts","a","b","c","d"]
theorem Bu:Aw LN LP (Ak DB):=asI
abbrev Da:Stmt:=Bj (top 79) 8
abbrev GS:List Str:=["self","leaves","leaf","states"]
abbrev Ek:List Str:=["self","leaves"]
theorem CJ:Aw GS Ek (Ak Da):=asI
structure Ad where
V_:Addr
b_:Addr
Z_:Addr
N1:Addr
l5:Addr
M3:Addr
structure Top(K:O_)(mg:C_)(a:Ad):Prop where
aDm:mg "all" = o0
aAn:mg "bool" = o0
l_:mg "enumerate" = o0
aAP:mg "int" = o0
X_:mg "isinstance" = o0
j_:mg "len" = o0
aEP:mg "list" = o0
aAM:mg "max" = o0
aAJ:mg "min" = o0
U_:mg "range" = o0
aAo:mg "sorted" = o0
aAQ:mg "str" = o0
b_sum:mg "sum" = o0
f_:mg "tuple" = o0
aGa:mg "zip" = o0
aAR:∃t,mg "STATES" = n_ (.int 8 t)
aAG:∃t,mg "NEIGHBOURS" = n_ (.int 8 t)
aAK:∃t,mg "STATE_FIGURES" = n_ (.str (Str.ofString "01234567") t)
aAI:∃t,mg "AMOUNT_FIGURES" = n_ (.str (Str.ofString "012345678") t)
aAT:∃t,mg "ANY_SIGN" = n_ (.str (Str.ofString "*") t)
aAC:∃t,mg "TOP_LEVEL" = n_ (.int 48 t)
aAO:∃t,mg "LIMIT" = n_ (.int 1099511627776 t)
g_:∃t,mg "LEAST_LEVEL" = n_ (.int 1 t)
aAL:∃t,mg "CLAUSE_MARK" = n_ (.str (Str.ofString "; ") t)
d_:∃t,mg "LEAST_JUMPED" = n_ (.int 2 t)
aAU:mg "Amounts" = n_ (.ref a.V_)
aAA:Cls K a.V_
m_:BS K a.V_ "state"
l6:BS K a.V_ "numbers"
aBY:mg "Places" = n_ (.ref a.b_)
aAN:Cls K a.b_
n7:BS K a.b_ "wanted"
aBX:mg "Clause" = n_ (.ref a.Z_)
k_:Cls K a.Z_
aAD:BS K a.Z_ "cell"
h_:BS K a.Z_ "conditions"
aAB:BS K a.Z_ "makes"
aCZ:mg "Grove" = n_ (.ref a.N1)
L0:Cls K a.N1
Q2:BS K a.N1 "levels"
L4:BS K a.N1 "parts"
e_:BS K a.N1 "numbers"
Q3:BS K a.N1 "bares"
n6:BS K a.N1 "amounts"
l7:BS K a.N1 "boxes"
aEw:mg "Rule" = n_ (.ref a.l5)
aAF:Cls K a.l5
aAH:BS K a.l5 "text"
i_:BS K a.l5 "clauses"
aCa:mg "Jumps" = n_ (.ref a.M3)
Q1:Cls K a.M3
N2:BS K a.M3 "grove"
W_:BS K a.M3 "memories"
aAE:BS K a.M3 "rule"
Y_:BS K a.M3 "known_squares"
a_:BS K a.M3 "known_cells"
seal L2.PA L2.PE L2.PS L2.PSs L2.PT L2.PW
inductive Bw where
|am (s:Int) (ns:I_)
|pl (ws:List (Option Int))
structure AY where
cell:Option Int
conds:List Bw
makes:Int
abbrev AC:=List AY
def IM:Option Int->V
|none=>.non
|some i=>.int i
def Dy(w:Option Int)(s:Int):Bool:=match w with
|none=>o4
|some i=>decide (i=s)
def Bw.holds(ar:I_):Bw->Bool
|.am s ns=>ns.any λn=>decide (n=((ar.countP (· == s):Nat):Int))
|.pl ws=>(ws.zip ar).all λp=>Dy p.1 p.2
def AY.fits(cell:Int)(ar:I_)(c:AY):Bool:=Dy c.cell cell && c.conds.all (Bw.holds ar)
def La(r:AC)(cell:Int)(ar:I_):Option Nat:=r.findIdx? (AY.fits cell ar)
def Cz(r:AC)(cell:Int)(ar:I_):Int:=match r.find? (AY.fits cell ar)with
|none=>cell
|some c=>c.makes
def fl1(f:Str)(a:V):List (Str×V):=Bb f a []
def fl2(f g:Str)(a b:V):List (Str×V):=Bb g b (Bb f a [])
def fl3(f g h:Str)(a b c:V):List (Str×V):=Bb h c (Bb g b (Bb f a []))
theorem aDt:(fl1 f a).lookup f=n_ a:=by unfold fl1;rw[An,A0g rfl]
theorem Ti(h:¬m=f):(fl1 f a).lookup m=o0:=by unfold fl1;rw[An,A0d h];rfl
theorem aA5(h:¬f=g):(fl2 f g a b).lookup f=n_ a:=by unfold fl2;rw[An,A0d h,An,A0g rfl]
theorem aA6:(fl2 f g a b).lookup g=n_ b:=by unfold fl2;rw[An,A0g rfl]
theorem aEa(c:¬m=f)(d:¬m=g):(fl2 f g a b).lookup m=o0:=by unfold fl2;rw[An,A0d d,An,A0d c];rfl
theorem aGj{a b c:V}(d:¬f=g)(e:¬f=h):(fl3 f g h a b c).lookup f=n_ a:=by unfold fl3;rw[An,A0d e,An,A0d d,An,A0g rfl]
theorem aGk{a b c:V}(d:¬g=h):(fl3 f g h a b c).lookup g=n_ b:=by unfold fl3;rw[An,A0d d,An,A0g rfl]
theorem aDu{a b c:V}:(fl3 f g h a b c).lookup h=n_ c:=by unfold fl3;rw[An,A0g rfl]
theorem aEb{a b c:V}(d:¬m=f)(e:¬m=g)(i:¬m=h):(fl3 f g h a b c).lookup m=o0:=by unfold fl3;rw[An,A0d i,An,A0d e,An,A0d d];rfl
theorem Uq(f:Str)(v:V):∀l:List (Str×V),(Bb f v l).length<=l.length+1
|[]=>B8 _
| (g,w)::r=>by
 unfold Bb;split
 .exact T5 _
 .rw[F0,F0];exact Q5 (Uq f v r)
theorem As(h:H p=o0):Ay H (upd H p o):=λb u e=>by
 rw[Ax (Av e h)];exact e
theorem alc(h:H p=o0)(e:upd H p o=a):Ay H a/\a p=n_ o:=e▸⟨As h,Af⟩
inductive DP(a:Ad)(H:Hp):Addr->Bw->Prop where
|am {p t dx:R_} {s:Int} {ns:I_} (h:H p=n_ (.ins a.V_ dx (fl2 "state" "numbers" (.int s) (.ref t)))) (ht:H t=n_ (.tup (ns.map V.int))):DP a H p (.am s ns)
|pl {p t dx:R_} {ws:List (Option Int)} (h:H p=n_ (.ins a.b_ dx (fl1 "wanted" (.ref t)))) (ht:H t=n_ (.tup (ws.map IM))):DP a H p (.pl ws)
structure Ct(a:Ad)(H:Hp)(p:R_)(c:AY):Prop where
ex:∃(dx t:R_)(cs:H_),H p=n_ (.ins a.Z_ dx (fl3 "cell" "conditions" "makes" (IM c.cell) (.ref t) (.int c.makes)))/\H t=n_ (.tup (cs.map V.ref))/\Paired (DP a H) cs c.conds
structure Df(a:Ad)(H:Hp)(p:R_)(x:Str)(r:AC):Prop where
ex:∃(dx t:R_)(cs:H_),H p=n_ (.ins a.l5 dx (fl2 "text" "clauses" (.str x) (.ref t)))/\H t=n_ (.tup (cs.map V.ref))/\Paired (Ct a H) cs r
theorem Paired.imp{α β:Type}{F G:α->β->Prop}(h:∀x y,F x y->G x y):∀{l:List α}{m:List β},Paired F l m->Paired G l m
|_,_,.nil=>.nil
|_,_,.cons r t=>.cons (h _ _ r) (Paired.imp h t)
theorem Paired.get{α β:Type}{F:α->β->Prop}:∀{l:List α}{m:List β}{i:Nat}{x:α},Paired F l m->l[i]?=n_ x->∃y,m[i]?=n_ y/\F x y
|_,_,_,_,.nil,e=>by simp at e
|_,_,0,_,.cons r _,e=>by simp at e;subst e;exact⟨_,Z,r⟩
|_,_,i+1,x,.cons _ t,e=>by
 exact xea (Paired.get (i:=i) (x:=x) t (by simpa using e)) λy a b=>⟨y,by simpa using a,b⟩
theorem DP.same{c:Bw}(s:Ay H d)(h:DP a H p c):DP a d p c:=by
 cases h with
 |am h b=>exact .am (s _ _ h) (s _ _ b)
 |pl h b=>exact .pl (s _ _ h) (s _ _ b)
theorem Ct.same{a:Ad}{H b:Hp}{p:R_}{c:AY}(s:Ay H b)(h:Ct a H p c):Ct a b p c:=by
 exact Dw h.ex λdx t cs d e f=>⟨dx,t,cs,s _ _ d,s _ _ e,Paired.imp (λ_ _ z=>z.same s) f⟩
theorem Df.same{a:Ad}{H b:Hp}{p:R_}{x:Str}{r:AC}(s:Ay H b)(h:Df a H p x r):Df a b p x r:=by
 exact Dw h.ex λdx t cs c d e=>⟨dx,t,cs,s _ _ c,s _ _ d,Paired.imp (λ_ _ z=>z.same s) e⟩
theorem Td(n:Int)(ns:I_):inV (.int n) (ns.map V.int)=ns.any λm=>decide (m=n):=by
 unfold inV;rw[List.any_map];congr 1
theorem RL(ns:I_):(ns.map V.int).all NO=o4:=by
 rw[List.all_map];exact T4.mpr λ_ _=>Z
theorem JM(i j:Int):decide (V.int i=V.int j)=decide (i=j):=by
 by_cases h:i=j
 .rw[A0e h,A0e (by rw[h])]
 .rw[A0f h,A0f λz=>h (by injection z)]
section
variable{P:N_}{w:Q_}{K:O_}{mg:C_}{n8:T_}{a:Ad}
inductive Yr(vs:List V)(H:Hp)(Q:VK):Prop
|mk (x:Option Int) (s:Int) (_:vs=[IM x,.int s]) (_:Q (.bl (Dy x s)) H):Yr vs H Q
def Pf:Sp:=λvs H Q _=>Yr vs H Q
theorem aBz(F:Fun K "takes" "takes" Sy f fd):AM P w K mg n8 CX0 1 f fd dY Pf:=by
 refine F.ok aCB D_9 λc A b s H vs Q E d h=>?_
 obtain⟨x,s,rfl,k⟩:=h;refine⟨_,(Ah (Au (aHQ (DY El (pv 0) Cg (AD _)) (MS (DY CQ (pv 0) (pv 1) (AD _)))))),?_⟩;refine xq1 Z ⟨Z,(xq1 Z ?_)⟩;cases x with
 |none=>exact BR k
 |some i =>
  have e:decide (IM (n_ i)=V.int s)=Dy (n_ i) s:=JM i s;rw[<-e]at k;exact Ba (xw2 Z Z ⟨Z,k⟩)
inductive Vl(a:Ad)(vs:List V)(H:Hp)(Q:VK):Prop
|mk (p t dx:R_) (s:Int) (_:vs=[.ref p,.int s,.ref t]) (_:H p=n_ (.ins a.V_ dx [])) (_:Q .non (upd H p (.ins a.V_ dx (fl2 "state" "numbers" (.int s) (.ref t))))):Vl a vs H Q
def PN(a:Ad):Sp:=λvs H Q _=>Vl a vs H Q
theorem YS(F:Fun K "__init__" "Amounts.__init__" GC f fd)(T:Top K mg a):AM P w K mg n8 CX0 1 f fd Qx (PN a):=by
 refine F.ok OU D_9 λc A b s H vs Q E e h=>?_
 obtain⟨p,t,dx,s,rfl,d,k⟩:=h;refine⟨_,(Ae (Db (pv 0) (pv 1) Z) (Ah (Db (pv 0) (pv 2) Z))),?_⟩;refine xw2 Z Z ⟨p,_,dx,[],Z,d,T.aAA,T.m_,B4,(xw2 Z Z ⟨p,_,dx,(xq1 Z ⟨Af,T.aAA,T.l6,B5,?_⟩)⟩)⟩;rw[GZ];exact k
inductive Vj(a:Ad)(vs:List V)(H:Hp)(Q:VK):Prop
|mk (p t dx:R_) (_:vs=[.ref p,.ref t]) (_:H p=n_ (.ins a.b_ dx [])) (_:Q .non (upd H p (.ins a.b_ dx (fl1 "wanted" (.ref t))))):Vj a vs H Q
def PJ(a:Ad):Sp:=λvs H Q _=>Vj a vs H Q
theorem YQ(F:Fun K "__init__" "Places.__init__" Iz f fd)(T:Top K mg a):AM P w K mg n8 CX0 1 f fd Rb (PJ a):=by
 refine F.ok PX D_9 λc A b s H vs Q E e h=>?_
 obtain⟨p,t,dx,rfl,d,k⟩:=h;refine⟨_,(Ah (Db (pv 0) (pv 1) Z)),?_⟩;exact xw2 Z Z ⟨p,_,dx,[],Z,d,T.aAN,T.n7,B4,k⟩
inductive Vk(a:Ad)(vs:List V)(H:Hp)(Q:VK):Prop
|mk (p t dx:R_) (c:Option Int) (m:Int) (_:vs=[.ref p,IM c,.ref t,.int m]) (_:H p=n_ (.ins a.Z_ dx [])) (_:Q .non (upd H p (.ins a.Z_ dx (fl3 "cell" "conditions" "makes" (IM c) (.ref t) (.int m))))):Vk a vs H Q
def PM(a:Ad):Sp:=λvs H Q _=>Vk a vs H Q
theorem YR(F:Fun K "__init__" "Clause.__init__" IB f fd)(T:Top K mg a):AM P w K mg n8 CX0 1 f fd Rf (PM a):=by
 refine F.ok PZ D_9 λd A b s H vs Q E g h=>?_
 obtain⟨p,t,dx,c,m,rfl,e,k⟩:=h;refine⟨_,(Ae (Db (pv 0) (pv 1) Z) (Ae (Db (pv 0) (pv 2) Z) (Ah (Db (pv 0) (pv 3) Z)))),?_⟩;refine⟨_,Z,_,Z,p,_,dx,[],Z,e,T.k_,T.aAD,B4,_,Z,_,Z,p,_,dx,_,Z,Af,T.k_,T.h_,B5,_,Z,_,Z,p,_,dx,_,Z,Af,T.k_,T.aAB,
  D6 (Uq _ _ _) (by show 2<1000;decide),?_⟩
 rw[GZ,GZ];exact k
def NX(a:Ad):Sp:=λvs H Q E=>(∃(p l t dx:R_)(s:Int)(ns ar:I_),vs=[.ref p,.ref l]/\H p=n_ (.ins a.V_ dx (fl2 "state" "numbers" (.int s) (.ref t)))/\H t=n_ (.tup (ns.map V.int))/\H l=n_ (.lst (ar.map V.int))/\Q (.bl (Bw.holds ar (.am s ns))) H)
theorem VM(F:Fun K "holds" "Amounts.holds" FP f fd)(T:Top K mg a):AM P w K mg n8 CX0 1 f fd OZ (NX a):=by
 refine F.ok Ob (λvs H Q E h=>?_) (λg A b s H vs Q E j h=>?_)
 .obtain⟨p,l,t,dx,s,ns,c,rfl,_⟩:=h;rfl
 .obtain⟨p,l,t,dx,s,ns,c,rfl,e,i,d,k⟩:=h;refine⟨_,(Ah (Au (DY On (Du A1g PySem.F.slot_list_count PySem.F.type_list_count aBe (pv 1) (Aa (AF (pv 0) Z) Ab)) (AF (pv 0) Z) Z))),?_⟩;refine xq1 Z ⟨.inl ⟨Z,_,SqL.of d⟩,(xwf Z Z e T.aAA T.m_ (aA5 A0) ⟨l,c,s,Z,Z,d,(xwf Z Z e T.aAA T.l6 aA6 ⟨t,(xq1 Z ⟨.inr (SqT.of i),Z,RL ns,?_⟩)⟩)⟩)⟩;show Q (.bl (inV _ _)) H;rw[Td];exact k
inductive Sb(a:Ad)(vs:List V)(H:Hp)(Q:VK):Prop
|mk (p l t dx:R_) (ws:List (Option Int)) (ar:I_) (_:vs=[.ref p,.ref l]) (_:H p=n_ (.ins a.b_ dx (fl1 "wanted" (.ref t)))) (_:H t=n_ (.tup (ws.map IM))) (_:H l=n_ (.lst (ar.map V.int))) (_:ws.length<=100) (_:∀H',Ay H H'->Q (.bl (Bw.holds ar (.pl ws))) H'):Sb a vs H Q
def NW(a:Ad):Sp:=λvs H Q _=>Sb a vs H Q
theorem VL(F:Fun K "holds" "Places.holds" EG f fd)(T:Top K mg a)(L:Cal P w K mg n8 CX0 1 "takes" dY Pf):AM P w K mg n8 CX0 2 f fd OZ (NW a):=by
 refine F.ok OT D_9 λM A r s H vs Q E W h=>?_
 obtain⟨p,l,t,dx,b,d,rfl,U,D,C,X,k⟩:=h;refine⟨_,(Ah (Au (AN (Vd Z) Z T.aDm PyProof.Rows.boot_all (Aa (BT Z (Bl.of (So:=Ak EG) (No:=OZ) (N:=["one","state"]) (k:=2) (cs:=[]) Z Z A0) (aFV o4 o5 Z T.aGa (Aa (AF (pv 0) Z) (Aa (pv 1) Ab))) (λ_ _ _=>(Ut (i:=0) (j:=1) Z A0 Z Z Z Z)) (λ_ _ _=>Bm) (λ_ _ _=>(Ar L (rm W) Z Aq (Aa (pv 0) (Aa (pv 1) Ab))))) Ab)))),?_⟩;refine xwf Z Z U T.aAN T.n7 aDt (xq1 Z ⟨t,l,Z,⟨_,SqT.of D⟩,⟨_,SqL.of C⟩,?_⟩);refine aCK (xs:=b.map IM) (ys:=d.map V.int) (λi c n=>Ay H n/\c=(((b.zip d).take i).map λp=>V.bl (Dy p.1 p.2))) ⟨Ay.refl H,Z⟩ (λi c n z=>⟨SqT.of (z.1 _ _ D),SqL.of (z.1 _ _ C)⟩) ?_ ?_
 .intro i x y c n T' G I v Y;obtain⟨u,rfl⟩:=v;rw[C0]at G I;refine xea (D5.mp G) λo R g=>?_;subst g;refine xea (D5.mp I) λm O g=>?_;subst g;have S:(b.zip d)[i]?=n_ (o,m):=by rw[W9];exact⟨R,O⟩
  refine RJ Af ⟨⟨[n_ (IM o),n_ (.int m)],Z,Z⟩,?_,?_⟩
  .have:((((b.zip d).take i).map λp=>V.bl (Dy p.1 p.2))).length<=b.length:=by
    rw[B7,L7,Z8];omega
   exact D6 (C5 this X) A4
  .refine FY (xw2 Z Z ⟨o,m,Z,u.trans (As Y),?_⟩);rw[F7,S,C7];rfl
 .intro c n B q nq;obtain⟨u,rfl⟩:=B;have len:min (b.map IM).length (d.map V.int).length=(b.zip d).length:=by rw[B7,B7,Z8]
  rw[len,J0];refine⟨q,(b.zip d).map (λp=>Dy p.1 p.2),Z,SqL.of (by rw[Af,O1];rfl),?_⟩;have e:((b.zip d).map (λp=>Dy p.1 p.2)).all id=Bw.holds d (.pl b):=by rw[List.all_map];rfl
  rw[e];exact k _ (u.trans (As nq))
inductive aAY(a:Ad)(vs:List V)(H:Hp)(Q:VK):Prop
|mk (p l:R_) (c:AY) (cell:Int) (ar:I_) (_:vs=[.ref p,.int cell,.ref l]) (_:Ct a H p c) (_:c.conds.length<=100) (_:(∀d∈c.conds,∀ws,d=Bw.pl ws->ws.length<=100)) (_:H l=n_ (.lst (ar.map V.int))) (_:∀H',Ay H H'->Q (.bl (c.fits cell ar)) H'):aAY a vs H Q
def VA(a:Ad):Sp:=λvs H Q _=>aAY a vs H Q
theorem aCk(F:Fun K "fits" "Clause.fits" Fu f fd)(T:Top K mg a)(cT:Cal P w K mg n8 CX0 1 "takes" dY Pf)(r:Co P w K mg n8 CX0 1 a.V_ "holds" OZ (NX a))(u:Co P w K mg n8 CX0 2 a.b_ "holds" OZ (NW a)) :
 AM P w K mg n8 CX0 3 f fd Mz (VA a):=by
 refine F.ok Qa D_9 λaa A L s H vs Q E I h=>?_
 obtain⟨p,l,c,cell,g,rfl,hC,hn,G,X,k⟩:=h;refine Dw hC.ex λdx t cs Y ht y=>⟨_,(Ah (Au (Lx (Ar cT (rm I) Z Aq (Aa (AF (pv 0) Z) (Aa (pv 1) Ab))) (MS (AN (Vd Z) Z T.aDm PyProof.Rows.boot_all (Aa (BT Z (Bl.of (So:=Ak Fu) (No:=Mz) (N:=["condition","around"]) (k:=1) (cs:=[2]) Z Z A0) (SB (AF (pv 0) Z)) (λ_ _ _=>(AW (i:=0) A0 Z Z)) (λ_ _ _=>Bm) (λ_ _ _=>(PE.or (AK (pv 0) r (rm I) Aq (Aa (pv 1) Ab)) (AK (pv 0) u (rm I) Aq (Aa (pv 1) Ab))))) Ab)))))),?_⟩
 refine xwf Z Z Y T.k_ T.aAD (aGj A0 A0) (xq1 Z ⟨c.cell,cell,Z,Dy c.cell cell,Z,?_⟩);cases W:Dy c.cell cell with
 |false =>
  refine Ba ?_;have:=k H (Ay.refl H);unfold AY.fits at this;rw[W]at this;exact this
 |true =>
  refine BR ?_;refine xwf Z Z Y T.k_ T.h_ (aGk A0) ⟨t,Z,⟨_,SqT.of ht⟩,?_⟩;refine Tq (xs:=cs.map V.ref) (λi j m=>Ay H m/\j=((c.conds.take i).map λd=>V.bl (Bw.holds g d))) ⟨Ay.refl H,Z⟩ (λi j m _ z=>SqT.of (z.1 _ _ ht)) ?_ ?_
  .intro i x j m hx R;obtain⟨n,rfl⟩:=R;rw[C0]at hx;refine xea (D5.mp hx) λq eq B=>?_;subst B;refine xea (Paired.get y eq) λd U hd=>?_;have D:=hd.same n;refine⟨⟨[n_ (.ref q)],Z,Z⟩,?_,?_⟩
   .have:((c.conds.take i).map λd=>V.bl (Bw.holds g d)).length<=c.conds.length:=by
     rw[B7,L7];omega
    exact D6 (C5 this hn) A4
   .refine FY ?_;have nx:∀o,Ay m o->Ay H o/\((c.conds.take i).map λd=>V.bl (Bw.holds g d))++[V.bl (Bw.holds g d)]=((c.conds.take (i+1)).map λd=>V.bl (Bw.holds g d)):=λo M=>⟨n.trans M,by
     rw[F7,U,C7];rfl⟩
    cases D with
    |@am O b s ns v C=>exact .inl ⟨_,Z,q,b,_,Z,v,aEa A0 A0,_,Z,q,l,O,b,s,ns,g,Z,v,C,n _ _ X,nx m (Ay.refl m)⟩
    |@pl O b ws v C=>exact .inr ⟨_,Z,q,b,_,Z,v,Ti A0,_,Z,q,l,O,b,ws,g,Z,v,C,n _ _ X,G _ (D8 U) ws Z,λo M=>nx o M⟩
  .intro j m S q nq;obtain⟨n,rfl⟩:=S;rw[B7,(A1e y),J0];refine⟨q,c.conds.map (Bw.holds g),Z,SqL.of (by rw[Af,O1];rfl),?_⟩;have e:(c.conds.map (Bw.holds g)).all id=c.fits cell g:=by
    unfold AY.fits;rw[W,List.all_map];rfl
   rw[e];exact k _ (n.trans (As nq))
def ROk(r:AC):Prop:=r.length<=5000/\∀c∈r,c.conds.length<=100/\∀d∈c.conds,∀ws,d=Bw.pl ws->ws.length<=100
def aGe(o:Option Nat):V:=match o with
|none=>.non
|some n=>.int n
inductive aDR(a:Ad)(vs:List V)(H:Hp)(Q:VK):Prop
|mk (p l:R_) (z:Str) (r:AC) (cell:Int) (ar:I_) (_:vs=[.ref p,.int cell,.ref l]) (_:Df a H p z r) (_:ROk r) (_:H l=n_ (.lst (ar.map V.int))) (_:∀H',Ay H H'->Q (aGe (La r cell ar)) H'):aDR a vs H Q
def aD7(a:Ad):Sp:=λvs H Q _=>aDR a vs H Q
theorem aE2(F:Fun K "deciding" "deciding" MO f fd)(T:Top K mg a)(cA:Co P w K mg n8 CX0 3 a.Z_ "fits" Mz (VA a)):AM P w K mg n8 CX0 4 f fd MX (aD7 a):=by
 refine F.ok Lh D_9 λaa A I s H vs Q E hr h=>?_
 obtain⟨p,l,z,r,cell,m,rfl,hR,U,hl,k⟩:=h;refine Dw hR.ex λdx t cs hp W y=>⟨_,(Ae (BX A1c Z (Pn o4 Z T.l_ (Aa (AF (pv 0) Z) Ab)) (Qg Z (DS (Bd (i:=3) Lh.nd Z O_9) (DS (Bd (i:=4) Lh.nd Z O_9) Ny))) (Ah (AO (CP (AK (pv 4) cA (rm hr) Aq (Aa (pv 1) (Aa (pv 2) Ab)))) (Ah (Au (pv 3))) AB))) (Ah (Au Cg))),?_⟩;refine xwf Z Z hp T.aAF T.i_ aA6 ⟨t,Z,⟨_,SqT.of W⟩,?_⟩;refine NM (b:=o4) (xs:=cs.map V.ref) (λi σ g=>Ay H g/\(∃u v,σ=[n_ (.ref p),n_ (.int cell),n_ (.ref l),u,v])/\∀c∈r.take i,c.fits cell m=o5) ⟨Ay.refl H,⟨o0,o0,Z⟩,λc G=>by simp at G⟩ (λi σ g _ q=>SqT.of (q.1 _ _ W)) ?_ ?_
 .intro i x σ g T' X N nT;obtain⟨L,⟨u,v,rfl⟩,no⟩:=N;rw[C0]at X;refine xea (D5.mp X) λq eq D=>?_;subst D;refine xea (Paired.get y eq) λc B G=>?_;have C:=L.trans (As (o:=.tup [.int i,.ref q]) nT);have n:=G.same C;refine xe3 n.ex λac t2 ab M=>xa M λh1 _=>RJ Af ?_;have Y:=D8 B;refine xwn Z Z h1 (aEb A0 A0 A0) Z (xq1 Z ⟨q,l,c,cell,m,Z,n,(U.2 c Y).1,(U.2 c Y).2,C _ _ hl,λH4 s4=>(xq1 Z ?_)⟩);cases R:c.fits cell m with
  |true =>
   refine BR (xq1 Z ?_);have e:La r cell m=n_ i:=by
    unfold La;rw[V1];have hi:=(B9.mp B).1;refine⟨hi,?_,λj hj=>?_⟩
    .rw[(B9.mp B).2];exact R
    .have:=no r[j] (List.mem_take_iff_getElem.mpr ⟨j,by omega,Z⟩);rw[this];exact F1
   have:=k H4 (C.trans s4);rw[e]at this;exact this
  |false =>
   refine Ba ⟨C.trans s4,⟨_,_,Z⟩,λd S=>?_⟩;rw[F7,B]at S;rcases F6.mp S with z|z
   .exact no d z
   .have:d=c:=by simpa using z
    rw[this];exact R
 .intro σ g O;obtain⟨L,⟨u,v,rfl⟩,no⟩:=O;rw[B7,(A1e y),J0]at no;have e:La r cell m=o0:=by
   unfold La;rw[Y4];exact no
  have:=k g L;rw[e]at this;exact this
inductive aDL(a:Ad)(vs:List V)(H:Hp)(Q:VK):Prop
|mk (p l:R_) (z:Str) (r:AC) (cell:Int) (ar:I_) (_:vs=[.ref p,.int cell,.ref l]) (_:Df a H p z r) (_:ROk r) (_:H l=n_ (.lst (ar.map V.int))) (_:∀H',Ay H H'->Q (.int (Cz r cell ar)) H'):aDL a vs H Q
def WN(a:Ad):Sp:=λvs H Q _=>aDL a vs H Q
theorem NU{cell:Int}(h:La r cell b=o0):Cz r cell b=cell:=by
 unfold La at h;rw[Y4]at h;unfold Cz;rw[List.find?_eq_none.mpr λc d=>by rw[h c d];exact F1]
theorem NT{cell:Int}(h:La r cell b=n_ i):∃c,r[i]?=n_ c/\Cz r cell b=c.makes:=by
 unfold La at h;rw[V1]at h;refine xea h λd e f=>⟨r[i],C4 d,?_⟩
 unfold Cz;have:r.find? (AY.fits cell b)=n_ r[i]:=by
  rw[List.find?_eq_some_iff_getElem];exact⟨e,i,d,Z,λj g=>by simpa using f j g⟩
 rw[this]
theorem aEx(F:Fun K "becomes" "becomes" Of f fd)(T:Top K mg a)(x:Cal P w K mg n8 CX0 4 "deciding" MX (aD7 a)):AM P w K mg n8 CX0 5 f fd MX (WN a):=by
 refine F.ok PV D_9 λy A j s H vs Q E O h=>?_
 obtain⟨p,l,z,r,cell,o,rfl,v,M,L,k⟩:=h;refine⟨_,(Ae (Am (i:=3) PV.nd Z O_9 (Ar x (rm O) Z Aq (Aa (pv 0) (Aa (pv 1) (Aa (pv 2) Ab))))) (Ae (AO (AA El (pv 3) Cg (AD _)) (Ah (Au (pv 1))) AB) (Ah (Au (AF (Aj Al (AF (pv 0) Z) (pv 3) R_9) Z))))),?_⟩;refine xw3 Z Z Z ⟨p,l,z,r,cell,o,Z,v,M,L,λn g=>?_⟩;refine xq1 Z ⟨Z,(xq1 Z ?_)⟩;cases e:La r cell o with
 |none =>
  refine BR (xq1 Z ?_);have:=k n g;rw[NU e]at this;exact this
 |some i =>
  refine xea (NT e) λc u D=>Dw v.ex λdx t cs N R d=>?_;obtain⟨q,eq⟩:∃q,cs[i]?=n_ q:=by
   have:i<cs.length:=by rw[(A1e d)];exact(B9.mp u).1
   exact⟨_,C4 this⟩
  refine xea (Paired.get d eq) λS b I=>?_;rw[u]at b;cases b;refine xe3 ((I.same g).ex) λC U B m=>xa m λG _=>Ba (xwf Z Z (g _ _ N) T.aAF T.i_ aA6 (xwi Z Z Z (SqT.of (g _ _ R)) (Ai (by rw[C0,eq];rfl)) (xq5 G T.k_ T.aAB aDu ?_)));have:=k n g;rw[D]at this;exact this
end
def sgD(d:Int):Str:=⟨#[48+d.toNat]⟩
def wC:Option Int->Nat
|none=>42
|some d=>48+d.toNat
def wS(x:Option Int):Str:=⟨#[wC x]⟩
def Ew(ns:I_):Str:=⟨(ns.map λn=>48+n.toNat).toArray⟩
def Bg:Bw->Str
|.am s ns=>sgD s++⟨#[61]⟩++Ew ns
|.pl ws=>⟨(ws.map wC).toArray⟩
def Cf(c:AY):Str:=Str.join ⟨#[32]⟩ (wS c.cell::(c.conds.map Bg++[sgD c.makes]))
def RC:Str:=⟨#[59,32]⟩
def Et(r:AC):Str:=Str.join RC (r.map Cf)
def IU(d:Int):Prop:=0<=d/\d<8
def wOk:Option Int->Prop
|none=>True
|some d=>IU d
def Bw.ok:Bw->Prop
|.am s ns=>IU s/\ns≠[]/\(∀n∈ns,0<=n/\n<=8)/\ns.Pairwise (· < ·)
|.pl ws=>ws.length=8/\∀w∈ws,wOk w
structure AY.ok(c:AY):Prop where
cell:wOk c.cell
makes:IU c.makes
few:c.conds.length<=50
conds:∀d∈c.conds,d.ok
theorem aDr(h:IU d):d=0\/d=1\/d=2\/d=3\/d=4\/d=5\/d=6\/d=7:=by
 obtain⟨m,rfl⟩:=M0 h.1;have a:=h.2;exact(show ∀m:Nat,m<8->((m:Int)=0\/(m:Int)=1\/(m:Int)=2\/(m:Int)=3\/(m:Int)=4\/(m:Int)=5\/(m:Int)=6\/(m:Int)=7) by decide) m A3
abbrev figs8:Str:=Str.ofString "01234567"
abbrev figs9:Str:=Str.ofString "012345678"
theorem ZP(h:IU d):PySem.intText? (sgD d)=n_ d/\(!(Builtin.Str.occurrences figs8 (sgD d) 0 figs8.length 1).isEmpty)=o4:=by
 rcases aDr h with rfl|rfl|rfl|rfl|rfl|rfl|rfl|rfl<;>exact⟨by decide +kernel,by decide +kernel⟩
theorem nine{d:Int}(a:0<=d)(b:d<=8):d=0\/d=1\/d=2\/d=3\/d=4\/d=5\/d=6\/d=7\/d=8:=by
 obtain⟨m,rfl⟩:=M0 a;exact(show ∀m:Nat,m<9->((m:Int)=0\/(m:Int)=1\/(m:Int)=2\/(m:Int)=3\/(m:Int)=4\/(m:Int)=5\/(m:Int)=6\/(m:Int)=7\/(m:Int)=8) by decide) m A3
theorem aAk{d:Int}(a:0<=d)(b:d<=8):PySem.intText? (⟨#[48+d.toNat]⟩:Str)=n_ d/\(!(Builtin.Str.occurrences figs9 (⟨#[48+d.toNat]⟩:Str) 0 figs9.length 1).isEmpty)=o4:=by
 rcases nine a b with rfl|rfl|rfl|rfl|rfl|rfl|rfl|rfl|rfl<;>exact⟨by decide +kernel,by decide +kernel⟩
theorem aDD(h:IU d):decide (V.str (wS (n_ d))=V.str (Str.ofString "*"))=o5:=by
 rcases aDr h with rfl|rfl|rfl|rfl|rfl|rfl|rfl|rfl<;>decide +kernel
theorem Rm(h:wOk x):wC x≠61/\wC x≠32/\wC x≠59:=by
 cases x with
 |none=>exact⟨by decide,by decide,by decide⟩
 |some d =>
  have:=h.1;have:=h.2;show 48+d.toNat≠61/\48+d.toNat≠32/\48+d.toNat≠59;refine⟨?_,?_,?_⟩<;>lia
theorem RP(h:d.ok):32∉(Bg d).cps.toList/\59∉(Bg d).cps.toList:=by
 cases d with
 |am s ns =>
  obtain⟨⟨g,i⟩,_,c,_⟩:=h;have e:(Bg (.am s ns)).cps.toList=(48+s.toNat)::61::ns.map λn=>48+n.toNat:=by
   show(sgD s++⟨#[61]⟩++Ew ns).cps.toList=_;rw[Tx.De,Tx.De];rfl
  rw[e];constructor
  .intro z;rcases C1.mp z with z|z
   .lia
   .rcases C1.mp z with z|z
    .lia
    .refine xea (D0.mp z) λn a e=>?_;have:=c n a;lia
  .intro z;rcases C1.mp z with z|z
   .lia
   .rcases C1.mp z with z|z
    .lia
    .refine xea (D0.mp z) λn a e=>?_;have:=c n a;lia
 |pl f =>
  have e:(Bg (.pl f)).cps.toList=f.map wC:=rfl;rw[e];constructor
  .intro z;exact xea (D0.mp z) λx b e=>(Rm (h.2 x b)).2.1 e
  .intro z;exact xea (D0.mp z) λx b e=>(Rm (h.2 x b)).2.2 e
theorem Py:∀(ns:I_)(lo:Int),lo<=9->(∀n∈ns,lo<=n/\n<=8)->ns.Pairwise (· < ·)->(ns.length:Int)<=9-lo
|[],lo,h,_,_=>by show(0:Int)<=9-lo;lia
|n::r,lo,_,hn,hp=>by
 have b:=hn n C8;have c:=Py r (n+1) A3 (λm a=>⟨by have:=(T6.mp hp).1 m a;lia,(hn m (C9 _ a)).2⟩) (T6.mp hp).2;rw[F0];lia
theorem NS(h:d.ok):(Bg d).length<=11:=by
 cases d with
 |am s ns =>
  refine xa3 h λ_ _ a b=>?_;have e:=Py ns 0 A4 a b;rw[Nu.len];show(sgD s++⟨#[61]⟩++Ew ns).cps.toList.length<=11;rw[Tx.De,Tx.De,C6,C6];show 1+1+(ns.map λn=>48+n.toNat).length<=11;rw[B7];lia
 |pl c =>
  rw[Nu.len];show(c.map wC).length<=11;rw[B7,h.1];decide
section
variable{P:N_}{w:Q_}{K:O_}{mg:C_}{n8:T_}{a:Ad}
theorem WE(K:O_):kitOne K (.type "str") (.type "str")=n_ o4:=by kernel_rfl
inductive aGM(vs:List V)(H:Hp)(Q:VK):Prop
|mk (d:Int) (_:vs=[.str (sgD d)]) (_:IU d) (_:Q (.int d) H):aGM vs H Q
def ZZ:Sp:=λvs H Q _=>aGM vs H Q
theorem aHF(F:Fun K "read_state" "read_state" Jj f fd)(T:Top K mg a):AM P w K mg n8 CX0 1 f fd SK ZZ:=by
 refine F.ok QP D_9 λc A b s H vs Q E j h=>?_
 obtain⟨d,rfl,i,k⟩:=h;obtain⟨e,g⟩:=ZP i;refine⟨_,(Ae (AO (PW.pt (Nt (AA JV (AN JO Z T.j_ A2g (Aa (pv 0) Ab)) Ac (AD _)) (Jv (AA NA (pv 0) (Po Z T.aAK) Z)))) (Ah Bp) AB) (Ah (Au (BK IQ Z T.aAP A4f (Aa (pv 0) Ab))))),?_⟩;refine xw2 Z Z ⟨S_1,Z,(xq1 Z ?_)⟩;refine RI Z (xwb Z Z Z (xq1 Z ?_));rw[g];exact Ba (xq1 Z ⟨_,d,Z,e,(by show 1<=640;decide),k⟩)
inductive aGN(vs:List V)(H:Hp)(Q:VK):Prop
|mk (x:Option Int) (_:vs=[.str (wS x)]) (_:wOk x) (_:Q (IM x) H):aGN vs H Q
def aFh:Sp:=λvs H Q _=>aGN vs H Q
theorem aHH(F:Fun K "read_wanted" "read_wanted" Iu f fd)(T:Top K mg a)(e:Cal P w K mg n8 CX0 1 "read_state" SK ZZ):AM P w K mg n8 CX0 2 f fd SK aFh:=by
 refine F.ok PQ D_9 λg A b s H vs Q E i h=>?_
 obtain⟨x,rfl,c,k⟩:=h;refine⟨_,(Ae (AO (AA CQ (pv 0) (Po Z T.aAT) (AD _)) (Ah (Au Cg)) AB) (Ah (Au (Ar e (rm i) Z Aq (Aa (pv 0) Ab))))),?_⟩;refine xq1 Z ⟨Z,(xq1 Z ?_)⟩;cases x with
 |none=>exact BR k
 |some d =>
  rw[aDD c];exact Ba (xq1 Z ⟨d,Z,c,k⟩)
inductive aGK(vs:List V)(H:Hp)(Q:VK):Prop
|mk (ns:I_) (_:vs=[.str (Ew ns)]) (_:ns≠[]) (_:ns.length<=100) (_:(∀n∈ns,0<=n/\n<=8)) (_:ns.Pairwise (· < ·)) (_:∀(t:R_)(H':Hp),Ay H H'->H' t=n_ (.tup (ns.map V.int))->Q (.ref t) H'):aGK vs H Q
def aHk:Sp:=λvs H Q _=>aGK vs H Q
theorem aHC(F:Fun K "read_numbers" "read_numbers" Gs f fd)(T:Top K mg a):AM P w K mg n8 CX0 1 f fd GH aHk:=by
 refine F.ok FM D_9 λW A C s H vs Q E hr h=>?_
 obtain⟨ns,rfl,y,M,O,hp,k⟩:=h;have Y:(Ew ns).length=ns.length:=by rw[Nu.len];show(ns.map _).length=_;rw[B7]
 have G:(Ew ns).cps.toList=ns.map λn=>48+n.toNat:=rfl;have pos:=W2.mpr y;refine⟨_,(Ae (AO (AA CQ (AN JO Z T.j_ A2g (Aa (pv 0) Ab)) Ac (AD _)) (Ah Bp) AB) (Ae (Am (i:=1) FM.nd Z O_9 (BO Ab)) (Ae (BX A1c Z (aB5 (pv 0)) (Bd (i:=2) FM.nd Z O_9) (Ae (AO (AA NA (pv 2) (Po Z T.aAI) Z) (Ah Bp) AB) (Ae (AO (PW.pt (MR (AA Ql (AN BJ Z T.j_ A2g (Aa (pv 1) Ab)) Ac (AD _)) (Jw (AA Mv (BK IQ Z T.aAP A4f (Aa (pv 2) Ab)) (Aj Az (pv 1) (EI CZ Ac) R_9) (AD _))))) (Ah Bp) AB) (Ah (BP (Du A1g A1h A2a BL (pv 1) (Aa (BK IQ Z T.aAP A4f (Aa (pv 2) Ab)) Ab))))))) (Ah (Au (BK BU Z T.f_ A2f (Aa (pv 1) Ab))))))),?_⟩;refine xw2 Z Z ⟨(by rw[Y];exact C5 M A4),Z,(xq1 Z ?_)⟩;have nz:decide (V.int ((Ew ns).length:Int)=V.int 0)=o5:=A0f λz=>by
  injection z with z
  lia
 rw[nz];refine Ba ⟨S_0,λl r=>?_⟩;refine xw2 Z Z (aCQ (λi σ d=>∃v,σ=[n_ (.str (Ew ns)),n_ (.ref l),v]/\d=upd H l (.lst ((ns.take i).map V.int))) ⟨o0,Z,Z⟩ ?_ ?_)
 .intro i ch σ d q j;refine xea j λv g b=>?_;clear j;subst g;subst b;have c:(ns.map λn=>48+n.toNat)[i]?=n_ ch:=by rw[<-G];simpa using q
  rw[C0]at c;refine xea (D5.mp c) λn o b=>?_;subst b;have U:=D8 o;obtain⟨I,f2⟩:=aAk (O n U).1 (O n U).2;have L:=(B9.mp o).1;have D:(ns.take i).length=i:=by rw[L7];lia
  refine xwb Z Z Z (xq1 Z ?_);rw[f2];refine Ba (xq1 Z ⟨l,(xq1 Z ⟨.inl (SqL.of Af),(xq2 Z Z (xq1 Z ?_))⟩)⟩);have nx:∃v,([n_ (V.str (Ew ns)),n_ (.ref l),n_ (.str ⟨#[48+n.toNat]⟩)]:St)=[n_ (.str (Ew ns)),n_ (.ref l),v]/\upd (upd H l (.lst ((ns.take i).map V.int))) l (.lst ((ns.take i).map V.int++[V.int n]))=upd H l (.lst ((ns.take (i+1)).map V.int)):=by
   refine xq1 Z ?_;rw[GZ,F7,o,C7];rfl
  have app:aEH (tBM K "list" WV (GY 1) (CI (tCB (λxs H Q=>∃x n,xs=[.str x]/\PySem.intText? x=n_ n/\x.length<=640/\Q (.int n) H) (CI (GY 2) PF)) PF))
    {nx:=fun σ d=>∃v,σ=[n_ (.str (Ew ns)),n_ (.ref l),v]/\d=upd H l (.lst ((ns.take (i+1)).map V.int)),rt:=Q,bk:=λ_ _=>False,ct:=fun σ d=>∃v,σ=[n_ (.str (Ew ns)),n_ (.ref l),v]/\d=upd H l (.lst ((ns.take (i+1)).map V.int))}
    [n_ (.str (Ew ns)),n_ (.ref l),n_ (.str ⟨#[48+n.toNat]⟩)] (upd H l (.lst ((ns.take i).map V.int))) :=
   ⟨_,Z,.inl ⟨Z,_,SqL.of Af⟩,_,Z,_,n,Z,I,(by show 1<=640;decide),l,_,_,Z,Z,Af,(by rw[B7,D];exact D3 L (C5 M A4)),nx⟩
  by_cases R:i=0
  .subst R;exact Ba app
  .have S:0<i:=P0 R;have B:decide ((0:Int)<(((ns.take i).map V.int).length:Int))=o4:=A0e (by rw[B7,D];lia);rw[B];have N:i-1<ns.length:=by lia
   have u:ns[i-1]<n:=by
    have:=W8.mp hp (i-1) i N L (Nat.sub_lt S A4);rw[(B9.mp o).2]at this;exact this
   have p:atI ((ns.take i).map V.int) (-1)=n_ (V.int ns[i-1]):=by
    have:((ns.take i).map V.int)[i-1]?=n_ (V.int ns[i-1]):=by
     rw[C0,Y8 (Nat.sub_lt S A4),C4 N];rfl
    have X:((ns.take i).map V.int).length=i:=by rw[B7,D]
    unfold atI ixN;rw[X,A0d A4,A0g A3];show((ns.take i).map V.int)[((-1:Int)+(i:Nat)).toNat]?=_;rw[show((-1:Int)+(i:Nat)).toNat=i-1 by lia];exact this
   refine BR (xq1 Z ⟨_,n,Z,I,(by show 1<=640;decide),(xw2 Z Z ⟨l,_,(xq2 Z Z ⟨SqL.of Af,p,(xq2 Z Z (xq1 Z ?_))⟩)⟩)⟩);rw[A0f (Int.not_le_of_gt u:¬n<=ns[i-1])];exact Ba app
 .intro σ d m;refine xea m λv g b=>?_;clear m;subst g;subst b;have e:(Ew ns).cps.size=ns.length:=by
   have:(Ew ns).cps.toList.length=ns.length:=by rw[G,B7]
   simpa using this
  rw[e,J0];refine xq1 Z ⟨l,(xq1 Z (.inl ⟨SqL.of Af,λt ht=>?_⟩))⟩;exact k t _ ((As r).trans (As ht)) Af
theorem aGi(x:Str):(!(Builtin.Str.occurrences x (Str.ofString "=") 0 x.length 1).isEmpty)=decide (61∈x.cps.toList):=by
 have:Str.ofString "=" = (⟨#[61]⟩:Str):=by decide +kernel
 rw[this];exact StrLaws.found_one x 61
inductive Yu(a:Ad)(vs:List V)(H:Hp)(Q:VK):Prop
|mk (d:Bw) (_:vs=[.str (Bg d)]) (_:d.ok) (_:∀(p:R_)(H':Hp),Ay H H'->DP a H' p d->Q (.ref p) H'):Yu a vs H Q
def Sg(a:Ad):Sp:=λvs H Q _=>Yu a vs H Q
inductive aDc(a:Ad)(vs:List V)(H:Hp)(Q:VK):Prop
|mk (s:Int) (ns:I_) (_:vs=[.str (Bg (.am s ns))]) (_:(Bw.am s ns).ok) (_:∀(p:R_)(H':Hp),Ay H H'->DP a H' p (.am s ns)->Q (.ref p) H'):aDc a vs H Q
def aED(a:Ad):Sp:=λvs H Q _=>aDc a vs H Q
theorem aFE(F:Fun K "read_amounts" "read_amounts" Gu f fd)(T:Top K mg a)(B:Cal P w K mg n8 CX0 1 "read_state" SK ZZ)(C:Cal P w K mg n8 CX0 1 "read_numbers" GH aHk)
 (G:Tz P w K mg n8 CX0 1 "Amounts" a.V_ Qx (PN a)):AM P w K mg n8 CX0 3 f fd SK (aED a):=by
 refine F.ok JQ D_9 λD A p s H vs Q E m h=>?_
 obtain⟨d,ns,rfl,u,k⟩:=h;have c:=NS u;refine xa3 u λq l r v=>?_;have N:=Py ns 0 A4 r v;have j:Str.ofString "=" = (⟨#[61]⟩:Str):=by decide +kernel
 have I:Txt.partition (Bg (.am d ns)) (Str.ofString "=")=(sgD d,⟨#[61]⟩,Ew ns):=by
  rw[j];refine Tx.EJ 61 (sgD d) (Ew ns) ?_;intro z;have:61=48+d.toNat:=by simpa[sgD] using z
  have:=q.2;lia
 refine⟨_,(Ae (Am (i:=1) JQ.nd Z O_9 (Du A3e PySem.F.slot_str_partition PySem.F.type_str_partition SY (pv 0) (MT Ab))) (Ah (Au (Nz G (rm m) Z Aq (Aa (Ar B (rm m) Z Aq (Aa (Aj Al (pv 1) Ac R_9) Ab)) (Aa (Ar C (rm m) Z Aq (Aa (Aj Al (pv 1) Ac R_9) Ab)) Ab)))))),?_⟩;refine xq1 Z ⟨Z,(xq2 Z Z ⟨A0,(C5 c A4),λt L=>?_⟩)⟩;rw[I];refine xq1 Z ⟨t,_,0,(xq1 Z ⟨Z,SqT.of Af,Z,d,Z,q,(xq1 Z ⟨t,_,2,(xq1 Z ⟨Z,SqT.of Af,Z,ns,Z,l,by lia,r,v,λy b M n=>?_⟩)⟩)⟩)⟩;intro x dx nx e g;have O:Ay b (upd (upd b dx (.own x)) x (.ins a.V_ dx [])):=(As e).trans (As (by rw[Ax (A1a g)];exact nx));refine⟨x,y,dx,d,Z,Af,Z,?_⟩;have o:(upd b dx (.own x)) x=o0:=by rw[Ax (A1a g)];exact nx
 rw[GZ];have sy:Ay b (upd (upd b dx (.own x)) x (.ins a.V_ dx (fl2 "state" "numbers" (.int d) (.ref y)))):=(As e).trans (As o);exact k x _ (((As L).trans M).trans sy) (.am Af (sy _ _ n))
inductive aDd(a:Ad)(vs:List V)(H:Hp)(Q:VK):Prop
|mk (ws:List (Option Int)) (_:vs=[.str (Bg (.pl ws))]) (_:(Bw.pl ws).ok) (_:∀(p:R_)(H':Hp),Ay H H'->DP a H' p (.pl ws)->Q (.ref p) H'):aDd a vs H Q
def aEE(a:Ad):Sp:=λvs H Q _=>aDd a vs H Q
theorem aFI(F:Fun K "read_places" "read_places" Fq f fd)(T:Top K mg a)(G:Cal P w K mg n8 CX0 2 "read_wanted" SK aFh)
 (L:Tz P w K mg n8 CX0 1 "Places" a.b_ Rb (PJ a)):AM P w K mg n8 CX0 3 f fd SK (aEE a):=by
 refine F.ok PR D_9 λI A p s H vs Q E C h=>?_
 obtain⟨b,rfl,B,k⟩:=h;have g:=NS B;obtain⟨z,R⟩:=B;have M:(Bg (.pl b)).length=8:=by rw[Nu.len];show(b.map wC).length=8;rw[B7,z]
 have v:(Bg (.pl b)).cps.toList=b.map wC:=rfl;refine⟨_,(Ae (AO (AA JV (AN JO Z T.j_ A2g (Aa (pv 0) Ab)) (Cu Z T.aAG) (AD _)) (Ah Bp) AB) (Ah (Au (Nz L (rm C) Z Aq (Aa (BK BU Z T.f_ A2f (Aa (BT Z (Bl.of (So:=Ak Fq) (No:=SK) (N:=["sign"]) (k:=1) (cs:=[]) Z Z A0) (aB5 (pv 0)) (λ_ _ _=>(AW (i:=0) A0 Z Z)) (λ_ _ _=>Bm) (λ_ _ _=>(Ar G (rm C) Z Aq (Aa (pv 0) Ab)))) Ab)) Ab))))),?_⟩;refine xw2 Z Z ⟨C5 g A4,Z,(xq1 Z ?_)⟩;rw[M];refine RI Z (xw2 Z Z ?_);refine aCJ (λi d c=>c=H/\d=(b.take i).map IM) ⟨Z,Z⟩ ?_ ?_
 .intro i ch d c e r;obtain⟨rfl,rfl⟩:=r;rw[v,C0]at e;refine xea (D5.mp e) λx y j=>?_;subst j;refine⟨⟨[n_ (.str ⟨#[wC x]⟩)],Z,Z⟩,?_,?_⟩
  .rw[B7,L7];exact D6 (R9 _ _) (by rw[z];decide)
  .refine FY (xq1 Z ⟨x,Z,R x (D8 y),Z,?_⟩);rw[F7,y,C7];rfl
 .intro d c u q S;obtain⟨rfl,rfl⟩:=u;rw[v,B7,J0];refine⟨q,(xq1 Z (.inl ⟨SqL.of Af,λt O=>?_⟩))⟩;intro x dx nx l m;have n:∀o,(upd (upd (upd c q (.lst (b.map IM))) t (.tup (b.map IM))) dx o) x=o0:=λo=>by rw[Ax (A1a m)];exact nx
  refine⟨x,t,dx,Z,Af,Z,?_⟩;rw[GZ];have U:Ay c (upd (upd c q (.lst (b.map IM))) t (.tup (b.map IM))):=(As S).trans (As O);have D:Ay (upd (upd c q (.lst (b.map IM))) t (.tup (b.map IM))) (upd (upd (upd (upd c q (.lst (b.map IM))) t (.tup (b.map IM))) dx (.own x)) x (.ins a.b_ dx (fl1 "wanted" (.ref t)))):=(As l).trans (As (n _));exact k x _ (U.trans D) (.pl Af (D _ _ Af))
theorem aBu(F:Fun K "read_condition" "read_condition" EY f fd)(T:Top K mg a)(j:Cal P w K mg n8 CX0 3 "read_amounts" SK (aED a))(l:Cal P w K mg n8 CX0 3 "read_places" SK (aEE a)) :
 AM P w K mg n8 CX0 4 f fd SK (Sg a):=by
 refine F.ok Nl D_9 λn A c s H vs Q E i h=>?_
 obtain⟨d,rfl,b,k⟩:=h;refine⟨_,(Ae (AO (AA YN FQ (pv 0) Z) (Ah (Au (Ar j (rm i) Z Aq (Aa (pv 0) Ab)))) AB) (Ah (Au (Ar l (rm i) Z Aq (Aa (pv 0) Ab))))),?_⟩;refine xwb Z Z Z (xq1 Z ?_);rw[aGi];cases d with
 |am s ns =>
  have m:61∈(Bg (.am s ns)).cps.toList:=by
   show 61∈(sgD s++⟨#[61]⟩++Ew ns).cps.toList;rw[Tx.De,Tx.De];simp
  rw[A0e m];exact BR (xq1 Z ⟨s,ns,Z,b,k⟩)
 |pl g =>
  have m:¬61∈(Bg (.pl g)).cps.toList:=λz=>by
   exact xea (D0.mp (show 61∈g.map wC from z)) λx o e=>(Rm (b.2 x o)).1 e
  rw[A0f m];exact Ba (xq1 Z ⟨g,Z,b,k⟩)
inductive aGI(a:Ad)(vs:List V)(H:Hp)(Q:VK):Prop
|mk (c:AY) (_:vs=[.str (Cf c)]) (_:c.ok) (_:∀(p:R_)(H':Hp),Ay H H'->Ct a H' p c->Q (.ref p) H'):aGI a vs H Q
def aHi(a:Ad):Sp:=λvs H Q _=>aGI a vs H Q
theorem Nb{c:AY}(h:c.ok):(Cf c).length<=1000:=by
 have j:=StrLaws.join_length_le ⟨#[32]⟩ (wS c.cell::(c.conds.map Bg++[sgD c.makes]));have b:∀l:List Bw,(∀d∈l,d.ok)->((l.map Bg).map (·.length)).sum<=11*l.length:=by
  intro l;induction l with
  |nil=>intro _;exact M7 _
  |cons d r k =>
   intro f;have q:=NS (f d C8);have s:=k λe i=>f e (C9 _ i);simp only[F8,R7,F0];lia
 have p:=b c.conds h.conds;have g:=h.few;simp only[F8,C7,Z5,R7,List.sum_append,List.sum_nil,F0,C6,P9,B7]at j;have m:(wS c.cell).length=1:=rfl;have n:(sgD c.makes).length=1:=rfl;have o:(⟨#[32]⟩:Str).length=1:=rfl;rw[m,n,o]at j;unfold Cf;lia
theorem Mj(x:Option Int)(h:wOk x):32∉(wS x).cps.toList/\59∉(wS x).cps.toList:=by
 have:=Rm h;constructor
 .intro z;have:32=wC x:=by simpa[wS] using z
  exact(Rm h).2.1 this.symm
 .intro z;have:59=wC x:=by simpa[wS] using z
  exact(Rm h).2.2 this.symm
theorem Tn{c:AY}(h:c.ok):Txt.split (Cf c) (Str.ofString " ")=wS c.cell::(c.conds.map Bg++[sgD c.makes]):=by
 have e:Str.ofString " " = (⟨#[32]⟩:Str):=by decide +kernel
 rw[e];refine Tx.TU 32 _ B0 λt b=>?_;rcases C1.mp b with rfl|b
 .exact(Mj _ h.cell).1
 .rcases F6.mp b with b|b
  .refine xea (D0.mp b) λd g f=>?_;subst f;exact(RP (h.conds d g)).1
  .rw[D4.mp b];exact(Mj (n_ c.makes) h.makes).1
theorem aCM(x z:V)(ys:List V):Tl (x::(ys++[z])) (n_ 1) (n_ (-1))=ys:=by
 have n:(x::(ys++[z])).length=ys.length+2:=by simp
 unfold Tl;rw[n];have b:HT.sIx (ys.length+2) 0 (n_ 1)=1:=by
  show(if(1:Int)<0 then((1:Int)+((ys.length+2:Nat):Int)).toNat else min (1:Int).toNat (ys.length+2))=1;rw[A0d A4];show min 1 (ys.length+2)=1;lia
 have c:HT.sIx (ys.length+2) (ys.length+2) (n_ (-1))=ys.length+1:=by
  show(if(-1:Int)<0 then((-1:Int)+((ys.length+2:Nat):Int)).toNat else min (-1:Int).toNat (ys.length+2))=ys.length+1;rw[A0g A4];lia
 rw[b,c];show(ys++[z]).take (ys.length+1-1)=ys;rw[K5,List.take_left' rfl]
theorem aCH(x:V)(ys:List V)(z:V):atI (x::(ys++[z])) (-1)=n_ z:=by
 have n:(x::(ys++[z])).length=ys.length+2:=by simp
 unfold atI ixN;rw[n,A0d A4,A0g A3];show(x::(ys++[z]))[((-1:Int)+((ys.length+2:Nat):Int)).toNat]?=n_ z;rw[show((-1:Int)+((ys.length+2:Nat):Int)).toNat=ys.length+1 by lia,Z2,L9 (B8 _),Z4];rfl
theorem aHA(F:Fun K "read_clause" "read_clause" Fs f fd)(T:Top K mg a)(aN:Cal P w K mg n8 CX0 1 "read_state" SK ZZ)(aW:Cal P w K mg n8 CX0 2 "read_wanted" SK aFh)
 (bI:Cal P w K mg n8 CX0 4 "read_condition" SK (Sg a)) (dF:Tz P w K mg n8 CX0 1 "Clause" a.Z_ Rf (PM a)):AM P w K mg n8 CX0 5 f fd IF (aHi a):=by
 refine F.ok EA D_9 λag A ae s H vs Q E O h=>?_
 obtain⟨c,rfl,y,k⟩:=h;have D:=Nb y;have S:=y.few;refine⟨_,(Ae (AO (Dr (CP (AN GT Z T.X_ A2h (Aa (pv 0) (Aa (Jx (v:=.ty "str") Z T.aAQ A4g Z) Ab))))) (Ah Bp) AB) (Ae (Am (i:=1) EA.nd Z O_9 (Du A3e PySem.F.slot_str_split PySem.F.type_str_split UG (pv 0) (MT Ab))) (Ae (AO (AA IZ (AN BJ Z T.j_ A2g (Aa (pv 1) Ab)) Ac (AD _)) (Ah Bp) AB) (Ae (Am (i:=2) EA.nd Z O_9 (Ar aW (rm O) Z Aq (Aa (Aj Az (pv 1) Ac R_9) Ab))) (Ae (Am (i:=3) EA.nd Z O_9 (BK BU Z T.f_ A2f (Aa (BT Z (Bl.of (So:=Ak Fs) (No:=Mx) (N:=["word"]) (k:=1) (cs:=[]) Z Z A0) (Cb (Qh Ss (pv 1) (Pm Ac) (Pm (EI CZ Ac)))) (λ_ _ _=>(AW (i:=0) A0 Z Z)) (λ_ _ _=>Bm) (λ_ _ _=>(Ar bI (rm O) Z Aq (Aa (pv 0) Ab)))) Ab))) (Ah (Au (Nz dF (rm O) Z Aq (Aa (pv 2) (Aa (pv 3) (Aa (Ar aN (rm O) Z Aq (Aa (Aj Az (pv 1) (EI CZ Ac) R_9) Ab)) Ab))))))))))),?_⟩;refine xq1 Z ⟨_,_,_,.type "str",o4,Z,Z,.of (.str _),WE K,o4,Z,?_⟩;refine Ba (xq1 Z ⟨Z,(xq2 Z Z ⟨A0,(C5 D A4),λl hl=>?_⟩)⟩);rw[Tn y];have eW:((wS c.cell::(c.conds.map Bg++[sgD c.makes])).map V.str)=V.str (wS c.cell)::((c.conds.map λd=>V.str (Bg d))++[V.str (sgD c.makes)]):=by
  rw[F8,C7,O1];rfl
 rw[eW];have hL:∀o,upd H l o l=n_ o:=λo=>Af;refine xq1 Z ⟨l,(xq1 Z ⟨.inl (SqL.of Af),(xq2 Z Z (xq1 Z ?_))⟩)⟩;rw[A0f (by simp;lia:¬((((V.str (wS c.cell)::((c.conds.map λd=>V.str (Bg d))++[V.str (sgD c.makes)])).length:Nat):Int)<2))];refine Ba (xwi Z Z Z (SqL.of Af) (Ai (j:=0) Z) ⟨c.cell,Z,y.cell,?_⟩);refine xw3 Z Z Z (xq1 Z ⟨l,(xq1 Z ⟨SqL.of Af,λq W=>⟨q,Z,⟨_,SqL.of Af⟩,?_⟩⟩)⟩);rw[aCM];have s0:Ay H (upd (upd H l (.lst (V.str (wS c.cell)::((c.conds.map λd=>V.str (Bg d))++[V.str (sgD c.makes)])))) q (.lst (c.conds.map λd=>V.str (Bg d)))):=(As hl).trans (As W);have ac:l≠q:=λz=>by rw[<-z,Af]at W;cases W
 generalize m:upd (upd H l (.lst (V.str (wS c.cell)::((c.conds.map λd=>V.str (Bg d))++[V.str (sgD c.makes)])))) q (.lst (c.conds.map λd=>V.str (Bg d)))=C;rw[m]at s0;have X:C q=n_ (.lst (c.conds.map λd=>V.str (Bg d))):=by rw[<-m];exact Af
 have U:C l=n_ (.lst (V.str (wS c.cell)::((c.conds.map λd=>V.str (Bg d))++[V.str (sgD c.makes)]))):=by rw[<-m,Ax ac];exact Af
 refine CT (xs:=c.conds.map λd=>V.str (Bg d)) (λi b e=>∃ps:List Addr,b=ps.map V.ref/\Ay C e/\Paired (DP a e) ps (c.conds.take i)) ⟨[],Z,Ay.refl C,.nil⟩ (λi b e _ ⟨ps,_,I,_⟩=>SqL.of (I _ _ X)) ?_ ?_
 .intro i x b e hx L;refine AX L λps g I G=>?_;clear L;subst g;rw[C0]at hx;refine xea (D5.mp hx) λd ed R=>?_;subst R;refine⟨⟨[n_ (.str (Bg d))],Z,Z⟩,?_,?_⟩
  .have e1:=A1e G;rw[L7]at e1;rw[B7,e1];exact D6 (R9 _ _) (D6 S A4)
  .refine FY (xq1 Z ⟨d,Z,y.conds d (D8 ed),λp u B hp=>⟨ps++[p],by rw[C7];rfl,I.trans B,?_⟩⟩);rw[F7,ed];exact A3f (Paired.imp (λ_ _ z=>z.same B) G) hp
 .intro b e M r nr;refine AX M λps g I G=>?_;clear M;subst g;rw[B7,J0]at G;refine⟨r,(xq1 Z (.inl ⟨SqL.of Af,λt ht=>?_⟩))⟩;have B:Ay C (upd (upd e r (.lst (ps.map V.ref))) t (.tup (ps.map V.ref))):=(I.trans (As nr)).trans (As ht);generalize n:upd (upd e r (.lst (ps.map V.ref))) t (.tup (ps.map V.ref))=u;have Y:u t=n_ (.tup (ps.map V.ref)):=by rw[<-n];exact Af
  have af:Ay e u:=by rw[<-n];exact(As nr).trans (As ht)
  rw[n]at B;refine xw3 Z Z Z (xq1 Z ⟨l,_,(xq2 Z Z ⟨SqL.of (B _ _ U),aCH _ _ _,c.makes,Z,y.makes,?_⟩)⟩);intro x dx nx aa ab;have ad:∀o,(upd u dx o) x=o0:=λo=>by rw[Ax (A1a ab)];exact nx
  refine⟨x,t,dx,c.cell,c.makes,Z,Af,Z,?_⟩;rw[GZ];have s4:Ay u (upd (upd u dx (.own x)) x (.ins a.Z_ dx (fl3 "cell" "conditions" "makes" (IM c.cell) (.ref t) (.int c.makes)))):=(As aa).trans (As (ad _));exact k x _ ((s0.trans B).trans s4) ⟨dx,t,ps,Af,s4 _ _ Y,Paired.imp (λ_ _ z=>(z.same af).same s4) G⟩
theorem UZ{c:AY}(h:c.ok):59∉(Cf c).cps.toList:=by
 intro z;unfold Cf at z;rw[PyProof.Rows.mem_join]at z;rcases z with ⟨t,b,z⟩|⟨_,z⟩
 .rcases C1.mp b with rfl|b
  .exact(Mj _ h.cell).2 z
  .rcases F6.mp b with b|b
   .refine xea (D0.mp b) λd f e=>?_;subst e;exact(RP (h.conds d f)).2 z
   .rw[D4.mp b]at z;exact(Mj (n_ c.makes) h.makes).2 z
 .have:59=32:=by simpa using z
  lia
end
structure FJ(r:AC):Prop where
few:r.length<=50
ok:∀c∈r,c.ok
theorem FJ.rok(h:FJ r):ROk r:=⟨C5 h.few A4,λc a=>⟨C5 (h.ok c a).few A4,λd b f e=>by
 subst e;rw[((h.ok c a).conds _ b).1];decide⟩⟩
theorem Ug(h:FJ r):(Et r).length<=60000:=by
 have j:=StrLaws.join_length_le RC (r.map Cf);have b:∀l:List AY,(∀c∈l,c.ok)->((l.map Cf).map (·.length)).sum<=1000*l.length:=by
  intro l;induction l with
  |nil=>intro _;exact M7 _
  |cons d r i =>
   intro a;have n:=Nb (a d C8);have o:=i λe g=>a e (C9 _ g);simp only[F8,R7,F0];omega
 have m:=b r h.ok;have f:=h.few;have k:RC.length=2:=rfl;rw[k,B7]at j;unfold Et;omega
theorem aC9(h:r≠[]):decide (V.str (Et r)=V.str (Str.ofString ""))=o5:=by
 refine A0f λz=>?_;injection z with z
 obtain⟨c,b⟩:=List.exists_mem_of_ne_nil r h;have d:=PySem.join_mem_le RC (r.map Cf) (Cf c) (D0.mpr ⟨c,b,Z⟩);have e:=PySem.join_mem_le ⟨#[32]⟩ (wS c.cell::(c.conds.map Bg++[sgD c.makes])) (wS c.cell) C8;have f:(wS c.cell).length=1:=rfl;have a:(Et r).length=0:=by rw[z];decide +kernel
 unfold Et at a;have g:(Cf c).length=(Str.join ⟨#[32]⟩ (wS c.cell::(c.conds.map Bg++[sgD c.makes]))).length:=rfl;omega
theorem DP.put{p q:R_}{c:Bw}(h:DP a H q c)(i:H p=n_ u)(n:∀C d fs,u=HO.ins C d fs->fs.lookup ("state" : Str)=o0/\fs.lookup ("wanted" : Str)=o0/\fs.lookup ("makes" : Str)=o0)(nt:∀xs,u≠.tup xs):DP a (upd H p o) q c:=by
 have f:∀{b v},H b=n_ v->v≠u->upd H p o b=n_ v:=λ{b v} e d=>by rw[Ax (AI e i d)];exact e
 cases h with
 |am h g =>
  refine .am (f h λz=>?_) (f g λz=>nt _ z.symm);have:=(n _ _ _ z.symm).1;rw[aA5 A0]at this;cases this
 |pl h g =>
  refine .pl (f h λz=>?_) (f g λz=>nt _ z.symm);have:=(n _ _ _ z.symm).2.1;rw[aDt]at this;cases this
theorem Ct.put{p q:R_}{c:AY}(h:Ct a H q c)(g:H p=n_ u)(n:∀C d fs,u=HO.ins C d fs->fs.lookup ("state" : Str)=o0/\fs.lookup ("wanted" : Str)=o0/\fs.lookup ("makes" : Str)=o0)(nt:∀xs,u≠.tup xs):Ct a (upd H p o) q c:=by
 have f:∀{b v},H b=n_ v->v≠u->upd H p o b=n_ v:=λ{b v} e d=>by rw[Ax (AI e g d)];exact e
 refine Dw h.ex λdx t cs i j k=>⟨dx,t,cs,f i λz=>?_,f j λz=>nt _ z.symm,Paired.imp (λ_ _ z=>z.put g n nt) k⟩
 have:=(n _ _ _ z.symm).2.2;rw[aDu]at this;cases this
section
variable{P:N_}{w:Q_}{K:O_}{mg:C_}{n8:T_}{a:Ad}
inductive aF8(vs:List V)(H:Hp)(Q:VK):Prop
|mk (r:AC) (_:vs=[.str (Et r)]) (_:FJ r) (_:∀(l:R_)(H':Hp),Ay H H'->H' l=n_ (.lst (r.map λc=>V.str (Cf c)))->Q (.ref l) H'):aF8 vs H Q
def aHb:Sp:=λvs H Q _=>aF8 vs H Q
theorem aG4(F:Fun K "clause_texts" "clause_texts" Gw f fd)(T:Top K mg a):AM P w K mg n8 CX0 1 f fd IF aHb:=by
 refine F.ok OR D_9 λn A i s H vs Q E u h=>?_
 obtain⟨r,rfl,m,k⟩:=h;have j:=Ug m;refine⟨_,(Ae (AO (AA CQ (pv 0) FQ (AD _)) (Ah (Au (BO Ab))) AB) (Ah (Au (Du A3e PySem.F.slot_str_split PySem.F.type_str_split UG (pv 0) (Aa (Po Z T.aAL) Ab))))),?_⟩;refine xq1 Z ⟨Z,(xq1 Z ?_)⟩;by_cases b:r=[]
 .subst b;refine BR ⟨S_0,λl g=>?_⟩;exact k l _ (As g) Af
 .rw[aC9 b];refine Ba (xq1 Z ⟨Z,(xq2 Z Z ⟨A0,(by omega),λl g=>?_⟩)⟩);have o:Str.ofString "; " = (⟨#[59,32]⟩:Str):=by decide +kernel
  have e:Txt.split (Et r) (Str.ofString "; ")=r.map Cf:=by
   rw[o];refine Tx.TR _ (by simpa using b) λt q=>xea (D0.mp q) λc p d=>?_;subst d;exact UZ (m.ok c p)
  rw[e,O1];exact k l _ (As g) Af
inductive aGJ(a:Ad)(vs:List V)(H:Hp)(Q:VK):Prop
|mk (p dx:R_) (r:AC) (_:vs=[.ref p,.str (Et r)]) (_:H p=n_ (.ins a.l5 dx [])) (_:FJ r) (_:∀H',(∀b o,H b=n_ o->b≠p->H' b=n_ o)->Df a H' p (Et r) r->Q .non H'):aGJ a vs H Q
def aHj(a:Ad):Sp:=λvs H Q _=>aGJ a vs H Q
theorem aHB(F:Fun K "__init__" "Rule.__init__" Ig f fd)(T:Top K mg a)(bV:Cal P w K mg n8 CX0 1 "clause_texts" IF aHb)(cC:Cal P w K mg n8 CX0 5 "read_clause" IF (aHi a)) :
 AM P w K mg n8 CX0 6 f fd OP (aHj a):=by
 refine F.ok Sx D_9 λac A aa s H vs Q E hr h=>?_
 obtain⟨p,dx,r,rfl,hp,U,k⟩:=h;have ab:=Ug U;have X:=U.few;refine⟨_,(Ae (Db (pv 0) (pv 1) Z) (Ah (Db (pv 0) (BK BU Z T.f_ A2f (Aa (BT Z (Bl.of (So:=Ak Ig) (No:=OP) (N:=["part"]) (k:=1) (cs:=[]) Z Z A0) (Cb (Ar bV (rm hr) Z Aq (Aa (pv 1) Ab))) (λ_ _ _=>(AW (i:=0) A0 Z Z)) (λ_ _ _=>Bm) (λ_ _ _=>(Ar cC (rm hr) Z Aq (Aa (pv 0) Ab)))) Ab)) Z))),?_⟩;refine xw2 Z Z ⟨p,_,dx,[],Z,hp,T.aAF,T.aAH,B4,?_⟩;generalize D:upd H p (.ins a.l5 dx (Bb "text" (.str (Et r)) []))=H1;have y:H1 p=n_ (.ins a.l5 dx (Bb "text" (.str (Et r)) [])):=by rw[<-D];exact Af
 have k1:∀b o,H b=n_ o->b≠p->H1 b=n_ o:=λb o e n=>by rw[<-D,Ax n];exact e
 refine xq1 Z ⟨r,Z,U,λl H2 s2 hl=>⟨l,Z,⟨_,SqL.of hl⟩,?_⟩⟩;refine CT (xs:=r.map λc=>V.str (Cf c)) (λi g m=>∃ps:List Addr,g=ps.map V.ref/\Ay H2 m/\Paired (Ct a m) ps (r.take i)) ⟨[],Z,Ay.refl H2,.nil⟩ (λi g m _ ⟨ps,_,O,_⟩=>SqL.of (O _ _ hl)) ?_ ?_
 .intro i x g m hx R;refine AX R λps v O I=>?_;clear R;subst v;rw[C0]at hx;refine xea (D5.mp hx) λc ec W=>?_;subst W;refine⟨⟨[n_ (.str (Cf c))],Z,Z⟩,?_,?_⟩
  .have e1:=A1e I;rw[L7]at e1;rw[B7,e1];exact D6 (R9 _ _) (D6 X A4)
  .refine FY (xq1 Z ⟨c,Z,U.ok c (D8 ec),λq u s4 hq=>⟨ps++[q],by rw[C7];rfl,O.trans s4,?_⟩⟩);rw[F7,ec];exact A3f (Paired.imp (λ_ _ z=>z.same s4) I) hq
 .intro g m S q nq;refine AX S λps v O I=>?_;clear S;subst v;rw[B7,J0]at I;refine⟨q,(xq1 Z (.inl ⟨SqL.of Af,λt ht=>?_⟩))⟩;generalize G:upd (upd m q (.lst (ps.map V.ref))) t (.tup (ps.map V.ref))=u;have M:Ay m u:=by rw[<-G];exact(As nq).trans (As ht)
  have B:u t=n_ (.tup (ps.map V.ref)):=by rw[<-G];exact Af
  have j:=(s2.trans O).trans M;have Y:t≠p:=λz=>by rw[z,j _ _ y]at B;cases B
  refine xq1 Z ⟨p,_,dx,(xq1 Z ⟨j _ _ y,T.aAF,T.i_,B5,?_⟩)⟩;have up:∀b o,u b=n_ o->b≠p->upd u p (.ins a.l5 dx (fl2 "text" "clauses" (.str (Et r)) (.ref t))) b=n_ o:=λb o e n=>by rw[Ax n];exact e
  have cl:∀L c,Ct a u L c->Ct a (upd u p (.ins a.l5 dx (fl2 "text" "clauses" (.str (Et r)) (.ref t)))) L c:=λL c hc=>by
   exact hc.put (j _ _ y) (λC d fs e=>by
    cases e;exact⟨Ti A0,Ti A0,Ti A0⟩) (λxs z=>by cases z)
  exact k _ (λb o e n=>up _ _ (j _ _ (k1 b o e n)) n) ⟨dx,t,ps,Af,up _ _ B Y,Paired.imp (λL c z=>cl L c (z.same M)) I⟩
def BF:List Int:=[0,0,0,0,0,0,0,0]
inductive aGL(a:Ad)(vs:List V)(H:Hp)(Q:VK):Prop
|mk (r:AC) (_:vs=[.str (Et r)]) (_:FJ r) (_:Cz r 0 BF=0) (_:∀(p:R_)(H':Hp),Ay H H'->Df a H' p (Et r) r->Q (.ref p) H'):aGL a vs H Q
def aHl(a:Ad):Sp:=λvs H Q _=>aGL a vs H Q
theorem aHE(F:Fun K "read_rule" "read_rule" Li f fd)(T:Top K mg a)(D:Tz P w K mg n8 CX0 6 "Rule" a.l5 OP (aHj a))(B:Cal P w K mg n8 CX0 5 "becomes" MX (WN a)) :
 AM P w K mg n8 CX0 8 f fd IF (aHl a):=by
 refine F.ok Nk D_9 λC A g s H vs Q E t h=>?_
 obtain⟨r,rfl,q,G,k⟩:=h;refine⟨_,(Ae (AO (Dr (CP (AN GT Z T.X_ A2h (Aa (pv 0) (Aa (Jx (v:=.ty "str") Z T.aAQ A4g Z) Ab))))) (Ah Bp) AB) (Ae (Am (i:=1) Nk.nd Z O_9 (Nz D (rm t) Z Aq (Aa (pv 0) Ab))) (Ae (AO (AA JV (Ar B (rm t) Z Aq (Aa (pv 1) (AG (AT aFR (BO (AG Ab)) (Cu Z T.aAG) Ab)))) Ac (AD _)) (Ah Bp) AB) (Ah (Au (pv 1)))))),?_⟩;refine xq1 Z ⟨_,_,_,.type "str",o4,Z,Z,.of (.str _),WE K,o4,Z,?_⟩;refine Ba (xq1 Z ?_);intro x dx nx d I;refine⟨x,dx,r,Z,Af,q,λy kp j=>⟨Z,?_⟩⟩;have L:Ay H y:=λb o e=>kp b o (by rw[Ax (Av e nx),Ax (Av e d)];exact e) (Av e nx);refine xq1 Z ⟨S_1,λl n=>?_⟩;refine⟨l,8,(xq1 Z ⟨Z,Af,A4,A4,A4,λm p=>?_⟩)⟩;have M:=(L.trans (As (o:=.lst [.int 0]) n)).trans (As (o:=.lst (BF.map V.int)) p);have c:=(As (o:=.lst [.int 0]) n).trans (As (o:=.lst (BF.map V.int)) p);refine⟨x,m,_,r,0,BF,Z,j.same c,q.rok,Af,λz u=>?_⟩;refine⟨Z,(xq1 Z ?_)⟩;rw[G];refine RI Z (xq1 Z ?_);exact k x z (M.trans u) ((j.same c).same u)
end
end J
namespace J
open PySem L2
structure Sq where
parts:List Int
lev:Int
abbrev Gv:=List Sq
structure GA where
p:Addr
dx:Addr
lv:Addr
pt:Addr
nm:Addr
br:Addr
am:Addr
bx:Addr
def fl6(g:GA):List (Str×V):=Bb "boxes" (.ref g.bx) (Bb "amounts" (.ref g.am) (Bb "bares" (.ref g.br) (Bb "numbers" (.ref g.nm) (Bb "parts" (.ref g.pt) (Bb "levels" (.ref g.lv) [])))))
theorem Fo(g:GA):(fl6 g).lookup ("levels" : Str)=n_ (V.ref g.lv):=by
 unfold fl6;rw[An,A0d A0,An,A0d A0,An,A0d A0,An,A0d A0,An,A0d A0,An,A0g rfl]
theorem Cs(g:GA):(fl6 g).lookup ("parts" : Str)=n_ (V.ref g.pt):=by
 unfold fl6;rw[An,A0d A0,An,A0d A0,An,A0d A0,An,A0d A0,An,A0g rfl]
theorem aA8(g:GA):(fl6 g).lookup ("numbers" : Str)=n_ (V.ref g.nm):=by
 unfold fl6;rw[An,A0d A0,An,A0d A0,An,A0d A0,An,A0g rfl]
theorem IO(g:GA):(fl6 g).lookup ("bares" : Str)=n_ (V.ref g.br):=by
 unfold fl6;rw[An,A0d A0,An,A0d A0,An,A0g rfl]
theorem aEc(g:GA):(fl6 g).lookup ("amounts" : Str)=n_ (V.ref g.am):=by
 unfold fl6;rw[An,A0d A0,An,A0g rfl]
theorem aA7(g:GA):(fl6 g).lookup ("boxes" : Str)=n_ (V.ref g.bx):=by
 unfold fl6;rw[An,A0g rfl]
theorem JL(g:GA)(a:¬m=("boxes" : Str))(b:¬m=("amounts" : Str))(c:¬m=("bares" : Str))(d:¬m=("numbers" : Str))(e:¬m=("parts" : Str))(f:¬m=("levels" : Str)):(fl6 g).lookup m=o0:=by
 unfold fl6;rw[An,A0d a,An,A0d b,An,A0d c,An,A0d d,An,A0d e,An,A0d f];rfl
theorem SH(g:GA):(fl6 g).lookup ("kept" : Str)=o0:=JL g A0 A0 A0 A0 A0 A0
theorem Cc(g:GA):(fl6 g).lookup ("linked" : Str)=o0:=JL g A0 A0 A0 A0 A0 A0
theorem UA(g:GA):(fl6 g).lookup ("check_square" : Str)=o0:=JL g A0 A0 A0 A0 A0 A0
theorem WZ(g:GA):(fl6 g).lookup ("leaf" : Str)=o0:=JL g A0 A0 A0 A0 A0 A0
theorem Em(g:GA):(fl6 g).lookup ("level_of" : Str)=o0:=JL g A0 A0 A0 A0 A0 A0
theorem VN(g:GA):(fl6 g).lookup ("state_of" : Str)=o0:=JL g A0 A0 A0 A0 A0 A0
def kOf(ps:I_):List Key:=ps.map Sum.inl
theorem aBM(ps:I_):(kOf ps).map kV=ps.map V.int:=by unfold kOf;rw[O1];rfl
theorem JK:∀{ps qs:I_},kOf ps=kOf qs->ps=qs
|[],[],_=>rfl
|[],_::_,h=>by cases h
|_::_,[],h=>by cases h
|x::r,y::t,h=>by
 have h:=h;injection h with h1 h2
 injection h1 with h1
 rw[h1,JK h2]
def LR:Nat->Gv->List (List Key×V)
|_,[]=>[]
|n,q::r=>(kOf q.parts,.int (n:Int))::LR (n+1) r
theorem UQ:∀(G:Gv)(n:Nat),(LR n G).length=G.length
|[],_=>rfl
|q::r,n=>by show(LR (n+1) r).length+1=r.length+1;rw[UQ r]
theorem RE(q:Sq):∀(G:Gv)(n:Nat),LR n (G++[q])=LR n G++[(kOf q.parts,.int ((n+G.length:Nat):Int))]
|[],_=>rfl
|p::r,n=>by
 show(kOf p.parts,V.int (n:Int))::LR (n+1) (r++[q])=_;rw[RE q r (n+1)];show _=(kOf p.parts,V.int (n:Int))::(LR (n+1) r++[(kOf q.parts,V.int ((n+(r.length+1):Nat):Int))]);rw[show n+1+r.length=n+(r.length+1) by lia]
theorem Ta(ps:I_):∀(G:Gv)(n:Nat),(∃(i:Nat)(q:Sq),G[i]?=n_ q/\q.parts=ps/\Bv (LR n G) (kOf ps)=n_ (.int ((n+i:Nat):Int)))\/(Bv (LR n G) (kOf ps)=o0/\∀q∈G,q.parts≠ps)
|[],n=>.inr ⟨Z,λq a=>by simp at a⟩
|p::r,n=>by
 by_cases e:p.parts=ps
 .exact .inl ⟨0,p,Z,e,BV (by rw[e])⟩
 .have ne:¬(kOf p.parts,V.int (n:Int)).1=kOf ps:=λz=>e (JK z);rcases Ta ps r (n+1)with ⟨i,q,h1,h2,h3⟩|⟨h1,h2⟩
  .refine .inl ⟨i+1,q,h1,h2,?_⟩;show Bv ((kOf p.parts,V.int (n:Int))::LR (n+1) r) (kOf ps)=_;rw[Bz ne,h3,show n+1+i=n+(i+1) by lia]
  .refine .inr ⟨?_,λq a=>?_⟩
   .show Bv ((kOf p.parts,V.int (n:Int))::LR (n+1) r) (kOf ps)=_;rw[Bz ne,h1]
   .rcases C1.mp a with rfl|a
    .exact e
    .exact h2 q a
def aGX(H:Hp)(t:R_)(q:Sq):Prop:=H t=n_ (.tup (q.parts.map V.int))
structure AQ(a:Ad)(H:Hp)(g:GA)(G:Gv):Prop where
hp:H g.p=n_ (.ins a.N1 g.dx (fl6 g))
lv:H g.lv=n_ (.lst (G.map λq=>.int q.lev))
pt:∃ts:List Addr,H g.pt=n_ (.lst (ts.map V.ref))/\Paired (aGX H) ts G
nm:H g.nm=n_ (.dT (LR 0 G))
ne:g.lv≠g.pt
def Fr(g:GA)(H H':Hp):Prop:=∀b o,H b=n_ o->b≠g.lv->b≠g.pt->b≠g.nm->H' b=n_ o
theorem Fr.refl(g:GA)(H:Hp):Fr g H H:=λ_ _ e _ _ _=>e
theorem Fr.trans{a c d:Hp}(h:Fr g a c)(k:Fr g c d):Fr g a d:=λb o e f i j=>k b o (h b o e f i j) f i j
theorem Ay.fr{a c:Hp}(h:Ay a c):Fr g a c:=λb o e _ _ _=>h b o e
theorem PairedM.imp{α β:Type}{F G:α->β->Prop}(h:∀x y,F x y->G x y):∀{l:List α}{m:List β},Paired F l m->Paired G l m
|_,_,.nil=>.nil
|_,_,.cons r t=>.cons (h _ _ r) (PairedM.imp h t)
theorem PairedM.get{α β:Type}{F:α->β->Prop}:∀{l:List α}{m:List β}{i:Nat}{y:β},Paired F l m->m[i]?=n_ y->∃x,l[i]?=n_ x/\F x y
|_,_,_,_,.nil,e=>by simp at e
|_,_,0,_,.cons r _,e=>by simp at e;subst e;exact⟨_,Z,r⟩
|_,_,i+1,y,.cons _ t,e=>by
 exact xea (PairedM.get (i:=i) (y:=y) t (by simpa using e)) λx a b=>⟨x,by simpa using a,b⟩
theorem AH(h:H p=o0):Ay H (upd H p o):=λb u e=>by
 rw[Ax (Av e h)];exact e
theorem AQ.same{a:Ad}{H b:Hp}{g:GA}{G:Gv}(s:Ay H b)(h:AQ a H g G):AQ a b g G:=by
 obtain⟨c,d,⟨k,e,f⟩,i,j⟩:=h;exact⟨s _ _ c,s _ _ d,⟨k,s _ _ e,PairedM.imp (λt q z=>s _ _ z) f⟩,s _ _ i,j⟩
theorem AQ.put{a:Ad}{H:Hp}{g:GA}{G:Gv}{l:R_}{xs:List V}{o:HO}(p:H l=n_ (.lst xs))(r:l≠g.lv)(s:l≠g.pt)(h:AQ a H g G):AQ a (upd H l o) g G:=by
 obtain⟨d,f,⟨u,i,j⟩,k,m⟩:=h;have c:∀{b v},H b=n_ v->v≠.lst xs->upd H l o b=n_ v:=λ{b v} e n=>by rw[Ax (AI e p n)];exact e
 exact⟨c d A6,by rw[Ax (A1a r)];exact f,⟨u,by rw[Ax (A1a s)];exact i,PairedM.imp (λt q z=>c z A6) j⟩,c k A6,m⟩
def Ao(G:Gv)(x:Nat)(l:Int):Prop:=∃q,G[x]?=n_ q/\q.lev=l
structure GOk(G:Gv):Prop where
leaf:∀s:Nat,s<8->G[s]?=n_ ⟨[(s:Int)],0⟩
node:∀(i:Nat) q,G[i]?=n_ q->8<=i->∃x y z w:Nat,q.parts=[(x:Int),(y:Int),(z:Int),(w:Int)]/\(Ao G x (q.lev-1)/\Ao G y (q.lev-1)/\Ao G z (q.lev-1)/\Ao G w (q.lev-1))/\1<=q.lev/\q.lev<=48
nd:(G.map Sq.parts).Nodup
theorem Ao.lt(h:Ao G x l):x<G.length:=by
 exact xea h λq h _=>(B9.mp h).1
theorem Mb{G r:Gv}{x:Nat}{q:Sq}(h:G[x]?=n_ q):(G++r)[x]?=n_ q:=by
 rw[N5 (B9.mp h).1];exact h
theorem Ao.app{G r:Gv}{x:Nat}{l:Int}(h:Ao G x l):Ao (G++r) x l:=by
 exact xea h λq h e=>⟨q,Mb h,e⟩
theorem GOk.lev{G:Gv}(h:GOk G){i:Nat}{q:Sq}(e:G[i]?=n_ q):0<=q.lev/\q.lev<=48:=by
 by_cases b:i<8
 .rw[h.leaf i b]at e;cases e;exact⟨R8 0,by show(0:Int)<=48;decide⟩
 .exact xe4 (h.node i q e (N9 b)) λx y z w a=>xa3 a λ_ _ d c=>⟨by lia,c⟩
theorem GOk.snoc{G:Gv}(h:GOk G){x y z w:Nat}{l:Int}(C:Ao G x l)(D:Ao G y l)(E:Ao G z l)(B:Ao G w l)(r:l<=47)(new:∀q∈G,q.parts≠[(x:Int),(y:Int),(z:Int),(w:Int)]):GOk (G++[⟨[(x:Int),(y:Int),(z:Int),(w:Int)],l+1⟩]) where
 leaf:=λs A=>Mb (h.leaf s A)
 node:=λi q e t=>by
  by_cases d:i<G.length
  .rw[N5 d]at e;obtain⟨x,y,z,w,n,⟨f,g,j,k⟩,o⟩:=h.node i q e t;exact⟨x,y,z,w,n,⟨f.app,g.app,j.app,k.app⟩,o⟩
  .rw[L9 (N9 d)]at e;have:i-G.length=0:=by
    by_cases z:i-G.length=0
    .exact z
    .rw[Q0 (by rw[T8];lia)]at e;cases e
   rw[this]at e;cases e;refine xea C λI c F=>?_;have:=(h.lev c).1;have m:l+1-1=l:=by lia
   refine⟨x,y,z,w,Z,?_,?_,?_⟩
   .show Ao _ x (l+1-1)/\Ao _ y (l+1-1)/\Ao _ z (l+1-1)/\Ao _ w (l+1-1);rw[m];exact⟨Ao.app ⟨I,c,F⟩,D.app,E.app,B.app⟩
   .show 1<=l+1;lia
   .show l+1<=48;lia
 nd:=by
  rw[C7,T9];refine⟨h.nd,by simp,λp u H b=>?_⟩;refine xea (D0.mp u) λq v a=>?_;subst a;rw[show H=[(x:Int),(y:Int),(z:Int),(w:Int)] by simpa using b];exact new q v
theorem GOk.one{G:Gv}(h:GOk G){i j:Nat}{p q:Sq}(a:G[i]?=n_ p)(b:G[j]?=n_ q)(e:p.parts=q.parts):i=j:=by
 have c:(G.map Sq.parts)[i]'(by rw[B7];exact((B9.mp a).1))=(G.map Sq.parts)[j]'(by rw[B7];exact((B9.mp b).1)):=by
  rw[V4,V4,(B9.mp a).2,(B9.mp b).2,e]
 exact(List.getElem_inj h.nd).mp c
seal L2.PA L2.PE L2.PS L2.PSs L2.PT L2.PW
theorem DU(h:n<10000000):n<sizeLine:=D3 h A4
theorem Yj(K:O_):kitOne K (.type "int") (.type "int")=n_ o4/\kitOne K (.type "int") (.type "bool")=n_ o5:=⟨by kernel_rfl,by kernel_rfl⟩
section
variable{P:N_}{w:Q_}{K:O_}{mg:C_}{n8:T_}{a:Ad}
inductive aGG(vs:List V)(H:Hp)(Q:VK):Prop
|mk (i:Int) (_:vs=[.int i]) (_:Q (.bl o4) H):aGG vs H Q
def Vy:Sp:=λvs H Q _=>aGG vs H Q
theorem aG8(F:Fun K "is_whole" "is_whole" MJ f fd)(T:Top K mg a):AM P w K mg n8 CX0 1 f fd VS Vy:=by
 refine F.ok Uc D_9 λc A b s H vs Q E d h=>?_
 obtain⟨i,rfl,k⟩:=h;exact⟨_,(Ah (Au (Lx (AN GT Z T.X_ A2h (Aa (pv 0) (Aa (Jx (v:=.ty "int") Z T.aAP A4f Z) Ab))) (MS (aFT (AN GT Z T.X_ A2h (Aa (pv 0) (Aa (Jx (v:=.ty "bool") Z T.aAn PyProof.Rows.boot_bool Z) Ab)))))))),(xq1 Z ⟨_,_,_,.type "int",o4,Z,Z,.of (.int i),(Yj K).1,o4,Z,BR (xq1 Z ⟨_,_,_,.type "int",o5,Z,Z,.of (.int i),(Yj K).2,o5,Z,k⟩)⟩)⟩
inductive aGF(vs:List V)(H:Hp)(Q:VK):Prop
|mk (i:Int) (_:vs=[.int i]) (_:0<=i) (_:i<8) (_:Q (.bl o4) H):aGF vs H Q
def aFf:Sp:=λvs H Q _=>aGF vs H Q
theorem aG7(F:Fun K "is_state" "is_state" MK f fd)(T:Top K mg a)(c:Cal P w K mg n8 CX0 1 "is_whole" VS Vy):AM P w K mg n8 CX0 2 f fd VS aFf:=by
 refine F.ok Ud D_9 λd A b s H vs Q E j h=>?_
 obtain⟨i,rfl,e,g,k⟩:=h;refine⟨_,(Ah (Au (Lx (Ar c (rm j) Z Aq (Aa (pv 0) Ab)) (MS (aB2 Mv IZ Ac (pv 0) (Cu Z T.aAR)))))),?_⟩;refine xq1 Z ⟨i,Z,o4,Z,BR (xwb Z Z Z (xq1 Z ?_))⟩;rw[A0e e];refine BR (xq2 Z Z ?_);show Q (.bl (decide (i<8))) H;rw[A0e g];exact k
inductive aAb(a:Ad)(vs:List V)(H:Hp)(Q:VK):Prop
|mk (g:GA) (G:Gv) (t:R_) (ps:I_) (l:Int) (_:vs=[.ref g.p,.ref t,.int l]) (_:AQ a H g G) (_:H t=n_ (.tup (ps.map V.int))) (_:(∀q∈G,q.parts≠ps)) (_:G.length<9000000) (_:∀H',Fr g H H'->AQ a H' g (G++[⟨ps,l⟩])->Q (.int (G.length:Int)) H'):aAb a vs H Q
def Sk(a:Ad):Sp:=λvs H Q _=>aAb a vs H Q
theorem aCp(F:Fun K "kept" "Grove.kept" Jt f fd)(T:Top K mg a):AM P w K mg n8 CX0 1 f fd Gd (Sk a):=by
 refine F.ok Mt D_9 λaa A W s H vs Q E hr h=>?_
 obtain⟨g,G,t,ps,l,rfl,hg,ht,new,few,k⟩:=h;obtain⟨d,p,⟨X,N,Y⟩,x,R⟩:=hg;refine⟨_,(Ae (Am (i:=3) Mt.nd Z O_9 (AN BJ Z T.j_ A2g (Aa (AF (pv 0) Z) Ab))) (Ae (Fw (DM hr) (AF (pv 0) Z) (pv 1) (pv 3) Z) (Ae (BP (Du A1g A1h A2a BL (AF (pv 0) Z) (Aa (pv 2) Ab))) (Ae (BP (Du A1g A1h A2a BL (AF (pv 0) Z) (Aa (pv 1) Ab))) (Ah (Au (pv 3))))))),?_⟩;refine xwf Z Z d T.L0 T.Q2 (Fo g) ⟨g.lv,(xq1 Z ⟨.inl (SqL.of p),?_⟩)⟩;rw[B7];have j:=AI d x A6;have m:=AI p x A6;have D:=AI N x A6;have I:=AI d p A6;have U:=AI d N A6;have vn:Bv (LR 0 G) (kOf ps)=o0:=by
  rcases Ta ps G 0 with ⟨i,q,e1,e2,_⟩|⟨e,_⟩
  .exact absurd e2 (new q (D8 e1))
  .exact e
 refine xw2 Z Z (xq5 d T.L0 T.e_ (aA8 g) (xq1 Z ⟨g.nm,(xq1 Z ⟨Mq.t (k:=kOf ps) x (by rw[aBM];exact ht) (by rw[UQ];exact DU (D3 few A4)),?_⟩)⟩));rw[GF _ vn];have e5:LR 0 G++[(kOf ps,V.int (G.length:Int))]=LR 0 (G++[⟨ps,l⟩]):=by rw[RE,N7]
 rw[e5];generalize y:upd H g.nm (.dT (LR 0 (G++[⟨ps,l⟩])))=L;have r:∀b o,H b=n_ o->b≠g.nm->L b=n_ o:=λb o e n=>by rw[<-y,Ax n];exact e
 have n1:L g.nm=n_ (.dT (LR 0 (G++[⟨ps,l⟩]))):=by rw[<-y];exact Af
 refine xwf Z Z (r _ _ d j) T.L0 T.Q2 (Fo g) ⟨.inl ⟨Z,_,SqL.of (r _ _ p m)⟩,(xq1 Z ⟨g.lv,(xq2 Z Z ⟨r _ _ p m,by rw[B7];exact DU (D3 few A4),?_⟩)⟩)⟩;generalize B:upd L g.lv (.lst ((G.map λq=>V.int q.lev)++[.int l]))=M;have O:∀b o,L b=n_ o->b≠g.lv->M b=n_ o:=λb o e n=>by rw[<-B,Ax n];exact e
 have n2:M g.lv=n_ (.lst ((G++[(⟨ps,l⟩:Sq)]).map λq=>V.int q.lev)):=by rw[<-B,Af,C7];rfl
 have v:=O _ _ (r _ _ N D) (A1a R);refine xwf Z Z (O _ _ (r _ _ d j) I) T.L0 T.L4 (Cs g) ⟨.inl ⟨Z,_,SqL.of v⟩,(xq1 Z ⟨g.pt,(xq2 Z Z ⟨v,by rw[B7,(A1e Y)];exact DU (D3 few A4),?_⟩)⟩)⟩;generalize C:upd M g.pt (.lst (X.map V.ref++[.ref t]))=u;have S:∀b o,M b=n_ o->b≠g.pt->u b=n_ o:=λb o e n=>by rw[<-C,Ax n];exact e
 have n3:u g.pt=n_ (.lst ((X++[t]).map V.ref)):=by rw[<-C,Af,C7];rfl
 have fr:Fr g H u:=λb o e m1 m2 m3=>S _ _ (O _ _ (r _ _ e m3) m1) m2;have tp:∀(c:R_)(xs:List V),H c=n_ (.tup xs)->u c=n_ (.tup xs):=λc xs e=>fr _ _ e (AI e p A6) (AI e N A6) (AI e x A6);refine xq1 Z (k u fr ⟨fr _ _ d I U j,S _ _ n2 R,⟨X++[t],n3,A3f (PairedM.imp (λc q z=>tp c _ z) Y) (tp t _ ht)⟩,S _ _ (O _ _ n1 (A1a m)) (A1a D),R⟩)
structure AJ(G G':Gv)(n:Nat):Prop where
ok:GOk G'
pre:∃r,G'=G++r
few:G'.length<=G.length+n
theorem AJ.refl(h:GOk G):AJ G G 0:=⟨h,⟨[],by simp⟩,B8 _⟩
theorem AJ.trans(h:AJ G d n)(c:AJ d b m):AJ G b (n+m):=by
 obtain⟨r,e⟩:=h.pre;obtain⟨t,f⟩:=c.pre;have g:=h.few;have i:=c.few;exact⟨c.ok,⟨r++t,by rw[f,e,U1]⟩,by lia⟩
theorem AJ.get{G b:Gv}{n x:Nat}{q:Sq}(h:AJ G b n)(e:G[x]?=n_ q):b[x]?=n_ q:=by
 obtain⟨r,c⟩:=h.pre;rw[c];exact Mb e
theorem AJ.lev{G b:Gv}{n x:Nat}{l:Int}(h:AJ G b n)(e:Ao G x l):Ao b x l:=by
 exact xea e λq e z=>⟨q,h.get e,z⟩
inductive Wo(a:Ad)(vs:List V)(H:Hp)(Q:VK):Prop
|mk (g:GA) (G:Gv) (t:R_) (x y z w:Nat) (l:Int) (_:vs=[.ref g.p,.ref t]) (_:AQ a H g G) (_:GOk G) (_:H t=n_ (.tup [.int x,.int y,.int z,.int w])) (_:(Ao G x l/\Ao G y l/\Ao G z l/\Ao G w l)) (_:l<=47) (_:G.length<9000000) (_:∀(n:Nat)(G':Gv)(H':Hp),Fr g H H'->AQ a H' g G'->AJ G G' 1->G'[n]?=n_ ⟨[(x:Int),(y:Int),(z:Int),(w:Int)],l+1⟩->Q (.int n) H'):Wo a vs H Q
def Ey(a:Ad):Sp:=λvs H Q _=>Wo a vs H Q
theorem aCr(F:Fun K "linked" "Grove.linked" GB f fd)(T:Top K mg a)(R:Co P w K mg n8 CX0 1 a.N1 "kept" Gd (Sk a)):AM P w K mg n8 CX0 2 f fd AZ (Ey a):=by
 refine F.ok JU D_9 λS A v s H vs Q E I h=>?_
 obtain⟨g,G,t,x,y,z,w,l,rfl,D,ok,r,⟨u,hy,hz,Y⟩,o,few,k⟩:=h;have d:=D;obtain⟨n,W,⟨ts,h3,h4⟩,C,h6⟩:=D;refine⟨_,(Ae (Am (i:=2) JU.nd Z O_9 (IW (DM I) (AF (pv 0) Z) (pv 1) ⟨Z,Z,Z,Z⟩)) (Ae (AO (AA El (pv 2) Cg (AD _)) (Ah (Au (AK (pv 0) R (rm I) Aq (Aa (pv 1) (AT AR (Aj Az (AF (pv 0) Z) (Aj Al (pv 1) Ac R_9) R_9) Ac Ab))))) AB) (Ah (Au (pv 2))))),?_⟩;refine xwf Z Z n T.L0 T.e_ (aA8 g) ⟨g.nm,Z,.inr ⟨_,.inl C⟩,(xq1 Z ⟨_,GW.t (k:=kOf [(x:Int),(y:Int),(z:Int),(w:Int)]) C (by rw[aBM];exact r),?_⟩)⟩;rcases Ta [(x:Int),(y:Int),(z:Int),(w:Int)] G 0 with ⟨i,q,c,b,U⟩|⟨e,new⟩
 .rw[U];refine xq1 Z ⟨Z,(xq1 Z (Ba (xq1 Z ?_)))⟩;rw[N7];refine k i G H (Fr.refl g H) d ⟨ok,⟨[],by simp⟩,F5 _ _⟩ ?_;have X:8<=i:=by
   refine N9 λM=>?_;rw[ok.leaf i M]at c;cases c;cases b
  obtain⟨x',y',M,w',p1,⟨L,_⟩,_⟩:=ok.node i q c X;have m:x'=x:=by
   rw[p1]at b;injection b with b _
   exact A1b b
  rw[m]at L;refine xea L λqa O a2=>xea u λqb B b2=>?_;rw[O]at B;cases B;have V:q.lev=l+1:=by lia
  rw[c];cases q with
  |mk pp ll=>cases b;cases V;rfl
 .rw[e];refine xq1 Z ⟨Z,(xq1 Z (BR ?_))⟩;refine xea (id u) λq c b=>xwn Z Z n (SH g) Z (xwf Z Z n T.L0 T.Q2 (Fo g) (xwi Z Z Z (SqT.of r) (Ai (j:=0) Z) (xq4 Z Z (SqL.of W) (Ai (by rw[C0,c];rfl)) (xq2 Z Z ?_))));refine⟨g,G,t,[(x:Int),(y:Int),(z:Int),(w:Int)],l+1,by rw[<-b];rfl,d,r,new,few,λN fr p=>?_⟩;refine k G.length _ N fr p ⟨ok.snoc u hy hz Y o new,⟨_,Z⟩,by rw[C6];exact B8 _⟩ ?_;rw[L9 (B8 _),Z4];rfl
inductive aDQ(a:Ad)(vs:List V)(H:Hp)(Q:VK):Prop
|mk (g:GA) (G:Gv) (i:Nat) (_:vs=[.ref g.p,.int i]) (_:AQ a H g G) (_:i<G.length) (_:Q .non H):aDQ a vs H Q
def WL(a:Ad):Sp:=λvs H Q _=>aDQ a vs H Q
theorem aE1(F:Fun K "check_square" "Grove.check_square" DC f fd)(T:Top K mg a)(d:Cal P w K mg n8 CX0 1 "is_whole" VS Vy):AM P w K mg n8 CX0 2 f fd LP (WL a):=by
 refine F.ok JY D_9 λe A b s H vs Q E j h=>?_
 obtain⟨g,G,i,rfl,c,l,k⟩:=h;refine⟨_,(Ah (AO (PW.pt (Nt (Dr (CP (Ar d (rm j) Z Aq (Aa (pv 1) Ab)))) (Jv (Dr (Ur Mv IZ Ac (pv 1) (AN BJ Z T.j_ A2g (Aa (AF (pv 0) Z) Ab))))))) (Ah Bp) AB)),?_⟩;refine⟨_,Z,_,Z,o4,Z,Ba ⟨_,Z,_,_,Z,Z,_,Z,?_⟩⟩;rw[A0e (O4 _:(0:Int)<=(i:Int))];refine BR (xwf Z Z c.hp T.L0 T.Q2 (Fo g) ⟨g.lv,(xq1 Z ⟨.inl (SqL.of c.lv),(xq2 Z Z (xq1 Z ?_))⟩)⟩);rw[B7,A0e (by lia:(i:Int)<(G.length:Int))];exact Ba k
inductive aAc(a:Ad)(vs:List V)(H:Hp)(Q:VK):Prop
|mk (p:R_) (i:Int) (_:vs=[.ref p,.int i]) (_:0<=i) (_:i<8) (_:Q (.int i) H):aAc a vs H Q
def Sj(a:Ad):Sp:=λvs H Q _=>aAc a vs H Q
theorem aCq(F:Fun K "leaf" "Grove.leaf" Js f fd)(T:Top K mg a)(c:Cal P w K mg n8 CX0 2 "is_state" VS aFf):AM P w K mg n8 CX0 3 f fd SV (Sj a):=by
 refine F.ok QT D_9 λd A b s H vs Q E l h=>?_
 obtain⟨g,i,rfl,e,j,k⟩:=h;exact⟨_,(Ae (AO (Dr (CP (Ar c (rm l) Z Aq (Aa (pv 1) Ab)))) (Ah Bp) AB) (Ah (Au (pv 1)))),(xq1 Z ⟨i,Z,e,j,o4,Z,Ba (xq1 Z k)⟩)⟩
inductive aDU(a:Ad)(vs:List V)(H:Hp)(Q:VK):Prop
|mk (g:GA) (G:Gv) (i:Nat) (q:Sq) (_:vs=[.ref g.p,.int i]) (_:AQ a H g G) (_:G[i]?=n_ q) (_:Q (.int q.lev) H):aDU a vs H Q
def Ng(a:Ad):Sp:=λvs H Q _=>aDU a vs H Q
theorem aE6(F:Fun K "level_of" "Grove.level_of" Fc f fd)(T:Top K mg a)(e:Co P w K mg n8 CX0 2 a.N1 "check_square" LP (WL a)):AM P w K mg n8 CX0 3 f fd LP (Ng a):=by
 refine F.ok Nq D_9 λj A c s H vs Q E l h=>?_
 obtain⟨g,G,i,q,rfl,b,d,k⟩:=h;refine⟨_,(Ae (BP (AK (pv 0) e (rm l) Aq (Aa (pv 1) Ab))) (Ah (Au (Aj Az (AF (pv 0) Z) (pv 1) R_9)))),?_⟩;refine xwn Z Z b.hp (UA g) Z ⟨g,G,i,Z,b,(B9.mp d).1,?_⟩;exact xwf Z Z b.hp T.L0 T.Q2 (Fo g) (xwi Z Z Z (SqL.of b.lv) (Ai (by rw[C0,d];rfl)) k)
inductive aDi(a:Ad)(vs:List V)(H:Hp)(Q:VK):Prop
|mk (g:GA) (G:Gv) (i:Nat) (q:Sq) (_:vs=[.ref g.p,.int i]) (_:AQ a H g G) (_:G[i]?=n_ q) (_:q.lev=0) (_:Q (.int i) H):aDi a vs H Q
def ZT(a:Ad):Sp:=λvs H Q _=>aDi a vs H Q
theorem aFL(F:Fun K "state_of" "Grove.state_of" Fb f fd)(T:Top K mg a)(d:Co P w K mg n8 CX0 3 a.N1 "level_of" LP (Ng a)):AM P w K mg n8 CX0 4 f fd LP (ZT a):=by
 refine F.ok Np D_9 λe A b s H vs Q E m h=>?_
 obtain⟨g,G,i,q,rfl,c,l,j,k⟩:=h;refine⟨_,(Ae (AO (AA JV (AK (pv 0) d (rm m) Aq (Aa (pv 1) Ab)) Ac (AD _)) (Ah Bp) AB) (Ah (Au (pv 1)))),?_⟩;refine xwn Z Z c.hp (Em g) Z ⟨g,G,i,q,Z,c,l,Z,(xq1 Z ?_)⟩;rw[j];exact RI Z (xq1 Z k)
end
end J
namespace J
open PySem L2
def bareN:Nat->Nat
|0=>0
|j+1=>8+j
def Eu(n:Nat):Gv:=(List.range n).map λ(s:Nat)=>(⟨[(s:Int)],0⟩:Sq)
def GU(n:Nat):Gv:=(List.range n).map λ(j:Nat)=>(⟨[(bareN j:Int),(bareN j:Int),(bareN j:Int),(bareN j:Int)],(j:Int)+1⟩:Sq)
def G0:Gv:=Eu 8++GU 48
theorem Wc(n:Nat):Eu (n+1)=Eu n++[⟨[(n:Int)],0⟩]:=by unfold Eu;rw[U9,C7];rfl
theorem QK(n:Nat):GU (n+1)=GU n++[⟨[(bareN n:Int),(bareN n:Int),(bareN n:Int),(bareN n:Int)],(n:Int)+1⟩]:=by unfold GU;rw[U9,C7];rfl
theorem Gk(n:Nat):(Eu n).length=n:=by unfold Eu;rw[B7,O8]
theorem Sa(n:Nat):(GU n).length=n:=by unfold GU;rw[B7,O8]
theorem Zu{i j:Nat}(h:bareN i=bareN j):i=j:=by
 cases i<;>cases j
 .rfl
 .have:0=8+_:=h;lia
 .have:8+_=0:=h;lia
 .have:8+_=8+_:=h;lia
theorem Zf(n:Nat):∀q∈Eu n,q.parts≠[(n:Int)]:=λq b z=>by
 refine xea (D0.mp b) λs c a=>?_;subst a;have:=M8.mp c;injection z with z _
 have:s=n:=A1b z;lia
theorem RZ(n:Nat):∀q∈Eu 8++GU n,q.parts≠[(bareN n:Int),(bareN n:Int),(bareN n:Int),(bareN n:Int)]:=λq b z=>by
 rcases F6.mp b with b|b
 .refine xea (D0.mp b) λs c a=>?_;subst a;cases z
 .refine xea (D0.mp b) λs c a=>?_;subst a;have:=M8.mp c;injection z with z _
  have:=Zu (A1b z);lia
theorem Tf:G0.length=56:=by unfold G0;rw[C6,Gk,Sa]
theorem NJ(j:Nat)(h:j<48):G0[8+j]?=n_ ⟨[(bareN j:Int),(bareN j:Int),(bareN j:Int),(bareN j:Int)],(j:Int)+1⟩:=by
 unfold G0;rw[L9 (by rw[Gk];exact F5 _ _),Gk,show 8+j-8=j by lia];unfold GU;rw[C0,T1 h];rfl
theorem Tg(s:Nat)(h:s<8):G0[s]?=n_ ⟨[(s:Int)],0⟩:=by
 unfold G0;rw[N5 (by rw[Gk];exact h)];unfold Eu;rw[C0,T1 h];rfl
theorem aBB(j:Nat)(h:j<=48):Ao G0 (bareN j) (j:Int):=by
 cases j with
 |zero=>exact⟨_,Tg 0 A4,Z⟩
 |succ j=>exact⟨_,NJ j A3,Z⟩
theorem aDv:∀n,((Eu 8++GU n).map Sq.parts).Nodup
|0=>by decide
|n+1=>by
 rw[QK,<-U1,C7,T9];refine⟨aDv n,by simp,λp c e b=>?_⟩;refine xea (D0.mp c) λq d a=>?_;subst a;rw[show e=[(bareN n:Int),(bareN n:Int),(bareN n:Int),(bareN n:Int)] by simpa using b];exact RZ n q d
theorem aGn:GOk G0 where
 leaf:=Tg
 node:=λi q e a=>by
  have b:i<56:=by rw[<-Tf];exact(B9.mp e).1
  obtain⟨j,rfl⟩:∃j,i=8+j:=⟨i-8,by lia⟩
  rw[NJ j A3]at e;cases e;have:=aBB j A3;refine⟨bareN j,bareN j,bareN j,bareN j,Z,?_,?_,?_⟩
  .show Ao G0 _ ((j:Int)+1-1)/\Ao G0 _ ((j:Int)+1-1)/\Ao G0 _ ((j:Int)+1-1)/\Ao G0 _ ((j:Int)+1-1);rw[show(j:Int)+1-1=(j:Int) by lia];exact⟨this,this,this,this⟩
  .show 1<=(j:Int)+1;lia
  .show(j:Int)+1<=48;lia
 nd:=aDv 48
def amK(n:Nat):List (Key×V):=(List.range n).map λ(s:Nat)=>(Sum.inl (s:Int),V.int (if(1:Int)<(s:Int)then 1 else(s:Int)))
theorem Vf(n:Nat):amK (n+1)=amK n++[(Sum.inl (n:Int),V.int (if(1:Int)<(n:Int)then 1 else(n:Int)))]:=by unfold amK;rw[U9,C7];rfl
theorem aCG(n:Nat):(amK n).length=n:=by unfold amK;rw[B7,O8]
theorem Sd{κ:Type}[DecidableEq κ]{k:κ}:∀{l m:List (κ×V)},Bv l k=o0->Bv (l++m) k=Bv m k
|[],_,_=>rfl
|p::r,m,h=>by
 by_cases e:p.1=k
 .rw[BV e]at h;cases h
 .rw[Bz e]at h;show Bv (p::(r++m)) k=_;rw[Bz e];exact Sd h
theorem Vh(n:Nat):∀m,n<=m->Bv (amK n) (Sum.inl (m:Int))=o0:=by
 induction n with
 |zero=>intro m _;rfl
 |succ n a =>
  intro m b;rw[Vf,Sd (a m A3),Bz (by intro z;injection z with z;have:=A1b z;lia)];rfl
def DE(n:Nat):List Int:=(List.range (n+1)).map λj=>((bareN j:Nat):Int)
theorem QL(n:Nat):DE (n+1)=DE n++[((bareN (n+1):Nat):Int)]:=by unfold DE;rw[U9,C7];rfl
theorem Wm(n:Nat):(DE n).getLast?=n_ ((bareN n:Nat):Int):=by
 cases n with
 |zero=>rfl
 |succ n=>rw[QL,List.getLast?_append];rfl
theorem aAl(h:xs.getLast?=n_ x):atI xs (-1)=n_ x:=by
 obtain⟨ys,rfl⟩:=List.getLast?_eq_some_iff.mp h;unfold atI ixN;rw[A0d A4,A0g (by rw[C6,T8];lia)];show(ys++[x])[((-1:Int)+((ys++[x]).length:Nat)).toNat]?=n_ x;rw[C6,T8,show((-1:Int)+((ys.length+1:Nat):Int)).toNat=ys.length by lia,L9 (B8 _),Z4];rfl
seal L2.PA L2.PE L2.PS L2.PSs L2.PT L2.PW
structure Vo(a:Ad)(H H':Hp)(g:GA)(G:Gv)(B:I_)(am:List (Key×V)):Prop where
kp:∀b o,H b=n_ o->b≠g.p->H' b=n_ o
at':AQ a H' g G
br:H' g.br=n_ (.lst (B.map V.int))
am:H' g.am=n_ (.dK am)
bx:H' g.bx=n_ (.dK [])
fresh:H g.lv=o0/\H g.pt=o0/\H g.nm=o0/\H g.br=o0/\H g.am=o0/\H g.bx=o0
n1:g.br≠g.lv
n2:g.br≠g.pt
n3:g.am≠g.bx
section
variable{P:N_}{w:Q_}{K:O_}{mg:C_}{n8:T_}{a:Ad}
inductive Yy(a:Ad)(vs:List V)(H:Hp)(Q:VK):Prop
|mk (p dx:R_) (_:vs=[.ref p]) (_:H p=n_ (.ins a.N1 dx [])) (_:∀(g:GA)(H':Hp),g.p=p->Vo a H H' g G0 (DE 48) (amK 8)->Q .non H'):Yy a vs H Q
def Sn(a:Ad):Sp:=λvs H Q _=>Yy a vs H Q
theorem aBp(F:Fun K "__init__" "Grove.__init__" Ju f fd)(T:Top K mg a)(aU:Co P w K mg n8 CX0 1 a.N1 "kept" Gd (Sk a)):AM P w K mg n8 CX0 2 f fd JI (Sn a):=by
 refine F.ok Fp D_9 λa1 A az s H vs Q E hr h=>?_
 obtain⟨p,dx,rfl,hp,k⟩:=h;refine⟨_,(Ae (Db (pv 0) (BO Ab) Z) (Ae (Db (pv 0) (BO Ab) Z) (Ae (Db (pv 0) Lu Z) (Ae (Db (pv 0) (BO (AG Ab)) Z) (Ae (Db (pv 0) Lw Z) (Ae (Db (pv 0) Lw Z) (Ae (BX A1c Z (Cm Z T.U_ (Aa (Cu Z T.aAR) Ab)) (Bd (i:=1) Fp.nd Z O_9) (Ae (BP (AK (pv 0) aU (rm hr) Aq (AV (Aa (pv 1) Ab) (AG Ab)))) (Ah (Fw (DM hr) (AF (pv 0) Z) (pv 1) (AN (RS Z) Z T.aAJ A3b (Aa (pv 1) (AG Ab))) Z)))) (Ah (BX A1c Z (IV Z T.U_ (AG (AT AR (Cu Z T.aAC) Ac Ab))) (Bd (i:=2) Fp.nd Z O_9) (Ae (Am (i:=3) Fp.nd Z O_9 (Aj Az (AF (pv 0) Z) (EI CZ Ac) R_9)) (Ah (BP (Du A1g A1h A2a BL (AF (pv 0) Z) (Aa (AK (pv 0) aU (rm hr) Aq (AV (Aa (pv 3) (Aa (pv 3) (Aa (pv 3) (Aa (pv 3) Ab)))) (Aa (pv 2) Ab))) Ab)))))))))))))),?_⟩;have stp:∀{u:Hp}{x:R_}{o:HO}{fs fs':List (Str×V)},u p=n_ (.ins a.N1 dx fs)->u x=o0->(∀b v,u b=n_ v->b≠p->upd (upd u x o) p (.ins a.N1 dx fs') b=n_ v)/\upd (upd u x o) p (.ins a.N1 dx fs') x=n_ o/\upd (upd u x o) p (.ins a.N1 dx fs') p=n_ (.ins a.N1 dx fs')/\upd u x o p=n_ (.ins a.N1 dx fs):=λ{u x o fs fs'} e1 e2=>by
  have n:x≠p:=λz=>by rw[z,e1]at e2;cases e2
  exact⟨λb v e nb=>by rw[Ax nb,Ax (Av e e2)];exact e,by rw[Ax n];exact Af,Af,by rw[Ax (A1a n)];exact e1⟩
 refine Bc ?_;intro I L X m D;refine⟨S_0,λM aa=>?_⟩;refine xa3 (stp (o:=.lst []) (fs':=Bb "levels" (.ref M) []) hp aa) λk1 x1 p1 q1=>xq1 Z ⟨p,_,dx,[],Z,q1,T.L0,T.Q2,B4,?_⟩;show X _ _;generalize upd (upd H M _) p _=H1 at k1 x1 p1⊢;refine m (Bc ?_);intro I L X m D;refine⟨S_0,λpt W=>?_⟩;refine xa3 (stp (o:=.lst []) (fs':=Bb "parts" (.ref pt) (Bb "levels" (.ref M) [])) p1 W) λk2 x2 p2 q2=>xq1 Z ⟨p,_,dx,(xq1 Z ⟨q2,T.L0,T.L4,B5,?_⟩)⟩;show X _ _;generalize upd (upd H1 pt _) p _=H2 at k2 x2 p2⊢;refine m (Bc ?_);intro I L X m D;intro nm ab;refine xa3 (stp (o:=.dT []) (fs':=Bb "numbers" (.ref nm) (Bb "parts" (.ref pt) (Bb "levels" (.ref M) []))) p2 ab) λk3 x3 p3 q3=>xq1 Z ⟨p,_,dx,(xq1 Z ⟨q3,T.L0,T.e_,(by show 2<1000;decide),?_⟩)⟩;show X _ _;generalize upd (upd H2 nm _) p _=H3 at k3 x3 p3⊢;refine m (Bc ?_);intro I L X m D;refine⟨S_1,λS l=>?_⟩;refine xa3 (stp (o:=.lst [.int 0]) (fs':=Bb "bares" (.ref S) (Bb "numbers" (.ref nm) (Bb "parts" (.ref pt) (Bb "levels" (.ref M) [])))) p3 l) λk4 x4 p4 q4=>xq1 Z ⟨p,_,dx,(xq1 Z ⟨q4,T.L0,T.Q3,(by show 3<1000;decide),?_⟩)⟩;show X _ _;generalize upd (upd H3 S _) p _=H4 at k4 x4 p4⊢;refine m (Bc ?_);intro I L X m D;intro R G;refine xa3 (stp (o:=.dK []) (fs':=Bb "amounts" (.ref R) (Bb "bares" (.ref S) (Bb "numbers" (.ref nm) (Bb "parts" (.ref pt) (Bb "levels" (.ref M) []))))) p4 G) λk5 x5 p5 q5=>xq1 Z ⟨p,_,dx,(xq1 Z ⟨q5,T.L0,T.n6,(by show 4<1000;decide),?_⟩)⟩;show X _ _;generalize upd (upd H4 R _) p _=H5 at k5 x5 p5⊢;refine m (Bc ?_);intro I L X m D;intro bx C;refine xa3 (stp (o:=.dK []) (fs':=fl6 ⟨p,dx,M,pt,nm,S,R,bx⟩) p5 C) λk6 x6 p6 q6=>xq1 Z ⟨p,_,dx,(xq1 Z ⟨q6,T.L0,T.l7,(by show 5<1000;decide),?_⟩)⟩;show X _ (upd (upd H5 bx (.dK [])) p (.ins a.N1 dx (fl6 ⟨p,dx,M,pt,nm,S,R,bx⟩)));generalize upd (upd H5 bx _) p _=H6 at k6 x6 p6⊢;refine m ?_;have al:∀b v,H1 b=n_ v->b≠p->H6 b=n_ v:=λb v e n=>k6 _ _ (k5 _ _ (k4 _ _ (k3 _ _ (k2 _ _ e n) n) n) n) n;have an:∀b v,H2 b=n_ v->b≠p->H6 b=n_ v:=λb v e n=>k6 _ _ (k5 _ _ (k4 _ _ (k3 _ _ e n) n) n) n;have ao:∀b v,H3 b=n_ v->b≠p->H6 b=n_ v:=λb v e n=>k6 _ _ (k5 _ _ (k4 _ _ e n) n) n;have aq:∀b v,H4 b=n_ v->b≠p->H6 b=n_ v:=λb v e n=>k6 _ _ (k5 _ _ e n) n;have np:∀{u:Hp}{x:R_}{fs:List (Str×V)},u p=n_ (.ins a.N1 dx fs)->u x=o0->x≠p:=λ{u x fs} e1 e2 z=>by rw[z,e1]at e2;cases e2
 have no:∀{u Hm:Hp}{x y:R_}{v:HO},u x=n_ v->u y=o0->x≠y:=λ{u Hm x y v} e1 e2=>Av e1 e2;have ac:=np hp aa;have ad:=np p1 W;have aj:=np p2 ab;have ai:=np p3 l;have ah:=np p4 G;have as:=np p5 C;have y1:=al _ _ x1 ac;have y2:=an _ _ x2 ad;have y3:=ao _ _ x3 aj;have y4:=aq _ _ x4 ai;have y5:=k6 _ _ x5 ah;have B:∀{u:Hp}{x:R_},(∀b v,H b=n_ v->b≠p->u b=n_ v)->x≠p->u x=o0->H x=o0:=λ{u x} kp n e=>by
  cases h:H x with
  |none=>rfl
  |some v=>rw[kp _ _ h n]at e;cases e
 have c2:∀b v,H b=n_ v->b≠p->H2 b=n_ v:=λb v e n=>k2 _ _ (k1 _ _ e n) n;have c3:∀b v,H b=n_ v->b≠p->H3 b=n_ v:=λb v e n=>k3 _ _ (c2 _ _ e n) n;have c4:∀b v,H b=n_ v->b≠p->H4 b=n_ v:=λb v e n=>k4 _ _ (c3 _ _ e n) n;have c5:∀b v,H b=n_ v->b≠p->H5 b=n_ v:=λb v e n=>k5 _ _ (c4 _ _ e n) n;have c6:∀b v,H b=n_ v->b≠p->H6 b=n_ v:=λb v e n=>k6 _ _ (c5 _ _ e n) n;have d1:=Av x1 W;have d2:=A1a (Av (k3 _ _ (k2 _ _ x1 ac) ac) l);have d3:=A1a (Av (k3 _ _ x2 ad) l);have d4:=Av x5 C;have N0:Vo a H H6 ⟨p,dx,M,pt,nm,S,R,bx⟩ (Eu 0) (DE 0) (amK 0):=⟨c6,⟨p6,y1,⟨[],y2,.nil⟩,y3,d1⟩,y4,y5,x6,⟨aa,B k1 ad W,B c2 aj ab,B c3 ai l,B c4 ah G,B c5 as C⟩,d2,d3,d4⟩
 have k':=k ⟨p,dx,M,pt,nm,S,R,bx⟩;have gp:(⟨p,dx,M,pt,nm,S,R,bx⟩:GA).p=p:=rfl;generalize (⟨p,dx,M,pt,nm,S,R,bx⟩:GA)=g at N0 k' gp;subst gp;clear k p6 q6 q5 q4 q3 q2 q1 y1 y2 y3 y4 y5 x6 c6 c5 c4 c3 c2 al an ao aq k1 k2 k3 k4 k5 k6 x1 x2 x3 x4 x5 p1 p2 p3 p4 p5 d1 d2 d3 d4 ac ad aj ai ah as C G l ab W aa B no np stp;refine⟨8,Z,by decide,by decide,?_⟩;refine Ce (n:=8) (λi σ H7=>∃u1:Option V,σ=[n_ (.ref g.p),u1,o0,o0]/\Vo a H H7 g (Eu i) (DE 0) (amK i)) ⟨o0,Z,N0⟩ ?_ ?_
 .intro i σ H7 hi au;refine xea au λu1 af N=>?_;clear au;subst af;obtain⟨kp,at',l,G,C,fresh,n1,n2,n3⟩:=N;have cl:(i:Int)=0+(i:Int):=(U7 _).symm;refine xq1 Z ⟨g.p,g.dx,(xq1 Z ⟨at'.hp,SH g,(xq1 Z ⟨S_1,λt ht=>?_⟩)⟩)⟩;have s1:=AH (o:=.tup [.int (0+(i:Int))]) ht;refine⟨g,Eu i,t,[0+(i:Int)],0,Z,at'.same s1,Af,by rw[<-cl];exact Zf i,by rw[Gk];exact D3 hi A4,λY fr r=>?_⟩;rw[<-cl,<-Wc]at r;have O:=(Ay.fr s1).trans fr;refine xea at'.pt λts h3 h4=>?_;have kd:∀(b:R_)(kvs:List (Key×V)),H7 b=n_ (.dK kvs)->Y b=n_ (.dK kvs):=λb kvs e=>O _ _ e (AI e at'.lv A6) (AI e h3 A6) (AI e at'.nm A6);have ae:=kd _ _ G;refine xq1 Z ⟨_,_,Z,(xwf Z Z r.hp T.L0 T.n6 (aEc g) (xq1 Z ⟨g.am,(xq1 Z ⟨Mq.k (k:=Sum.inl (0+(i:Int))) ae (by rw[aCG];exact DU (D3 hi A4)),?_⟩)⟩))⟩;rw[<-cl,GF _ (Vh i i (B8 _)),<-Vf];have d:∀{b:R_}{v:HO},Y b=n_ v->b≠g.am->upd Y g.am (.dK (amK (i+1))) b=n_ v:=λ{b v} e n=>by rw[Ax n];exact e
  have na:∀{b:R_}{v:HO},Y b=n_ v->v≠.dK (amK i)->b≠g.am:=λ{b v} e n=>AI e ae n;refine xea r.pt λa0 ar ay=>xq1 Z ⟨?_,⟨d r.hp (na r.hp A6),d r.lv (na r.lv A6),⟨a0,d ar (na ar A6),PairedM.imp (λc q z=>d z (na z A6)) ay⟩,d r.nm (na r.nm A6),r.ne⟩,?_,Af,?_,fresh,n1,n2,n3⟩
  .intro b v e nb;have e8:=O _ _ (kp _ _ e nb) (Av e fresh.1) (Av e fresh.2.1) (Av e fresh.2.2.1);exact d e8 (Av e fresh.2.2.2.2.1)
  .have e8:=O _ _ l n1 n2 (AI l at'.nm A6);exact d e8 (na e8 A6)
  .exact d (kd _ _ C) (A1a n3)
 .intro σ H7 av;refine xea av λu1 af N=>?_;clear av;subst af;refine xq2 Z Z ⟨1,49,Z,⟨by decide,by decide,by decide,by decide⟩,?_⟩;have N0:Vo a H H7 g (Eu 8++GU 0) (DE 0) (amK 8):=by rw[show Eu 8++GU 0=Eu 8 from Z9 _];exact N
  clear N;refine Ce (lo:=1) (n:=48) (λj σ Y=>∃u2 u3:Option V,σ=[n_ (.ref g.p),u1,u2,u3]/\Vo a H Y g (Eu 8++GU j) (DE j) (amK 8)) ⟨o0,o0,Z,N0⟩ ?_ ?_
  .intro j σ Y hj aw;refine Cw aw λu2 u3 ag N=>?_;clear aw;subst ag;obtain⟨kp,at',l,G,C,fresh,n1,n2,n3⟩:=N;refine xwf Z Z at'.hp T.L0 T.Q3 (IO g) (xwi Z Z Z (SqL.of l) (aAl (by rw[List.getLast?_map,Wm];rfl)) ?_);refine xwf Z Z at'.hp T.L0 T.Q3 (IO g) ⟨.inl ⟨Z,_,SqL.of l⟩,(xq1 Z ⟨g.p,g.dx,(xq1 Z ⟨at'.hp,SH g,(xw3 Z Z Z (xq1 Z ⟨S_4,λt ht=>(xq1 Z ?_)⟩))⟩)⟩)⟩;have s1:=AH (o:=.tup [.int (bareN j:Int),.int (bareN j:Int),.int (bareN j:Int),.int (bareN j:Int)]) ht;have ln:(Eu 8++GU j).length=8+j:=by rw[C6,Gk,Sa]
   refine⟨g,Eu 8++GU j,t,[(bareN j:Int),(bareN j:Int),(bareN j:Int),(bareN j:Int)],1+(j:Int),Z,at'.same s1,Af,RZ j,by rw[ln];lia,λH9 fr ak=>?_⟩;rw[show(1:Int)+(j:Int)=(j:Int)+1 by lia,U1,<-QK]at ak;have O:=(Ay.fr s1).trans fr;refine xea at'.pt λts h3 h4=>?_;have kd:∀(b:R_)(kvs:List (Key×V)),Y b=n_ (.dK kvs)->H9 b=n_ (.dK kvs):=λb kvs e=>O _ _ e (AI e at'.lv A6) (AI e h3 A6) (AI e at'.nm A6);have U:=O _ _ l n1 n2 (AI l at'.nm A6);refine⟨g.br,(xq2 Z Z ⟨U,by rw[B7];unfold DE;rw[B7,O8];exact DU A3,?_⟩)⟩;have eb:(DE j).map V.int++[V.int ((Eu 8++GU j).length:Int)]=(DE (j+1)).map V.int:=by rw[QL,C7,ln];rfl
   rw[eb];have d:∀{b:R_}{v:HO},H9 b=n_ v->v≠.lst ((DE j).map V.int)->upd H9 g.br (.lst ((DE (j+1)).map V.int)) b=n_ v:=λ{b v} e n=>by rw[Ax (AI e U n)];exact e
   refine⟨_,_,Z,?_,ak.put U n1 n2,Af,d (kd _ _ G) A6,d (kd _ _ C) A6,fresh,n1,n2,n3⟩;intro b v e nb;rw[Ax (Av e fresh.2.2.2.1)];exact O _ _ (kp _ _ e nb) (Av e fresh.1) (Av e fresh.2.1) (Av e fresh.2.2.1)
  .intro σ Y ax;refine Cw ax λu2 u3 ag N=>?_;clear ax;subst ag;exact k' Y Z N
end
end J
namespace J
open PySem L2
theorem Ao.uniq(h:Ao G i l)(b:Ao G i m):l=m:=by
 refine xea h λq e z=>xea b λp a c=>?_;rw[e]at a;cases a;exact z.symm.trans c
structure IR(G:Gv)(n i:Nat)(q:Sq)(x y z w:Nat):Prop where
g:G[i]?=n_ q
ps:q.parts=[(x:Int),(y:Int),(z:Int),(w:Int)]
lev:q.lev=(n:Int)+1
hx:Ao G x n
hy:Ao G y n
hz:Ao G z n
hw:Ao G w n
theorem BI(ok:GOk G)(h:Ao G i ((n+1:Nat):Int)):∃q x y z w,IR G n i q x y z w:=by
 refine xea h λq e f=>?_;have l:8<=i:=by
  refine N9 λk=>?_;rw[ok.leaf i k]at e;cases e;have:(0:Int)=((n+1:Nat):Int):=f;lia
 obtain⟨x,y,z,w,j,⟨b,c,d,a⟩,_,_⟩:=ok.node i q e l;have g:q.lev-1=(n:Int):=by lia
 rw[g]at b c d a;exact⟨q,x,y,z,w,e,j,by lia,b,c,d,a⟩
theorem IR.app{k n i:Nat}{q:Sq}{x y z w:Nat}(go:AJ G a k)(h:IR G n i q x y z w):IR a n i q x y z w:=⟨go.get h.g,h.ps,h.lev,go.lev h.hx,go.lev h.hy,go.lev h.hz,go.lev h.hw⟩
def Eo(G:Gv):Nat->Nat->Int
|0,i=>if i=0 then 0 else 1
|n+1,i=>match G[i]? with
 |some q=>(q.parts.map λp=>Eo G n p.toNat).sum
 |none=>0
theorem Mh{q:Sq}{x y z w:Nat}(h:IR G n i q x y z w):Eo G (n+1) i=([x,y,z,w].map λk=>Eo G n k).sum:=by
 rw[show Eo G (n+1) i=(match G[i]? with|some q=>(q.parts.map λ(p:Int)=>Eo G n p.toNat).sum|none=>0)from rfl,h.g];show(q.parts.map λ(p:Int)=>Eo G n p.toNat).sum=_;rw[h.ps];rfl
theorem LT{k:Nat}(ok:GOk G)(go:AJ G a k):∀(n i:Nat),Ao G i (n:Int)->Eo a n i=Eo G n i
|0,i,_=>rfl
|n+1,i,h=>by
 refine xe5 (BI ok h) λq x y z w b=>?_;rw[Mh b,Mh (b.app go)];show Eo a n x+(Eo a n y+(Eo a n z+(Eo a n w+0)))=_;rw[LT ok go n x b.hx,LT ok go n y b.hy,LT ok go n z b.hz,LT ok go n w b.hw];rfl
theorem Gf(G:Gv):∀(n i:Nat),0<=Eo G n i
|0,i=>by
 show 0<=if i=0 then(0:Int)else 1;split<;>lia
|n+1,i=>by
 unfold Eo;split
 .rename_i q _;have:∀l:List Int,0<=(l.map λp=>Eo G n p.toNat).sum:=by
   intro l;induction l with
   |nil=>exact R8 0
   |cons p r a=>rw[F8,R7];have:=Gf G n p.toNat;lia
  exact this _
 .exact R8 0
theorem Md:∀(n:Nat)(l:J_),l.Nodup->(∀x∈l,x<n)->l.length<=n
|0,l,_,h=>by
 cases l with
 |nil=>exact B8 0
 |cons x r=>exact absurd (h x C8) (N3 _)
|n+1,l,nd,h=>by
 by_cases c:n∈l
 .have:=Md n (l.erase n) (nd.erase n) λx a=>by
   have b:=(nd.mem_erase_iff).mp a;have:=h x b.2;have:=b.1;lia
  rw[List.length_erase_of_mem c]at this;lia
 .have:=Md n l nd λx a=>by
   have:=h x a;have:x≠n:=λz=>c (z▸a);lia
  exact V2 this
structure IS(G:Gv)(ks:List (Key×V)):Prop where
nd:(ks.map Prod.fst).Nodup
lt:∀k∈ks.map Prod.fst,∃i:Nat,i<G.length/\k=Sum.inl (i:Int)
theorem IS.len(h:IS G ks):ks.length<=G.length:=by
 let f:Key->Nat:=λk=>match k with|.inl i=>i.toNat|.inr _=>0
 have:=Md G.length ((ks.map Prod.fst).map f) (by
  rw[U3,S7];refine List.Pairwise.imp_of_mem (λ{a b} e g d z=>d ?_) (U3.mp h.nd);refine xea (h.lt a e) λi _ c=>?_;subst c;refine xea (h.lt b g) λj _ c=>?_;subst c;have:(i:Int).toNat=(j:Int).toNat:=z;rw[M4,M4]at this;rw[this]) (λx n=>by
  refine xea (D0.mp n) λk m c=>?_;subst c;refine xea (h.lt k m) λi l c=>?_;subst c;show(i:Int).toNat<_;rw[M4];exact l)
 rw[B7,B7]at this;exact this
theorem IS.app(le:G.length<=a.length)(h:IS G ks):IS a ks:=⟨h.nd,λk c=>by
 exact xea (h.lt k c) λi b e=>⟨i,D3 b le,e⟩⟩
theorem IS.put(h:IS G ks)(j:i<G.length)(v:V):IS G (DR ks (Sum.inl (i:Int)) v):=by
 unfold DR;by_cases a:(ks.any λb=>decide (b.1=Sum.inl (i:Int)))=o4
 .rw[A0g a];have e:(ks.map λb=>if b.1=Sum.inl (i:Int)then(b.1,v)else b).map Prod.fst=ks.map Prod.fst:=by
   rw[O1];refine List.map_congr_left λb _=>?_;show(if b.1=Sum.inl (i:Int)then(b.1,v)else b).1=b.1;split<;>rfl
  exact⟨by rw[e];exact h.nd,by rw[e];exact h.lt⟩
 .rw[A0d a];refine⟨?_,λk c=>?_⟩
  .rw[C7,T9];refine⟨h.nd,by simp,λk c l d z=>a ?_⟩;have:l=Sum.inl (i:Int):=by simpa using d
   subst this;subst z;exact xea (D0.mp c) λb f g=>U6.mpr ⟨b,f,A0e g⟩
  .rw[C7]at c;rcases F6.mp c with z|z
   .exact h.lt k z
   .exact⟨i,j,by simpa using z⟩
structure AmOk(G:Gv)(ks:List (Key×V)):Prop where
keys:IS G ks
leaf:∀s:Nat,s<8->∃v,Bv ks (Sum.inl (s:Int))=n_ v
val:∀(i:Nat) v,Bv ks (Sum.inl (i:Int))=n_ v->∃l:Nat,Ao G i l/\v=.int (Eo G l i)
theorem AmOk.app{k:Nat}(ok:GOk G)(go:AJ G a k)(h:AmOk G ks):AmOk a ks:=⟨h.keys.app (by obtain⟨r,e⟩:=go.pre;rw[e,C6];exact F5 _ _),h.leaf,λi v e=>by
 exact xea (h.val i v e) λl b c=>⟨l,go.lev b,by rw[LT ok go l i b];exact c⟩⟩
theorem am0:AmOk G0 (amK 8) where
 keys:=⟨by decide +kernel,λk d=>by
  refine xea (D0.mp d) λp f a=>?_;subst a;refine xea (D0.mp f) λs b a=>?_;subst a;have:=M8.mp b;exact⟨s,by rw[Tf];exact D3 this A4,Z⟩⟩
 leaf:=λs b=>by
  match s,b with
  |0,_=>exact⟨_,Z⟩
  |1,_=>exact⟨_,Z⟩
  |2,_=>exact⟨_,Z⟩
  |3,_=>exact⟨_,Z⟩
  |4,_=>exact⟨_,Z⟩
  |5,_=>exact⟨_,Z⟩
  |6,_=>exact⟨_,Z⟩
  |7,_=>exact⟨_,Z⟩
 val:=λi v e=>by
  have c:i<8:=by
   refine Nat.lt_of_not_le λz=>?_;rw[Vh 8 i z]at e;cases e
  refine⟨0,⟨_,Tg i c,Z⟩,?_⟩
  match i,c with
  |0,_=>cases e;rfl
  |1,_=>cases e;rfl
  |2,_=>cases e;rfl
  |3,_=>cases e;rfl
  |4,_=>cases e;rfl
  |5,_=>cases e;rfl
  |6,_=>cases e;rfl
  |7,_=>cases e;rfl
structure Bx where
l:Int
t:Int
w:Int
h:Int
def Bx.ns(b:Bx):List Int:=[b.l,b.t,b.w,b.h]
def shB(half:Int)(k:Nat)(b:Bx):Bx:=⟨b.l+half*((k:Int)%2),b.t+half*((k:Int)/2),b.w,b.h⟩
def Ex(half:Int):Nat->List (Option Bx)->List Bx
|_,[]=>[]
|k,o0::r=>Ex half (k+1) r
|k,n_ b::r=>shB half k b::Ex half (k+1) r
def mnL(l:I_):Int:=l.min?.getD 0
def mxL(l:I_):Int:=l.max?.getD 0
def QB(bs:List Bx):Bx:=⟨mnL (bs.map (·.l)),mnL (bs.map (·.t)),mxL (bs.map λb=>b.l+b.w)-mnL (bs.map (·.l)),mxL (bs.map λb=>b.t+b.h)-mnL (bs.map (·.t))⟩
def QU(half:Int)(obs:List (Option Bx)):Option Bx:=match Ex half 0 obs with
|[]=>o0
|b::r=>n_ (QB (b::r))
def Cj(G:Gv):Nat->Nat->Option Bx
|0,i=>if i=0 then o0 else n_ ⟨0,0,1,1⟩
|n+1,i=>match G[i]? with
 |some q=>QU (2^n) (q.parts.map λ(p:Int)=>Cj G n p.toNat)
 |none=>o0
theorem aBc(h:m∈l)(a:∀x∈l,m<=x):m=mnL l:=by
 unfold mnL;rw[List.min?_eq_some_iff.mpr ⟨h,a⟩];rfl
theorem aBf(h:m∈l)(a:∀x∈l,x<=m):m=mxL l:=by
 unfold mxL;rw[List.max?_eq_some_iff.mpr ⟨h,a⟩];rfl
theorem Gn{q:Sq}{x y z w:Nat}(h:IR G n i q x y z w):Cj G (n+1) i=QU (2^n) [Cj G n x,Cj G n y,Cj G n z,Cj G n w]:=by
 rw[show Cj G (n+1) i=(match G[i]? with|some q=>QU (2^n) (q.parts.map λ(p:Int)=>Cj G n p.toNat)|none=>o0)from rfl,h.g];show QU (2^n) (q.parts.map λ(p:Int)=>Cj G n p.toNat)=_;rw[h.ps];rfl
theorem Jb{k:Nat}(ok:GOk G)(go:AJ G b k):∀(n i:Nat),Ao G i (n:Int)->Cj b n i=Cj G n i
|0,i,_=>rfl
|n+1,i,h=>by
 refine xe5 (BI ok h) λq x y z w a=>?_;rw[Gn a,Gn (a.app go),Jb ok go n x a.hx,Jb ok go n y a.hy,Jb ok go n z a.hz,Jb ok go n w a.hw]
theorem Rw:∀{a:List (Option Bx)},QU half a=o0 ↔ ∀o∈a,o=o0:=by
 intro a;have g:∀(a:List (Option Bx))(k:Nat),Ex half k a=[] ↔ ∀o∈a,o=o0:=by
  intro a;induction a with
  |nil=>intro k;exact⟨λ_ o c=>by simp at c,λ_=>Z⟩
  |cons o r d =>
   intro k;cases o with
   |none =>
    rw[show Ex half k (o0::r)=Ex half (k+1) r from rfl,d (k+1)];exact⟨λh o c=>by rcases C1.mp c with z|z;exact z;exact h o z,λh o c=>h o (C9 _ c)⟩
   |some b=>exact⟨λh=>(by cases h),λh=>(by cases h (n_ b) C8)⟩
 rw[<-g a 0];unfold QU;constructor
 .intro h;split at h
  .assumption
  .cases h
 .intro h;rw[h]
theorem Mn(ok:GOk G):∀(n i:Nat),Ao G i (n:Int)->(Cj G n i=o0↔Eo G n i=0)
|0,i,_=>by
 show(if i=0 then o0 else n_ (⟨0,0,1,1⟩:Bx))=o0↔(if i=0 then(0:Int)else 1)=0;split
 .exact⟨λ_=>Z,λ_=>Z⟩
 .exact⟨λh=>(by cases h),λh=>A3⟩
|n+1,i,h=>by
 refine xe5 (BI ok h) λq x y z w a=>?_;rw[Gn a,Mh a,Rw];show _↔Eo G n x+(Eo G n y+(Eo G n z+(Eo G n w+0)))=0;have c:=Mn ok n x a.hx;have d:=Mn ok n y a.hy;have e:=Mn ok n z a.hz;have b:=Mn ok n w a.hw;have nx:=Gf G n x;have g:=Gf G n y;have j:=Gf G n z;have nw:=Gf G n w;constructor
 .intro h;rw[c.mp (h _ B0),d.mp (h _ B0),e.mp (h _ B0),b.mp (h _ B0)];rfl
 .intro h o f;simp only[C1,D9,A2e]at f;rcases f with rfl|rfl|rfl|rfl
  .exact c.mpr A3
  .exact d.mpr A3
  .exact e.mpr A3
  .exact b.mpr A3
theorem aBC(e:G=G0++r)(j:Nat)(h:j<48):G[8+j]?=n_ ⟨[(bareN j:Int),(bareN j:Int),(bareN j:Int),(bareN j:Int)],(j:Int)+1⟩:=by
 rw[e];exact Mb (NJ j h)
theorem LV(ok:GOk G)(e:G=G0++r):∀(n i:Nat),n<=48->Ao G i (n:Int)->(Cj G n i=o0↔i=bareN n)
|0,i,_,_=>by
 show(if i=0 then o0 else n_ (⟨0,0,1,1⟩:Bx))=o0↔i=0;split
 .rename_i z;exact⟨λ_=>z,λ_=>Z⟩
 .rename_i z;exact⟨λh=>(by cases h),λh=>absurd h z⟩
|n+1,i,hn,h=>by
 refine xe5 (BI ok h) λq x y z w a=>?_;rw[Gn a,Rw];have c:=LV ok e n x A3 a.hx;have d:=LV ok e n y A3 a.hy;have f:=LV ok e n z A3 a.hz;have b:=LV ok e n w A3 a.hw;have j:=aBC e n (Y7 hn);constructor
 .intro h;have m:=c.mp (h _ B0);have s:=d.mp (h _ B0);have t:=f.mp (h _ B0);have l:=b.mp (h _ B0);show i=8+n;refine ok.one a.g j ?_;rw[a.ps,m,s,t,l]
 .intro h;have h:i=8+n:=h;have g:=a.g;rw[h,j]at g;cases g;have p:=a.ps;have p:=p;injection p with p1 p
  injection p with p2 p
  injection p with p3 p
  injection p with p4 p
  intro o k;simp only[C1,D9,A2e]at k;rcases k with rfl|rfl|rfl|rfl
  .exact c.mpr (A1b p1).symm
  .exact d.mpr (A1b p2).symm
  .exact f.mpr (A1b p3).symm
  .exact b.mpr (A1b p4).symm
structure aFz(G:Gv)(H:Hp)(ks:List (Key×V)):Prop where
keys:IS G ks
val:∀(i:Nat) v,Bv ks (Sum.inl (i:Int))=n_ v->∃(l:Nat)(b:Bx)(t:R_),Ao G i l/\Cj G l i=n_ b/\v=.ref t/\H t=n_ (.tup (b.ns.map V.int))
structure Be(a:Ad)(H:Hp)(g:GA)(G:Gv):Prop where
at':AQ a H g G
ok:GOk G
g0:∃r,G=G0++r
br:H g.br=n_ (.lst ((DE 48).map V.int))
am:∃ks,H g.am=n_ (.dK ks)/\AmOk G ks
bx:∃ks,H g.bx=n_ (.dK ks)/\aFz G H ks
n1:g.br≠g.lv
n2:g.br≠g.pt
n3:g.am≠g.bx
theorem Be.new(h:Vo a H b g G0 (DE 48) (amK 8)):Be a b g G0:=⟨h.at',aGn,⟨[],by simp⟩,h.br,⟨_,h.am,am0⟩,⟨_,h.bx,⟨by simp,λk c=>by simp at c⟩,λi v e=>by cases e⟩,h.n1,h.n2,h.n3⟩
theorem Be.ne_am(h:Be a H g G)(e:H b=n_ o)(n:∀ks,o≠.dK ks):b≠g.am/\b≠g.bx:=by
 exact xea h.am λks c _=>xea h.bx λf d _=>⟨AI e c (n _),AI e d (n _)⟩
theorem Be.same(s:Ay H d)(h:Be a H g G):Be a d g G:=by
 obtain⟨at',ok,p,j,⟨ks,q,r⟩,⟨c,u,f⟩,w,x,y⟩:=h;refine⟨at'.same s,ok,p,s _ _ j,⟨ks,s _ _ q,r⟩,⟨c,s _ _ u,f.keys,λi v e=>?_⟩,w,x,y⟩;exact Go (f.val i v e) λl b t k m n o=>⟨l,b,t,k,m,n,s _ _ o⟩
theorem AJ.le{k:Nat}(go:AJ G a k):G.length<=a.length:=by
 obtain⟨r,e⟩:=go.pre;rw[e,C6];exact F5 _ _
theorem Be.fr{H c:Hp}(h:Be a H g G)(f:Fr g H c)(j:AQ a c g d)(go:AJ G d m):Be a c g d:=by
 obtain⟨at',ok,⟨r,C⟩,n,⟨ks,D,E⟩,⟨k,F,q⟩,s,u,K⟩:=h;refine xea at'.pt λus I _=>?_;have keep:∀{b:R_}{o:HO},H b=n_ o->(∀l,o≠.lst l)->(∀l,o≠.dT l)->c b=n_ o:=λ{b o} e w L=>f _ _ e (AI e at'.lv (w _)) (AI e I (w _)) (AI e at'.nm (L _));obtain⟨t,B⟩:=go.pre;refine⟨j,go.ok,⟨r++t,by rw[B,C,U1]⟩,f _ _ n s u (AI n at'.nm A6),⟨ks,keep D (by intro l z;cases z) (by intro l z;cases z),E.app ok go⟩,⟨k,keep F (by intro l z;cases z) (by intro l z;cases z),q.keys.app go.le,λi v e=>?_⟩,s,u,K⟩;exact Go (q.val i v e) λl b t p x y A=>⟨l,b,t,go.lev p,by rw[Jb ok go l i p];exact x,y,keep A (by intro l z;cases z) (by intro l z;cases z)⟩
theorem Be.put(h:Be a H g G)(k:H l=n_ (.lst xs))(y:l≠g.lv)(z:l≠g.pt)(A:l≠g.br):Be a (upd H l o) g G:=by
 obtain⟨at',ok,s,f,⟨ks,u,w⟩,⟨d,x,j⟩,B,C,D⟩:=h;have c:∀{b v},H b=n_ v->v≠.lst xs->upd H l o b=n_ v:=λ{b v} e n=>by rw[Ax (AI e k n)];exact e
 refine⟨at'.put k y z,ok,s,by rw[Ax (A1a A)];exact f,⟨ks,c u A6,w⟩,⟨d,c x A6,j.keys,λi v e=>?_⟩,B,C,D⟩;exact Go (j.val i v e) λl b t m p q r=>⟨l,b,t,m,p,q,c r A6⟩
def FrQ(g:GA)(H H':Hp):Prop:=∀b o,H b=n_ o->b≠g.am->b≠g.bx->H' b=n_ o
theorem FrQ.refl(g:GA)(H:Hp):FrQ g H H:=λ_ _ e _ _=>e
theorem FrQ.trans{a c d:Hp}(h:FrQ g a c)(j:FrQ g c d):FrQ g a d:=λb o e f i=>j b o (h b o e f i) f i
theorem Ay.frq{a c:Hp}(h:Ay a c):FrQ g a c:=λb o e _ _=>h b o e
theorem AQ.dict(p:H d=n_ (.dK ks))(h:AQ a H g G):AQ a (upd H d o) g G:=by
 obtain⟨f,i,⟨r,j,k⟩,l,m⟩:=h;have c:∀{b v},H b=n_ v->v≠.dK ks->upd H d o b=n_ v:=λ{b v} e n=>by rw[Ax (AI e p n)];exact e
 exact⟨c f A6,c i A6,⟨r,c j A6,PairedM.imp (λt q z=>c z A6) k⟩,c l A6,m⟩
theorem Be.bx_put(h:Be a H g G)(e:H g.bx=n_ (.dK ks))(j:aFz G H ks2):Be a (upd H g.bx (.dK ks2)) g G/\FrQ g H (upd H g.bx (.dK ks2)):=by
 obtain⟨at',ok,u,m,⟨f,w,x⟩,⟨_,_,_⟩,z,A,k⟩:=h;have c:∀{b v},H b=n_ v->v≠.dK ks->upd H g.bx (.dK ks2) b=n_ v:=λ{b v} d n=>by rw[Ax (AI d e n)];exact d
 refine⟨⟨at'.dict e,ok,u,c m A6,⟨f,by rw[Ax k];exact w,x⟩,⟨_,Af,j.keys,λi v e=>?_⟩,z,A,k⟩,λb o d _ y=>by rw[Ax y];exact d⟩;exact Go (j.val i v e) λl b t p q r s=>⟨l,b,t,p,q,r,c s A6⟩
theorem UB(g:GA):(fl6 g).lookup ("boxed" : Str)=o0:=JL g A0 A0 A0 A0 A0 A0
theorem Uz(g:GA):(fl6 g).lookup ("measured" : Str)=o0:=JL g A0 A0 A0 A0 A0 A0
theorem aCg(g:GA):(fl6 g).lookup ("span" : Str)=o0:=JL g A0 A0 A0 A0 A0 A0
seal L2.PA L2.PE L2.PS L2.PSs L2.PT L2.PW
theorem IR.mem{G:Gv}{n i:Nat}{q:Sq}{x y z w:Nat}(h:IR G n i q x y z w){j:Nat}{v:V}(e:(q.parts.map V.int)[j]?=n_ v):∃k:Nat,v=.int k/\Ao G k n/\q.parts[j]?=n_ (k:Int):=by
 rw[C0]at e;refine xea (D5.mp e) λp a b=>?_;subst b;have c:=D8 a;rw[h.ps]at c;simp only[C1,D9,A2e]at c;rcases c with rfl|rfl|rfl|rfl
 .exact⟨x,Z,h.hx,a⟩
 .exact⟨y,Z,h.hy,a⟩
 .exact⟨z,Z,h.hz,a⟩
 .exact⟨w,Z,h.hw,a⟩
theorem QC(half:Int):∀(l r:List (Option Bx))(k:Nat),Ex half k (l++r)=Ex half k l++Ex half (k+l.length) r
|[],r,k=>rfl
|none::l,r,k=>by
 show Ex half (k+1) (l++r)=Ex half (k+1) l++Ex half (k+(l.length+1)) r;rw[QC half l r (k+1),show k+1+l.length=k+(l.length+1) by lia]
|some b::l,r,k=>by
 show shB half k b::Ex half (k+1) (l++r)=shB half k b::(Ex half (k+1) l++Ex half (k+(l.length+1)) r);rw[QC half l r (k+1),show k+1+l.length=k+(l.length+1) by lia]
theorem NI(half:Int):∀(l:List (Option Bx))(k:Nat),(Ex half k l).length<=l.length
|[],k=>B8 _
|none::l,k=>C5 (NI half l (k+1)) (T5 _)
|some b::l,k=>Q5 (NI half l (k+1))
theorem PairedM.getL{α β:Type}{F:α->β->Prop}:∀{l:List α}{m:List β}{i:Nat}{x:α},Paired F l m->l[i]?=n_ x->∃y,m[i]?=n_ y/\F x y
|_,_,_,_,.nil,e=>by simp at e
|_,_,0,_,.cons r _,e=>by simp at e;subst e;exact⟨_,Z,r⟩
|_,_,i+1,x,.cons _ t,e=>by
 exact xea (PairedM.getL (i:=i) (x:=x) t (by simpa using e)) λy a b=>⟨y,by simpa using a,b⟩
def Rk(H:Hp)(t:R_)(b:Bx):Prop:=H t=n_ (.tup (b.ns.map V.int))
theorem Px{β:Type}{K:O_}{k:Nat}{cs:J_}{g:TG}{tc:TT}{o:TE}{σ:St}{H:Hp}{fin:List V->Hp->Prop}{D:Addr->β->Prop}{L:R_}{f:H_}{bs:List β}(c:β->Int)(r:H L=n_ (.lst (f.map V.ref)))(n:Paired D f bs)(few:f.length<1000)
  (u:∀t b a N,D t b->a.length<sizeLine->N (a++[.int (c b)]) H->Bt k cs g tc o σ (.ref t) a H N) (s:fin ((bs.map c).map V.int) H):FK k cs g tc o (Itl K L) σ H fin:=by
 have w:=A1e n;refine CT (xs:=f.map V.ref) (λj a e=>H=e/\a=((bs.take j).map c).map V.int) ⟨Z,Z⟩ (λj a e _ z=>z.1▸SqL.of r) ?_ ?_
 .intro j v a e m i;obtain⟨rfl,rfl⟩:=i;rw[C0]at m;refine xea (D5.mp m) λt q h=>?_;subst h;refine xea (PairedM.getL n q) λb p d=>u t b _ _ d (by rw[B7,B7,L7];exact DU A3) ⟨Z,?_⟩;rw[F7,p,C7,C7];rfl
 .intro a e l;obtain⟨rfl,rfl⟩:=l;rw[B7,w,J0];exact s
section
variable{P:N_}{w:Q_}{K:O_}{mg:C_}{n8:T_}{a:Ad}
inductive Ys(vs:List V)(H:Hp)(Q:VK):Prop
|mk (t:R_) (b:Bx) (dx dy:Int) (_:vs=[.ref t,.int dx,.int dy]) (_:Rk H t b) (_:∀t',H t'=o0->Q (.ref t') (upd H t' (.tup [.int (b.l+dx),.int (b.t+dy),.int b.w,.int b.h]))):Ys vs H Q
def LW:Sp:=λvs H Q _=>Ys vs H Q
theorem aBy(F:Fun K "shifted_box" "shifted_box" Ir f fd)(T:Top K mg a):AM P w K mg n8 CX0 1 f fd QV LW:=by
 refine F.ok PP D_9 λe A d s H vs Q E g h=>?_
 obtain⟨t,b,dx,dy,rfl,c,k⟩:=h;have c:=c;refine⟨_,(Ah (Au (BH (AT AR (Aj Al (pv 0) Ac R_9) (pv 1) (AT AR (Aj Al (pv 0) Ac R_9) (pv 2) (Aa (Aj Al (pv 0) Ac R_9) (Aa (Aj Al (pv 0) Ac R_9) Ab))))))),?_⟩;refine xwi Z Z Z (SqT.of c) (Ai (j:=0) Z) (xwb Z Z Z (xwi Z Z Z (SqT.of c) (Ai (j:=1) Z) (xwb Z Z Z (xwi Z Z Z (SqT.of c) (Ai (j:=2) Z) (xwi Z Z Z (SqT.of c) (Ai (j:=3) Z) ⟨S_4,λt' n=>k t' n⟩)))))
inductive Yw(vs:List V)(H:Hp)(Q:VK):Prop
|mk (L:R_) (ts:H_) (bs:List Bx) (_:vs=[.ref L]) (_:H L=n_ (.lst (ts.map V.ref))) (_:Paired (Rk H) ts bs) (_:bs≠[]) (_:ts.length<1000) (_:∀t' H',Ay H H'->Rk H' t' (QB bs)->Q (.ref t') H'):Yw vs H Q
def Pg:Sp:=λvs H Q _=>Yw vs H Q
theorem aBs(F:Fun K "least_box" "least_box" DA f fd)(T:Top K mg a):AM P w K mg n8 CX0 1 f fd Ih Pg:=by
 refine F.ok EB D_9 λaa A S s H vs Q E hr h=>?_
 obtain⟨L,ts,bs,rfl,n,u,ne,few,k⟩:=h;have c:∀m:Bx->Int,bs.map m≠[]:=λm z=>ne (P6.mp z);refine⟨_,(Ae (Am (i:=1) EB.nd Z O_9 (AN (Gm Z) Z T.aAJ A3b (Aa (BT Z (Bl.of (So:=Ak DA) (No:=FG) (N:=["box"]) (k:=1) (cs:=[]) Z Z A0) (Cb (pv 0)) (λ_ _ _=>(AW (i:=0) A0 Z Z)) (λ_ _ _=>Bm) (λ_ _ _=>(Aj (DK (K:=K) Z) (pv 0) Ac R_9))) Ab))) (Ae (Am (i:=2) EB.nd Z O_9 (AN (Gm Z) Z T.aAJ A3b (Aa (BT Z (Bl.of (So:=Ak DA) (No:=FG) (N:=["box"]) (k:=1) (cs:=[]) Z Z A0) (Cb (pv 0)) (λ_ _ _=>(AW (i:=0) A0 Z Z)) (λ_ _ _=>Bm) (λ_ _ _=>(Aj (DK (K:=K) Z) (pv 0) Ac R_9))) Ab))) (Ae (Am (i:=3) EB.nd Z O_9 (AN (Ml Z) Z T.aAM A4b (Aa (BT Z (Bl.of (So:=Ak DA) (No:=FG) (N:=["box"]) (k:=1) (cs:=[]) Z Z A0) (Cb (pv 0)) (λ_ _ _=>(AW (i:=0) A0 Z Z)) (λ_ _ _=>Bm) (λ_ _ _=>(AE AR (Aj (DK (K:=K) Z) (pv 0) Ac R_9) (Aj (DK (K:=K) Z) (pv 0) Ac R_9)))) Ab))) (Ae (Am (i:=4) EB.nd Z O_9 (AN (Ml Z) Z T.aAM A4b (Aa (BT Z (Bl.of (So:=Ak DA) (No:=FG) (N:=["box"]) (k:=1) (cs:=[]) Z Z A0) (Cb (pv 0)) (λ_ _ _=>(AW (i:=0) A0 Z Z)) (λ_ _ _=>Bm) (λ_ _ _=>(AE AR (Aj (DK (K:=K) Z) (pv 0) Ac R_9) (Aj (DK (K:=K) Z) (pv 0) Ac R_9)))) Ab))) (Ah (Au (BH (Aa (pv 1) (Aa (pv 2) (AT Bq (pv 3) (pv 1) (AT Bq (pv 4) (pv 2) Ab))))))))))),?_⟩;refine xq1 Z ⟨L,Z,⟨_,SqL.of n⟩,Px (·.l) n u few (λt b e N d g nx=>⟨⟨[n_ (.ref t)],Z,Z⟩,g,FY (xwi Z Z Z (SqT.of d) (Ai (j:=0) Z) nx)⟩) λY h1=>?_⟩;refine⟨Y,(xq1 Z ⟨SqL.of Af,c _,λm1 B I=>?_⟩)⟩;obtain rfl:=aBc B I;have v:=AH (o:=.lst ((bs.map (·.l)).map V.int)) h1;generalize upd H Y (.lst ((bs.map (·.l)).map V.int))=H1 at v⊢;have p:=v _ _ n;have U:=PairedM.imp (λt b z=>v _ _ z) u;refine xq1 Z ⟨L,Z,⟨_,SqL.of p⟩,Px (·.t) p U few (λt b e N d g nx=>⟨⟨[n_ (.ref t)],Z,Z⟩,g,FY (xwi Z Z Z (SqT.of d) (Ai (j:=1) Z) nx)⟩) λq2 h2=>?_⟩;refine⟨q2,(xq1 Z ⟨SqL.of Af,c _,λm2 C M=>?_⟩)⟩;obtain rfl:=aBc C M;have x:=v.trans (AH (o:=.lst ((bs.map (·.t)).map V.int)) h2);generalize upd H1 q2 (.lst ((bs.map (·.t)).map V.int))=H2 at x⊢;have q:=x _ _ n;have W:=PairedM.imp (λt b z=>x _ _ z) u;refine xq1 Z ⟨L,Z,⟨_,SqL.of q⟩,Px (λb=>b.l+b.w) q W few (λt b e N d g nx=>⟨⟨[n_ (.ref t)],Z,Z⟩,g,FY (xwi Z Z Z (SqT.of d) (Ai (j:=0) Z) (xwi Z Z Z (SqT.of d) (Ai (j:=2) Z) (xq2 Z Z nx)))⟩) λq3 h3=>?_⟩;refine⟨q3,(xq1 Z ⟨SqL.of Af,c _,λm3 D O=>?_⟩)⟩;obtain rfl:=aBf D O;have y:=x.trans (AH (o:=.lst ((bs.map λb=>b.l+b.w).map V.int)) h3);generalize upd H2 q3 (.lst ((bs.map λb=>b.l+b.w).map V.int))=H3 at y⊢;have r:=y _ _ n;have X:=PairedM.imp (λt b z=>y _ _ z) u;refine xq1 Z ⟨L,Z,⟨_,SqL.of r⟩,Px (λb=>b.t+b.h) r X few (λt b e N d g nx=>⟨⟨[n_ (.ref t)],Z,Z⟩,g,FY (xwi Z Z Z (SqT.of d) (Ai (j:=1) Z) (xwi Z Z Z (SqT.of d) (Ai (j:=3) Z) (xq2 Z Z nx)))⟩) λq4 h4=>?_⟩;refine⟨q4,(xq1 Z ⟨SqL.of Af,c _,λm4 G R=>?_⟩)⟩;obtain rfl:=aBf G R;have s4:=y.trans (AH (o:=.lst ((bs.map λb=>b.t+b.h).map V.int)) h4);generalize upd H3 q4 (.lst ((bs.map λb=>b.t+b.h).map V.int))=H4 at s4⊢;exact xw3 Z Z Z (xwb Z Z Z (xw2 Z Z (xq2 Z Z ⟨S_4,λt5 h5=>k t5 _ (s4.trans (AH h5)) Af⟩)))
inductive aDM(a:Ad)(n:Nat)(vs:List V)(H:Hp)(Q:VK):Prop
|mk (g:GA) (G:Gv) (i l:Nat) (_:vs=[.ref g.p,.int i]) (_:Be a H g G) (_:Ao G i l) (_:l<n) (_:G.length<9000000) (_:(Cj G l i=o0->∀H',FrQ g H H'->Be a H' g G->Q .non H')) (_:∀b,Cj G l i=n_ b->∀t H',FrQ g H H'->Be a H' g G->Rk H' t b->Q (.ref t) H'):aDM a n vs H Q
def TY(a:Ad)(n:Nat):Sp:=λvs H Q _=>aDM a n vs H Q
inductive aDY(a:Ad)(n:Nat)(vs:List V)(H:Hp)(Q:VK):Prop
|mk (g:GA) (G:Gv) (i l:Nat) (b:Bx) (_:vs=[.ref g.p,.int i]) (_:Be a H g G) (_:Ao G i l) (_:l<n) (_:G.length<9000000) (_:Cj G l i=n_ b) (_:∀t H',FrQ g H H'->Be a H' g G->Rk H' t b->Q (.ref t) H'):aDY a n vs H Q
def aEB(a:Ad)(n:Nat):Sp:=λvs H Q _=>aDY a n vs H Q
theorem Se(m:Nat)(e:l=(m:Int)+1):(1:Int)*2^(l-1).toNat=2^m:=by
 rw[e,Int.one_mul,show((m:Int)+1-1).toNat=m by lia]
theorem aFA(F:Fun K "measured" "Grove.measured" DH f fd)(T:Top K mg a)(hd:1<=d)(aB:Cal P w K mg n8 CX0 1 "shifted_box" QV LW)(bD:Cal P w K mg n8 CX0 1 "least_box" Ih Pg)(bA:Co P w K mg n8 CX0 d a.N1 "boxed" LP (TY a n)):AM P w K mg n8 CX0 (d+1) f fd LP (aEB a (n+1)):=by
 refine F.ok BG (λvs H Q E h=>?_) (λas A ar s H vs Q E hr h=>?_)
 .obtain⟨g,G,i,l,b,rfl,_⟩:=h;rfl
 .obtain⟨g,G,i,l,b,rfl,N,hl,ln,few,eb,k⟩:=h;refine xea (id hl) λq0 e0 l0=>⟨_,(Ae (Am (i:=2) BG.nd Z O_9 (Aj Az (AF (pv 0) Z) (pv 1) R_9)) (Ae (AO (AA CQ (pv 2) Ac (AD _)) (Ah (Au (BH (AG (AG (AG (AG Ab))))))) AB) (Ae (Am (i:=3) BG.nd Z O_9 (AE Om Ac (AE Bq (pv 2) Ac))) (Ae (Am (i:=4) BG.nd Z O_9 (BO Ab)) (Ae (BX A1c Z (Pn o4 Z T.l_ (Aa (Aj Az (AF (pv 0) Z) (pv 1) R_9) Ab)) (Qg Z (DS (Bd (i:=5) BG.nd Z O_9) (DS (Bd (i:=6) BG.nd Z O_9) Ny))) (Ae (Am (i:=7) BG.nd Z O_9 (AK (pv 0) bA (rm hr) Aq (Aa (pv 6) Ab))) (Ah (AO (AA SG (pv 7) Cg (AD _)) (Ah (BP (Du A1g A1h A2a BL (pv 4) (Aa (Ar aB (rm hr) Z Aq (Aa (pv 7) (AT FT (pv 3) (AE Bf (pv 5) Ac) (AT FT (pv 3) (AE CF (pv 5) Ac) Ab)))) Ab)))) AB)))) (Ah (Au (Ar bD (rm hr) Z Aq (Aa (pv 4) Ab))))))))),?_⟩
  refine⟨_,Z,g.p,_,g.dx,_,_,Z,N.at'.hp,T.L0,T.Q2,Fo g,_,Z,g.lv,_,(i:Int),.int q0.lev,Z,Z,SqL.of N.at'.lv,Ai (by rw[C0,e0];rfl),?_⟩;cases l with
  |zero =>
   rw[l0];refine xq1 Z ⟨Z,(xq1 Z (BR ⟨S_4,λt ht=>?_⟩))⟩;have e:b=⟨0,0,1,1⟩:=by
    have eb:(if i=0 then o0 else n_ (⟨0,0,1,1⟩:Bx))=n_ b:=eb;split at eb
    .cases eb
    .cases eb;rfl
   subst e;have sm:=AH (o:=.tup [.int 0,.int 0,.int 1,.int 1]) ht;exact k t _ (Ay.frq sm) (N.same sm) Af
  |succ m =>
   have aq:q0.lev=(m:Int)+1:=by rw[l0];lia
   refine xq1 Z ⟨Z,(xq1 Z ?_)⟩;rw[A0f (by intro z;injection z with z;lia)];refine xe5 (BI N.ok hl) λq x y z w I=>xea N.at'.pt λts h3 h4=>xea (PairedM.get h4 I.g) λt et ht=>?_;have ht:=ht;have nt:=N.ne_am ht (by intro l z;cases z);refine Ba (xwb Z Z Z (xq2 Z Z ⟨⟨by lia,by have:=(N.ok.lev e0).2;lia,by decide⟩,?_⟩));rw[show(λ(i j:Int)=>V.int (i*2^j.toNat)) 1 (q0.lev-1)=V.int (2^m)from A2c V.int (Se m aq)];refine⟨S_0,λL hL=>?_⟩;have m1:=A1a (Av N.at'.lv hL);have m2:=A1a (Av h3 hL);have m3:=A1a (Av N.br hL);have s1:=AH (o:=.lst []) hL;have ae:upd H L (.lst []) L=n_ (.lst []):=Af;generalize upd H L (.lst [])=H1 at s1 ae⊢;have ac:=N.same s1;have am:=s1 _ _ h3;have an:=s1 _ _ ht;generalize C:[Cj G m x,Cj G m y,Cj G m z,Cj G m w]=r;have D:r.length=4:=by rw[<-C];rfl
   have ab:Cj G (m+1) i=QU (2^m) r:=by rw[Gn I,C]
   have ad:∀(j k:Nat),q.parts[j]?=n_ (k:Int)->r[j]?=n_ (Cj G m k):=by
    intro j k e;rw[I.ps]at e;rw[<-C]
    match j,e with
    |0,e=>have e:=e;rw[show x=k from A1b (A1f e)];rfl
    |1,e=>have e:=e;rw[show y=k from A1b (A1f e)];rfl
    |2,e=>have e:=e;rw[show z=k from A1b (A1f e)];rfl
    |3,e=>have e:=e;rw[show w=k from A1b (A1f e)];rfl
    |j+4,e=>simp at e
   refine xwf Z Z ac.at'.hp T.L0 T.L4 (Cs g) (xwi Z Z Z (SqL.of am) (Ai (by rw[C0,et];rfl)) ⟨t,Z,⟨_,SqT.of an⟩,?_⟩);refine NM (b:=o4) (xs:=q.parts.map V.int) (λj σ S=>∃(us:H_)(u5 u6 u7:Option V),σ=[n_ (.ref g.p),n_ (.int i),n_ (.int q0.lev),n_ (.int (2^m)),n_ (.ref L),u5,u6,u7]/\FrQ g H S/\Be a S g G/\S L=n_ (.lst (us.map V.ref))/\Paired (Rk S) us (Ex (2^m) 0 (r.take j))) ⟨[],o0,o0,o0,Z,Ay.frq s1,ac,ae,.nil⟩ (λj σ S _ ⟨_,_,_,_,_,fr,_⟩=>SqT.of (fr _ _ ht nt.1 nt.2)) ?_ ?_
   .intro j v σ S T' ev ah nT;refine CM ah λus u5 u6 u7 U fr W Y pr=>?_;clear ah;subst U;refine AX (I.mem ev) λk' aj hk ek=>?_;subst aj;have eo:=ad j k' ek;have hj:j<4:=by rw[<-D];exact(B9.mp eo).1
    have lu:us.length<=4:=by
     rw[A1e pr];have:=NI (2^m) (r.take j) 0;rw[L7]at this;lia
    have s2:=AH (o:=.tup [.int j,.int k']) nT;refine RJ Af ?_;generalize upd S T' (.tup [.int j,.int k'])=H3 at s2⊢;have R:=W.same s2;have ge:Ex (2^m) 0 (r.take (j+1))=Ex (2^m) 0 (r.take j)++Ex (2^m) j [Cj G m k']:=by
     rw[F7,eo,Q4,QC,L7,D,N7,Nat.min_eq_left (Q7 hj)]
    have nL:∀{B:Hp},FrQ g H3 B->B L=n_ (.lst (us.map V.ref)):=λ{B} f4=>by
     have:=s2 _ _ Y;have n:=R.ne_am this (by intro l z;cases z);exact f4 _ _ this n.1 n.2
    have nP:∀{B:Hp},FrQ g H3 B->Paired (Rk B) us (Ex (2^m) 0 (r.take j)):=λ{B} f4=>PairedM.imp (λt b z=>by
     have:=s2 _ _ z;have n:=R.ne_am this (by intro l z;cases z);exact f4 _ _ this n.1 n.2) pr
    refine xq1 Z ⟨g.p,g.dx,(xq1 Z ⟨R.at'.hp,UB g,(xq1 Z ⟨g,G,k',m,Z,R,hk,by lia,few,λen B f4 X=>?_,λu ak t4 B f4 X ao=>?_⟩)⟩)⟩
    .refine xq1 Z ⟨Z,(xq1 Z (Ba ⟨us,_,_,_,Z,(fr.trans (Ay.frq s2)).trans f4,X,nL f4,?_⟩))⟩;rw[ge,en];show Paired _ us (_++[]);rw[Z9];exact nP f4
    .refine xq1 Z ⟨Z,(xq1 Z (BR ?_))⟩;refine xq1 Z ⟨.inl ⟨Z,_,SqL.of (nL f4)⟩,(xw3 Z Z Z (xq2 Z Z ⟨(by show(0:Int)<2;decide),(xq2 Z Z ⟨.inr ⟨by lia,by lia⟩,(xw2 Z Z (xq2 Z Z ⟨⟨by decide,by decide⟩,(xq2 Z Z ⟨.inr ⟨by lia,by lia⟩,?_⟩)⟩))⟩)⟩))⟩;refine⟨t4,u,_,_,Z,ao,λt5 h5=>?_⟩;have s5:=AH (o:=.tup [.int (u.l+2^m*((j:Int)%2)),.int (u.t+2^m*((j:Int)/2)),.int u.w,.int u.h]) h5;have ag:Rk (upd B t5 (.tup [.int (u.l+2^m*((j:Int)%2)),.int (u.t+2^m*((j:Int)/2)),.int u.w,.int u.h])) t5 (shB (2^m) j u):=Af;generalize upd B t5 (.tup [.int (u.l+2^m*((j:Int)%2)),.int (u.t+2^m*((j:Int)/2)),.int u.w,.int u.h])=H5 at s5 ag⊢;have aa:=s5 _ _ (nL f4);have al:=X.same s5;refine⟨L,(xq2 Z Z ⟨aa,by rw[B7];exact DU (D6 lu A4),?_⟩)⟩;have M:∀{c:R_}{l:List V},H5 c=n_ (.tup l)->upd H5 L (.lst (us.map V.ref++[.ref t5])) c=n_ (.tup l):=λ{c l} e=>by rw[Ax (AI e aa A6)];exact e
     refine⟨us++[t5],_,_,_,Z,?_,al.put aa m1 m2 m3,by rw[Af,C7];rfl,?_⟩
     .intro c o e n1 n2;have e5:=s5 _ _ (((fr.trans (Ay.frq s2)).trans f4) _ _ e n1 n2);rw[Ax (Av e hL)];exact e5
     .rw[ge,ak];exact A3f (PairedM.imp (λc b z=>M (s5 _ _ z)) (nP f4)) (M ag)
   .intro σ S ai;refine CM ai λus u5 u6 u7 U fr W Y pr=>?_;clear ai;subst U;rw[B7,show q.parts.length=r.length by rw[I.ps,D];rfl,J0]at pr;have O:QU (2^m) r=n_ b:=by rw[<-ab];exact eb
    have lu:us.length<=4:=by
     rw[A1e pr];have:=NI (2^m) r 0;lia
    have e3:Ex (2^m) 0 r≠[]/\QB (Ex (2^m) 0 r)=b:=by
     unfold QU at O;split at O
     .cases O
     .rename_i b1 r1 eg;rw[eg];exact⟨A6,A1f O⟩
    refine xq1 Z ⟨L,us,_,Z,Y,pr,e3.1,D6 lu A4,λt' H' s' af=>?_⟩;rw[e3.2]at af;exact k t' H' (fr.trans (Ay.frq s')) (W.same s') af
theorem aAp(h:l<=48):((DE 48).map V.int)[l]?=n_ (.int (bareN l:Int)):=by
 unfold DE;rw[C0,C0,T1 (D6 h A4)];rfl
theorem aCm(F:Fun K "boxed" "Grove.boxed" Ft f fd)(T:Top K mg a)(cY:Co P w K mg n8 CX0 d a.N1 "measured" LP (aEB a n)):AM P w K mg n8 CX0 (d+1) f fd LP (TY a n):=by
 refine F.ok EE D_9 λaa A U s H vs Q E S h=>?_
 obtain⟨g,G,i,l,rfl,c,x,ln,few,k1,Y⟩:=h;refine xea (id x) λq0 W l0=>?_;have I:l<=48:=by have:=(c.ok.lev W).2;lia
 refine xea c.bx λks D y=>?_;have lk:=y.keys.len;obtain⟨r,eg⟩:=c.g0;have V:=LV c.ok eg l i I x;refine⟨_,(Ae (AO (AA CQ (pv 1) (Aj Az (AF (pv 0) Z) (Aj Az (AF (pv 0) Z) (pv 1) R_9) R_9) (AD _)) (Ah (Au Cg)) AB) (Ae (Am (i:=2) EE.nd Z O_9 (IW (DM S) (AF (pv 0) Z) (pv 1) ⟨Z,Z,Z,Z⟩)) (Ae (AO (AA El (pv 2) Cg (AD _)) (Ae (Am (i:=2) EE.nd Z O_9 (AK (pv 0) cY (rm S) Aq (Aa (pv 1) Ab))) (Ah (Fw (DM S) (AF (pv 0) Z) (pv 1) (pv 2) Z))) AB) (Ah (Au (pv 2)))))),?_⟩;refine xw2 Z Z (xq5 c.at'.hp T.L0 T.Q3 (IO g) (xwf Z Z c.at'.hp T.L0 T.Q2 (Fo g) (xwi Z Z Z (SqL.of c.at'.lv) (Ai (by rw[C0,W];rfl)) (xq4 Z Z (SqL.of c.br) (by rw[l0];exact Ai (aAp I)) ⟨Z,(xq1 Z ?_)⟩))));refine IN (λO=>?_) (λO=>?_)
 .have ei:i=bareN l:=by
   have:=A2b O;injection this with this
   exact A1b this
  exact k1 (V.mpr ei) H (FrQ.refl g H) c
 .have ne:¬i=bareN l:=λz=>O (by rw[z];exact A0e Z);obtain⟨b,B⟩:∃b,Cj G l i=n_ b:=by
   cases e:Cj G l i with
   |none=>exact absurd (V.mp e) ne
   |some b=>exact⟨b,Z⟩
  refine xwf Z Z c.at'.hp T.L0 T.l7 (aA7 g) ⟨g.bx,Z,.inl ⟨_,.inl D⟩,(xq1 Z ⟨_,GW.k (k:=Sum.inl (i:Int)) D,?_⟩)⟩;cases e:Bv ks (Sum.inl (i:Int))with
  |some v =>
   refine Go (y.val i v e) λl' b' t R C M ht=>?_;subst M;have el:=A1b (R.uniq x);subst el;rw[B]at C;cases C;exact xq1 Z ⟨Z,(xq1 Z (Ba (xq1 Z (Y b B t H (FrQ.refl g H) c ht))))⟩
  |none =>
   refine xq1 Z ⟨Z,(xq1 Z (BR (xq1 Z ⟨g.p,g.dx,(xq1 Z ⟨c.at'.hp,Uz g,(xq1 Z ⟨g,G,i,l,b,Z,c,x,ln,few,B,λt H2 f2 o u=>?_⟩)⟩)⟩)))⟩;refine xea o.bx λks2 q m=>?_;have ab:=m.keys.len;obtain⟨N,X⟩:=o.bx_put q (ks2:=DR ks2 (Sum.inl (i:Int)) (.ref t)) ⟨m.keys.put x.lt _,λj v L=>by
    rw[FC]at L;split at L
    .rename_i z;injection z with z
     have:j=i:=A1b z;subst this;cases L;exact⟨l,b,t,x,B,Z,u⟩
    .exact m.val j v L⟩
   have nt:=o.ne_am u (by intro l z;cases z);exact xw2 Z Z (xq5 o.at'.hp T.L0 T.l7 (aA7 g) (xq1 Z ⟨g.bx,(xq1 Z ⟨Mq.k (k:=Sum.inl (i:Int)) q (DU A3),(xq1 Z (Y b B t _ (f2.trans X) N (X _ _ u nt.1 nt.2)))⟩)⟩))
theorem aBm{j:E_}{k:R_}(F:Fun K "boxed" "Grove.boxed" Ft f j)(q:Fun K "measured" "Grove.measured" DH k b)(T:Top K mg a)(r:Ri K a.N1 "boxed" f)(p:CY K j LP [])(e:Ri K a.N1 "measured" k)(c:CY K b LP [])
 (t:Cal P w K mg n8 CX0 1 "shifted_box" QV LW) (u:Cal P w K mg n8 CX0 1 "least_box" Ih Pg):∀n,AM P w K mg n8 CX0 (2*n+2) f j LP (TY a n)
|0=>by
 refine F.ok EE (λvs H Q E h=>?_) (λv A o s H vs Q E x h=>?_)
 .obtain⟨g,G,i,l,rfl,_,_,m,_⟩:=h;exact absurd m (N3 _)
 .obtain⟨g,G,i,l,rfl,_,_,m,_⟩:=h;exact absurd m (N3 _)
|n+1=>aCm F T ⟨⟨k,b,aFA (d:=2*n+2) q T A3 t u ⟨⟨f,j,aBm F q T r p e c t u n,r,p⟩,T.L0⟩,e,c⟩,T.L0⟩
inductive aAh(a:Ad)(vs:List V)(H:Hp)(Q:VK):Prop
|mk (g:GA) (G:Gv) (i l:Nat) (_:vs=[.ref g.p,.int i]) (_:Be a H g G) (_:Ao G i l) (_:G.length<9000000) (_:(Cj G l i=o0->∀H',FrQ g H H'->Be a H' g G->Q .non H')) (_:∀b,Cj G l i=n_ b->∀t H',FrQ g H H'->Be a H' g G->Rk H' t b->Q (.ref t) H'):aAh a vs H Q
def Vv(a:Ad):Sp:=λvs H Q _=>aAh a vs H Q
theorem aCw(F:Fun K "span" "Grove.span" Jr f fd)(T:Top K mg a)(m:Co P w K mg n8 CX0 2 a.N1 "check_square" LP (WL a))(n:Co P w K mg n8 CX0 100 a.N1 "boxed" LP (TY a 49)):AM P w K mg n8 CX0 101 f fd LP (Vv a):=by
 refine F.ok QS D_9 λo A j s H vs Q E k h=>?_
 obtain⟨g,G,i,l,rfl,b,c,few,r,t⟩:=h;refine⟨_,(Ae (BP (AK (pv 0) m (rm k) Aq (Aa (pv 1) Ab))) (Ah (Au (AK (pv 0) n (rm k) Aq (Aa (pv 1) Ab))))),?_⟩;have d:l<49:=by
  refine xea (id c) λq e u=>?_;have:=(b.ok.lev e).2;lia
 refine xq1 Z ⟨g.p,g.dx,(xq1 Z ⟨b.at'.hp,UA g,(xq1 Z ⟨g,G,i,Z,b.at',c.lt,?_⟩)⟩)⟩;exact xq1 Z ⟨g.p,g.dx,(xq1 Z ⟨b.at'.hp,UB g,(xq1 Z ⟨g,G,i,l,Z,b,c,d,few,r,t⟩)⟩)⟩
end
def atN(ns:I_)(k:Int):Int:=ns.getD k.toNat 0
section
variable{P:N_}{w:Q_}{K:O_}{mg:C_}{n8:T_}{a:Ad}
inductive aF5(K:O_)(vs:List V)(H:Hp)(Q:VK):Prop
|mk (l:R_) (ns:I_) (k:Int) (_:vs=[.ref l,.int k]) (_:SqL K H l (ns.map V.int)) (_:0<=k) (_:Q (.int (atN ns k)) H):aF5 K vs H Q
def YJ(K:O_):Sp:=λvs H Q _=>aF5 K vs H Q
theorem aGw(F:Fun K "_law_at" "_law_at" Og f fd)(T:Top K mg a):AM P w K mg n8 CX0 1 f fd Zb (YJ K):=by
 refine F.ok VD D_9 λi A d s H vs Q E m h=>?_
 obtain⟨l,ns,k,rfl,g,j,q⟩:=h;refine⟨_,(Ae (AO (AA IZ (pv 1) (AN BJ Z T.j_ A2g (Aa (pv 0) Ab)) (AD _)) (Ah (Au (Aj Az (pv 0) (pv 1) R_9))) AB) (Ah (Au Ac))),?_⟩;refine⟨_,Z,_,Z,l,_,Z,.inl g,_,_,Z,Z,_,Z,?_⟩;obtain⟨n,rfl⟩:=M0 j;refine IN (λc=>?_) (λc=>?_)
 .have b:n<ns.length:=by
   have:=A2b c;rw[B7]at this;lia
  refine⟨_,Z,_,Z,l,_,n,.int ns[n],Z,Z,g,Ai (by rw[C0,C4 b];rfl),?_⟩;have e:atN ns (n:Int)=ns[n]:=by
   unfold atN;rw[M4,D7,C4 b];rfl
  rw[e]at q;exact q
 .have b:ns.length<=n:=by
   have:¬(n:Int)<((ns.map V.int).length:Int):=λz=>c (A0e z);rw[B7]at this;lia
  have e:atN ns (n:Int)=0:=by
   unfold atN;rw[M4,D7,Q0 b];rfl
  rw[e]at q;exact q
end
inductive aDT(K:O_)(vs:List V)(H:Hp)(Q:VK):Prop
|mk (a:R_) (ns:I_) (_:vs=[.ref a]) (_:SqL K H a (ns.map V.int)) (_:ns.length<=63) (_:∀H',Q (.bl o4) H'):aDT K vs H Q
def WK(K:O_):Sp:=λvs H Q _=>aDT K vs H Q
end J
namespace J
open PySem L2
def Ap(g:GA)(x:R_):Prop:=x≠g.lv/\x≠g.pt/\x≠g.nm
theorem Ap.new(h:AQ a H g G)(n:H x=o0):Ap g x:=by
 exact xea h.pt λc b _=>⟨A1a (Av h.lv n),A1a (Av b n),A1a (Av h.nm n)⟩
theorem Fr.get(f:Fr g H a)(p:Ap g x)(e:H x=n_ o):a x=n_ o:=f _ _ e p.1 p.2.1 p.2.2
theorem Fr.tup{a:Ad}{g:GA}{G:Gv}{H b:Hp}{x:R_}{l:List V}(f:Fr g H b)(h:AQ a H g G)(e:H x=n_ (.tup l)):b x=n_ (.tup l):=by
 exact xea h.pt λus c _=>f _ _ e (AI e h.lv A6) (AI e c A6) (AI e h.nm A6)
theorem AJ.mono(h:AJ G a n)(e:n<=m):AJ G a m:=⟨h.ok,h.pre,C5 h.few A3⟩
theorem Pl(l:Nat):(0:Int)<2^l:=Int.pow_pos A4
theorem aC4(h:l<64):(2:Int)^l<2^64:=by
 have:(2:Nat)^l<2^64:=X6 A4 h
 exact_mod_cast this
theorem NY{d:Int}(a:0<=d)(b:d<=9):d.natAbs.log2<1920:=by
 obtain⟨m,rfl⟩:=M0 a;exact(show ∀m:Nat,m<10->(m:Int).natAbs.log2<1920 by decide +kernel) m (by omega)
theorem FB(h:n<=100000):n<=sizeLine:=C5 h A4
abbrev TQ:Str:=Str.ofString "01234567*"
theorem WF:∀m:Nat,m<9->TQ.cps.toList[m]?=n_ (if m=8 then 42 else 48+m):=by decide +kernel
def MC(n:Int)(k:Nat):Bool:=decide (V.int (Builtin.bitAnd (n/2^k) 1)=V.int 1)
def LI(n:Int):List Int:=((List.range 9).filter (MC n)).map λ(k:Nat)=>(k:Int)
theorem aCi:∀m:Nat,m<511->LI ((m:Int)+1)≠[]:=by decide +kernel
theorem aBk(n:Int):(LI n).Pairwise (· < ·):=by
 unfold LI;rw[S7];have:((List.range 9).filter (MC n)).Pairwise (· < ·):=List.pairwise_lt_range.sublist List.filter_sublist;exact this.imp λh=>by omega
theorem aCh(n:Int):∀m∈LI n,0<=m/\m<=8:=λm c=>by
 refine xea (D0.mp c) λk b a=>?_;subst a;have:=M8.mp (V0.mp b).1;omega
seal L2.PA L2.PE L2.PS L2.PSs L2.PT L2.PW
abbrev amT:Str:=Str.ofString "amount"
abbrev plT:Str:=Str.ofString "places"
def unO:Option Int->Int
|none=>8
|some d=>d
inductive Dg(H:Hp):Addr->Bw->Prop where
|am {q l:R_} {s:Int} {ns:I_} (h:H q=n_ (.tup [.str amT,.int s,.ref l])) (hl:H l=n_ (.lst (ns.map V.int))):Dg H q (.am s ns)
|pl {q l:R_} {ws:List (Option Int)} (h:H q=n_ (.tup [.str plT,.ref l])) (hl:H l=n_ (.lst (ws.map λw=>V.int (unO w)))):Dg H q (.pl ws)
structure JX(H:Hp)(q:R_)(c:AY):Prop where
ex:∃(l:R_)(ds:H_),H q=n_ (.tup [.int (unO c.cell),.ref l,.int c.makes])/\H l=n_ (.lst (ds.map V.ref))/\Paired (Dg H) ds c.conds
structure Il(H:Hp)(q:R_)(r:AC):Prop where
ex:∃cs:List Addr,H q=n_ (.lst (cs.map V.ref))/\Paired (JX H) cs r
theorem Dg.same{q:R_}(s:Ay H b)(h:Dg H q d):Dg b q d:=by
 cases h with
 |am h a=>exact .am (s _ _ h) (s _ _ a)
 |pl h a=>exact .pl (s _ _ h) (s _ _ a)
theorem JX.same{q:R_}{c:AY}(s:Ay H a)(h:JX H q c):JX a q c:=by
 exact AS h.ex λl ds b d e=>⟨l,ds,s _ _ b,s _ _ d,Paired.imp (λ_ _ z=>z.same s) e⟩
theorem Il.same{q:R_}(s:Ay H a)(h:Il H q r):Il a q r:=by
 exact xea h.ex λcs b c=>⟨cs,s _ _ b,Paired.imp (λ_ _ z=>z.same s) c⟩
theorem aFy(h:wOk x):0<=unO x/\unO x<=8:=by
 cases x with
 |none=>exact⟨by decide,by decide⟩
 |some d=>exact⟨h.1,S8 h.2⟩
theorem ZO(h:wOk x):atI TQ.cps.toList (unO x)=n_ (wC x):=by
 cases x with
 |none=>exact Ai (WF 8 A4)
 |some d =>
  obtain⟨n,b⟩:=M0 h.1;have c:=h.2;have a:n≠8:=by lia
  show atI TQ.cps.toList d=n_ (48+d.toNat);rw[b,M4];have:=WF n A3;rw[A0d a]at this;exact Ai this
theorem TH(h:wOk x)(y:Int):Dy x y=(decide (unO x=8) || decide (unO x=y)):=by
 cases x with
 |none=>rfl
 |some d =>
  have:=h.2;show decide (d=y)=(decide (d=8) || decide (d=y))
  rw[A0f (Int.ne_of_lt this:¬d=8),Bool.false_or]
theorem aEm(a:List (Option Int)):Str.join (Str.ofString "") (a.map λw=>(⟨#[wC w]⟩:Str))=Bg (.pl a):=by
 have b:Str.ofString "" = (⟨#[]⟩:Str):=by decide +kernel
 rw[b];refine Nu.ext ?_;rw[Tx.FI,Tx.We,O1];show(a.map _).flatten=a.map wC;induction a with
 |nil=>rfl
 |cons x r c=>rw[F8,U0,c,F8];rfl
theorem aBL{ns:I_}(h:∀m∈ns,0<=m/\m<=8):Str.join (Str.ofString "") (ns.map λn=>Str.ofString (toString n))=Ew ns:=by
 have b:Str.ofString "" = (⟨#[]⟩:Str):=by decide +kernel
 rw[b];refine Nu.ext ?_;rw[Tx.FI,Tx.We,O1];show(ns.map _).flatten=ns.map λn=>48+n.toNat;induction ns with
 |nil=>rfl
 |cons n r d =>
  have a:=h n C8;rw[F8,U0,d λm c=>h m (C9 _ c)];show(Str.ofString (toString n)).cps.toList++_=_;rw[Tx.NQ a.1 (W6 a.2 A4)];rfl
theorem Tj{d:Int}(a:0<=d)(b:d<=9):(Str.ofString (toString d)).length=1:=by rw[Tx.NQ a b];rfl
section
variable{P:N_}{w:Q_}{K:O_}{mg:C_}{n8:T_}{a:Ad}
inductive aDb(vs:List V)(H:Hp)(Q:VK):Prop
|mk (c k:Int) (_:vs=[.int c,.int k]) (_:0<=k) (_:k<=1000000) (_:∀i:Int,0<=i->Q (.int i) H):aDb vs H Q
def TX:Sp:=λvs H Q _=>aDb vs H Q
theorem aFD(F:Fun K "_law_mix" "_law_mix" MP f fd):AM P w K mg n8 CX0 1 f fd GL TX:=by
 refine F.ok OJ D_9 λd A b s H vs Q E j h=>?_
 obtain⟨c,k,rfl,e,g,q⟩:=h;refine⟨_,(Ae (Am (i:=2) OJ.nd Z O_9 (AE Bf (AE FT (AE AR (AE AR (AE Bf (pv 0) Ac) (AE FT Ac (pv 1))) Ac) (AE AR Ac (AE FT Ac (pv 1)))) Ac)) (Ah (Au (AE CF (AE Bf (AE FT (AE AR (AE CF (pv 2) Ac) (pv 1)) Ac) Ac) Ac)))),?_⟩;refine xwb Z Z Z ⟨(by show(0:Int)<998244353;decide),(xwb Z Z Z ⟨.inl ⟨by decide,by decide⟩,(xq2 Z Z (xq2 Z Z (xwb Z Z Z ⟨.inl ⟨by decide,by decide⟩,(xq2 Z Z (xq2 Z Z ⟨.inr ⟨by lia,by lia⟩,(xq2 Z Z ⟨(by show(0:Int)<2147483647;decide),?_⟩)⟩))⟩)))⟩)⟩;refine xwb Z Z Z ⟨⟨by decide,by decide⟩,(xwb Z Z Z (xq2 Z Z ⟨.inr ⟨by decide,by decide⟩,(xq2 Z Z ⟨(by show(0:Int)<2147483629;decide),(xq2 Z Z ⟨⟨by decide,by decide⟩,?_⟩)⟩)⟩))⟩;exact q _ A3
inductive aGR(vs:List V)(H:Hp)(Q:VK):Prop
|mk (m:R_) (x y v:Int) (_:vs=[.ref m,.int v]) (_:H m=n_ (.tup [.int x,.int y])) (_:IU x) (_:IU y) (_:∀d:Int,IU d->Q (.int d) H):aGR vs H Q
def ZU:Sp:=λvs H Q _=>aGR vs H Q
theorem aHJ(F:Fun K "_law_state_by" "_law_state_by" FN f fd):AM P w K mg n8 CX0 1 f fd OX ZU:=by
 refine F.ok Oa D_9 λd A b s H vs Q E n h=>?_
 obtain⟨m,x,y,v,rfl,c,k,l,q⟩:=h;refine⟨_,(Ae (AO (AA IZ (AE Bf (pv 1) Ac) Ac (AD _)) (Ah (Au (Aj Al (pv 0) (AE Bf (pv 1) Ac) R_9))) AB) (Ah (Au (AE Bf (AE CF (pv 1) Ac) Ac)))),?_⟩;refine xwb Z Z Z ⟨B2,(xq2 Z Z (xq1 Z ?_))⟩;refine IN (λg=>?_) (λ_=>?_)
 .have i:=A2b g;rcases(show v%3=0\/v%3=1 by lia)with e|e
  .exact xw2 Z Z (xq2 Z Z ⟨B2,(xq4 Z Z (SqT.of c) (by rw[e];exact Ai (j:=0) Z) (q x k))⟩)
  .exact xw2 Z Z (xq2 Z Z ⟨B2,(xq4 Z Z (SqT.of c) (by rw[e];exact Ai (j:=1) Z) (q y l))⟩)
 .exact xwb Z Z Z ⟨⟨by decide,by decide⟩,(xq2 Z Z ⟨B3,q _ ⟨P3 _ A4,O5 _ A4⟩⟩)⟩
def Ws(H:Hp)(m:R_):Prop:=∃x y:Int,H m=n_ (.tup [.int x,.int y])/\IU x/\IU y
theorem Ws.same(s:Ay H b)(h:Ws H m):Ws b m:=by
 exact Cw h λx y c d=>⟨x,y,s _ _ c,d⟩
inductive aGB(vs:List V)(H:Hp)(Q:VK):Prop
|mk (m:R_) (sd j:Int) (_:vs=[.ref m,.int sd,.int j]) (_:Ws H m) (_:0<=j) (_:j<=900000) (_:∀(q:R_)(d:Bw)(H':Hp),Ay H H'->Dg H' q d->d.ok->Q (.ref q) H'):aGB vs H Q
def aHe:Sp:=λvs H Q _=>aGB vs H Q
theorem aG2(F:Fun K "_law_condition_by" "_law_condition_by" CK f fd)(T:Top K mg a)(W:Cal P w K mg n8 CX0 1 "_law_mix" GL TX)(aA:Cal P w K mg n8 CX0 1 "_law_state_by" OX ZU) :
 AM P w K mg n8 CX0 2 f fd DO aHe:=by
 refine F.ok BW D_9 λai A ac s H vs Q E G h=>?_
 obtain⟨m,C,j,rfl,⟨mx,my,hm,I,Y⟩,h0,h1,k⟩:=h;refine⟨_,(Ae (AO (AA CQ (AE Bf (Ar W (rm G) Z Aq (Aa (pv 1) (Aa (pv 2) Ab))) Ac) Ac (AD _)) (Ae (Am (i:=3) BW.nd Z O_9 (BO Ab)) (Ae (BX A1c Z (Cm Z T.U_ (AG Ab)) (Bd (i:=4) BW.nd Z O_9) (Ae (Am (i:=5) BW.nd Z O_9 (Ar W (rm G) Z Aq (Aa (pv 1) (AT AR (AE AR (pv 2) Ac) (pv 4) Ab)))) (Ah (AO (AA CQ (AE Bf (AE CF (pv 5) Ac) Ac) Ac (AD _)) (Ah (BP (Du A1g A1h A2a BL (pv 3) (Aa (Ar aA (rm G) Z Aq (Aa (pv 0) (Aa (pv 5) Ab))) Ab)))) (Ah (BP (Du A1g A1h A2a BL (pv 3) (AG Ab)))))))) (Ah (Au (BH (MT (Aa (pv 3) Ab))))))) AB) (Ae (Am (i:=6) BW.nd Z (Or.inr Z) (AE AR (AE Bf (Ar W (rm G) Z Aq (Aa (pv 1) (AT AR (pv 2) Ac Ab))) Ac) Ac)) (Ah (Au (BH (MT (Aa (Ar aA (rm G) Z Aq (Aa (pv 0) (Aa (Ar W (rm G) Z Aq (Aa (pv 1) (AT AR (pv 2) Ac Ab))) Ab))) (Aa (BT Z (Bl.of (So:=Ak CK) (No:=FW) (N:=["_law_k","_law_mask"]) (k:=1) (cs:=[6]) Z Z A0) (Cm Z T.U_ (AG Ab)) (λ_ _ _=>(AW (i:=0) A0 Z Z)) (λ_ _ _=>(aC5 (AA CQ (AE aFQ (AE aFS (pv 1) (pv 0)) Ac) Ac (AD _)))) (λ_ _ _=>(pv 0))) Ab)))))))),?_⟩;refine xw2 Z Z ⟨C,j,Z,h0,by lia,λv hv=>(xq2 Z Z ⟨B2,Z,(xq1 Z ?_)⟩)⟩;refine IN (λ_=>?_) (λ_=>?_)
 .refine⟨S_0,λl X=>?_⟩;refine⟨8,Z,by decide,by decide,Ce (n:=8) (λi σ p=>∃(c:List (Option Int))(u5 L M:Option V),σ=[n_ (.ref m),n_ (.int C),n_ (.int j),n_ (.ref l),u5,L,M]/\p=upd H l (.lst (c.map λw=>V.int (unO w)))/\c.length=i/\∀x∈c,wOk x) ⟨[],o0,o0,o0,Z,Z,Z,λx I=>by simp at I⟩ ?_ ?_⟩
  .intro i σ p hi S;refine xe4 S λc u5 L M g=>xa3 g λt u B hw=>?_;clear g;clear S;subst t;subst u;have lt:(c.map λw=>V.int (unO w)).length<sizeLine:=by rw[B7,B];exact D3 hi A4
   have aa:upd H l (.lst (c.map λw=>V.int (unO w))) m=n_ (.tup [.int mx,.int my]):=As X _ _ hm;refine xq1 Z (xq1 Z (xq2 Z Z (xq1 Z (xq2 Z Z ⟨C,_,Z,by lia,by lia,λb ab=>?_⟩))));have app:∀x:Option Int,wOk x->∀L M,∃(D:List (Option Int))(ad ae af:Option V),([n_ (.ref m),n_ (.int C),n_ (.int j),n_ (.ref l),n_ (.int (0+(i:Int))),L,M]:St)=[n_ (.ref m),n_ (.int C),n_ (.int j),n_ (.ref l),ad,ae,af] /\
     upd (upd H l (.lst (c.map λw=>V.int (unO w)))) l (.lst ((c.map λw=>V.int (unO w))++[V.int (unO x)]))=upd H l (.lst (D.map λw=>V.int (unO w)))/\D.length=i+1/\∀x∈D,wOk x:=λx I L M =>
    ⟨c++[x],_,_,_,Z,by rw[GZ,C7];rfl,by rw[C6,B];rfl,λy Y=>by
     rcases F6.mp Y with q|q
     .exact hw y q
     .rw[D4.mp q];exact I⟩
   refine xwb Z Z Z ⟨⟨by decide,by decide⟩,(xq2 Z Z ⟨B2,Z,(xq1 Z ?_)⟩)⟩;refine IN (λ_=>?_) (λ_=>?_)
   .exact xq1 Z ⟨.inl ⟨Z,_,SqL.of Af⟩,(xw2 Z Z ⟨m,mx,my,b,Z,aa,I,Y,λd hd=>⟨l,(xq2 Z Z ⟨Af,lt,app (n_ d) hd _ _⟩)⟩⟩)⟩
   .exact xq1 Z ⟨.inl ⟨Z,_,SqL.of Af⟩,l,(xq2 Z Z ⟨Af,lt,app o0 trivial _ _⟩)⟩
  .intro σ p U;refine xe4 U λc u5 L M g=>xa3 g λt u B hw=>?_;clear g;clear U;subst t;subst u;refine xq1 Z ⟨S_2,λq R=>?_⟩;exact k q (.pl c) _ ((As (o:=.lst (c.map λw=>V.int (unO w))) X).trans (As (o:=.tup [.str plT,.ref l]) R)) (.pl Af (As R _ _ Af)) ⟨B,hw⟩
 .refine xq1 Z (xq1 Z (xq2 Z Z ⟨C,_,Z,by lia,by lia,λb ab=>(xq2 Z Z ⟨(by show(0:Int)<511;decide),_,_,Z,Z,?_⟩)⟩));have z:∃n:Nat,n<511/\b%511+1=(n:Int)+1:=by
   obtain⟨n,B⟩:=M0 (show 0<=b%511 by lia);exact⟨n,by lia,by lia⟩
  refine xq1 Z (xq1 Z (xq1 Z (xq2 Z Z ⟨C,_,Z,by lia,by lia,λv3 aj=>⟨m,mx,my,v3,Z,hm,I,Y,λd hd=>?_⟩⟩)));refine⟨9,Z,by decide,by decide,?_⟩;refine OE (n:=9) (λi r p=>H=p/\r=(((List.range i).filter (MC (b%511+1))).map λ(k:Nat)=>V.int (k:Int))) ⟨Z,Z⟩ ?_ ?_
  .intro i r p hi ag;obtain⟨rfl,rfl⟩:=ag;have lt:(((List.range i).filter (MC (b%511+1))).map λ(k:Nat)=>V.int (k:Int)).length<sizeLine:=by
    rw[B7];have:=List.length_filter_le (MC (b%511+1)) (List.range i);rw[O8]at this;exact D6 (C5 this (Q7 hi)) A4
   refine⟨⟨[n_ (.int (0+(i:Int)))],Z,Z⟩,lt,?_⟩;refine xw2 Z Z (xq2 Z Z ⟨(by show(0:Int)<=0+(i:Int);lia),(xq2 Z Z ⟨Z,(xq1 Z ?_)⟩)⟩);have ei:(0+(i:Int)).toNat=i:=by lia
   have e:(List.range (i+1)).filter (MC (b%511+1))=(List.range i).filter (MC (b%511+1))++if MC (b%511+1) i=o4 then [i]else []:=by
    rw[U9,List.filter_append,List.filter_cons,List.filter_nil]
   rw[ei];show if MC (b%511+1) i=o4 then _ else _;refine IN (λhb=>?_) (λhb=>?_)
   .refine xq1 Z ⟨Z,?_⟩;rw[e,A0g hb,C7];show _++[V.int (0+(i:Int))]=_++[V.int (i:Int)]
    rw[U7]
   .refine⟨Z,?_⟩;rw[e,A0d hb,Z9]
  .intro r p ah l X;obtain⟨rfl,rfl⟩:=ah;have O:(((List.range 9).filter (MC (b%511+1))).map λ(k:Nat)=>V.int (k:Int))=(LI (b%511+1)).map V.int:=by
    unfold LI;rw[O1];rfl
   rw[O];refine⟨S_3,λq R=>?_⟩;refine k q (.am d (LI (b%511+1))) _ ((As (o:=.lst ((LI (b%511+1)).map V.int)) X).trans (As (o:=.tup [.str amT,.int d,.ref l]) R)) (.am Af (As R _ _ Af)) ⟨hd,?_,aCh _,aBk _⟩;refine xea z λn B e=>?_;rw[e];exact aCi n B
end
theorem aD0:decide (V.str amT=V.str (Str.ofString "places"))=o5:=by decide +kernel
theorem aD1:decide (V.str plT=V.str (Str.ofString "places"))=o4:=by decide +kernel
section
variable{P:N_}{w:Q_}{K:O_}{mg:C_}{n8:T_}{a:Ad}
inductive aGV(vs:List V)(H:Hp)(Q:VK):Prop
|mk (q:R_) (d:Bw) (_:vs=[.ref q]) (_:Dg H q d) (_:d.ok) (_:∀H',Ay H H'->Q (.str (Bg d)) H'):aGV vs H Q
def aHq:Sp:=λvs H Q _=>aGV vs H Q
theorem aHL(F:Fun K "_law_word" "_law_word" FE f fd)(T:Top K mg a):AM P w K mg n8 CX0 1 f fd LL aHq:=by
 refine F.ok Su D_9 λab A R s H vs Q E hr h=>?_
 obtain⟨q,d,rfl,hd,I,k⟩:=h;have l0:(Str.ofString "").length=0:=by decide +kernel
 refine⟨_,(Ae (AO (AA CQ (Aj Al (pv 0) Ac R_9) FQ (AD _)) (Ah (Au (Du A3e A7a A7b Pq FQ (Aa (BT Z (Bl.of (So:=Ak FE) (No:=LL) (N:=["_law_state"]) (k:=1) (cs:=[]) Z Z A0) (Cb (Aj Al (pv 0) Ac R_9)) (λ_ _ _=>(AW (i:=0) A0 Z Z)) (λ_ _ _=>Bm) (λ_ _ _=>(Aj aBH FQ (pv 0) R_9))) Ab)))) AB) (Ah (Au (AE Qm (AE Qm (BK JN Z T.aAQ A4g (Aa (Aj Al (pv 0) Ac R_9) Ab)) FQ) (Du A3e A7a A7b Pq FQ (Aa (BT Z (Bl.of (So:=Ak FE) (No:=LL) (N:=["_law_k"]) (k:=1) (cs:=[]) Z Z A0) (Cb (Aj Al (pv 0) Ac R_9)) (λ_ _ _=>(AW (i:=0) A0 Z Z)) (λ_ _ _=>Bm) (λ_ _ _=>(BK JN Z T.aAQ A4g (Aa (pv 0) Ab)))) Ab)))))),?_⟩;cases hd with
 |@pl l S h C =>
  refine xwi Z Z Z (SqT.of h) (Ai (j:=0) Z) ⟨Z,(xq1 Z ?_)⟩;rw[aD1];refine BR ⟨Z,(xwi Z Z Z (SqT.of h) (Ai (j:=1) Z) ⟨l,Z,⟨_,SqL.of C⟩,?_⟩)⟩;refine CT (xs:=S.map λw=>V.int (unO w)) (λi b r=>H=r/\b=((S.take i).map λx=>(⟨#[wC x]⟩:Str)).map V.str) ⟨Z,Z⟩ (λi b r _ z=>z.1▸SqL.of C) ?_ ?_
  .intro i x b r G U;obtain⟨rfl,rfl⟩:=U;rw[C0]at G;refine xea (D5.mp G) λn y c=>?_;subst c;have v:=I.2 n (D8 y);refine⟨⟨[n_ (.int (unO n))],Z,Z⟩,?_,FY (xq1 Z ⟨TQ,_,wC n,Z,Z,A0,ZO v,Z,?_⟩)⟩
   .rw[B7,B7,L7,I.1];exact D6 (R9 _ _) A4
   .rw[F7,y,C7,C7];rfl
  .intro b r W p M;obtain⟨rfl,rfl⟩:=W;rw[B7,J0];have g:JoinOk (Str.ofString "") (S.map λx=>(⟨#[wC x]⟩:Str))=o4:=by
    refine Tx.Ps 1 (λt O=>?_) ?_
    .refine xea (D0.mp O) λn v c=>?_;subst c;exact B8 1
    .rw[B7,l0,I.1];decide
   refine⟨_,p,(xq1 Z ⟨Z,SqL.of Af,g,?_⟩)⟩;rw[aEm];exact k _ (As M)
 |@am l st ns h C =>
  refine xa3 I λm _ v B=>?_;have aa:=Py ns 0 A4 v B;have u:st<=9:=by have:=m.2;lia
  refine xwi Z Z Z (SqT.of h) (Ai (j:=0) Z) ⟨Z,(xq1 Z ?_)⟩;rw[aD0];refine Ba (xwi Z Z Z (SqT.of h) (Ai (j:=1) Z) ⟨st,Z,NY m.1 u,(xq2 Z Z ⟨FB (by erw [Tj m.1 u];decide),Z,(xwi Z Z Z (SqT.of h) (Ai (j:=2) Z) ⟨l,Z,⟨_,SqL.of C⟩,?_⟩)⟩)⟩);refine CT (xs:=ns.map V.int) (λi b r=>H=r/\b=((ns.take i).map λn=>Str.ofString (toString n)).map V.str) ⟨Z,Z⟩ (λi b r _ z=>z.1▸SqL.of C) ?_ ?_
  .intro i x b r G X;obtain⟨rfl,rfl⟩:=X;rw[C0]at G;refine xea (D5.mp G) λn y c=>?_;subst c;have D:=v n (D8 y);refine⟨⟨[n_ (.int n)],Z,Z⟩,?_,FY (xq1 Z ⟨n,Z,NY D.1 (W6 D.2 A4),Z,?_⟩)⟩
   .rw[B7,B7,L7];exact D6 (R9 _ _) (D6 (show _<=9 by lia) A4)
   .rw[F7,y,C7,C7];rfl
  .intro b r Y p M;obtain⟨rfl,rfl⟩:=Y;rw[B7,J0];have g:JoinOk (Str.ofString "") (ns.map λn=>Str.ofString (toString n))=o4:=by
    refine Tx.Ps 1 (λt O=>?_) ?_
    .refine xea (D0.mp O) λn L c=>?_;subst c;have:=v n L;rw[Tj this.1 (W6 this.2 A4)];decide
    .rw[B7,l0];lia
   refine⟨_,p,(xq1 Z ⟨Z,SqL.of Af,g,(xq2 Z Z ⟨FB ?_,?_⟩)⟩)⟩
   .rw[aBL v];have e1:(Ew ns).length=ns.length:=by rw[Nu.len];show(ns.map _).length=_;rw[B7]
    have e2:(Str.ofString "=").length=1:=by decide +kernel
    rw[Tx.app_len,e1,e2]
    erw [Tj m.1 u]
    lia
   .have e:Str.ofString (toString st)++Str.ofString "=" ++ Str.join (Str.ofString "") (ns.map λn=>Str.ofString (toString n))=Bg (.am st ns):=by
     rw[aBL v,Tx.NQ m.1 u,show Str.ofString "=" = (⟨#[61]⟩:Str) by decide +kernel];rfl
    have:=k _ (As (o:=.lst ((ns.map λn=>Str.ofString (toString n)).map V.str)) M);rw[<-e]at this;exact this
inductive aGS(vs:List V)(H:Hp)(Q:VK):Prop
|mk (q:R_) (r:AC) (_:vs=[.ref q]) (_:Il H q r) (_:FJ r) (_:∀H',Ay H H'->Q (.str (Et r)) H'):aGS vs H Q
def aHo:Sp:=λvs H Q _=>aGS vs H Q
theorem aHK(F:Fun K "_law_text" "_law_text" Ie f fd)(T:Top K mg a)(cQ:Cal P w K mg n8 CX0 1 "_law_word" LL aHq):AM P w K mg n8 CX0 2 f fd LD aHo:=by
 refine F.ok Ga D_9 λaq A am s H vs Q E hr h=>?_
 obtain⟨q,r,rfl,hR,ho,k⟩:=h;refine xea hR.ex λcs hq U=>?_;have ag:=ho.few;refine⟨_,(Ae (Am (i:=1) Ga.nd Z O_9 (BO Ab)) (Ae (BX A1c Z (Cb (pv 0)) (Bd (i:=2) Ga.nd Z O_9) (Ae (Am (i:=3) Ga.nd Z O_9 (AE Oo (BO (Aa (Aj aBH FQ (Aj Al (pv 2) Ac R_9) R_9) Ab)) (BT Z (Bl.of (So:=Ak Ie) (No:=OO) (N:=["_law_condition"]) (k:=1) (cs:=[]) Z Z A0) (Cb (Aj Al (pv 2) Ac R_9)) (λ_ _ _=>(AW (i:=0) A0 Z Z)) (λ_ _ _=>Bm) (λ_ _ _=>(Ar cQ (rm hr) Z Aq (Aa (pv 0) Ab)))))) (Ah (BP (Du A1g A1h A2a BL (pv 1) (Aa (Du A3e A7a A7b Pq FQ (AT Oo (pv 3) (BO (Aa (BK JN Z T.aAQ A4g (Aa (Aj Al (pv 2) Ac R_9) Ab)) Ab)) Ab)) Ab)))))) (Ah (Au (Du A3e A7a A7b Pq FQ (Aa (pv 1) Ab)))))),?_⟩;refine⟨S_0,λpt L=>?_⟩;have ah:∀o,upd H pt o q=n_ (.lst (cs.map V.ref)):=λo=>As L _ _ hq;refine xq1 Z ⟨q,Z,⟨_,SqL.of (ah _)⟩,NL (xs:=cs.map V.ref) (λi σ n=>∃u2 u3:Option V,σ=[n_ (.ref q),n_ (.ref pt),u2,u3]/\Ay H n/\n pt=n_ (.lst ((r.take i).map λc=>V.str (Cf c)))) ⟨o0,o0,Z,As L,Af⟩ (λi σ n _ ⟨_,_,_,S,_⟩=>SqL.of (S _ _ hq)) ?_ ?_⟩
 .intro i x σ n Y ab;refine AS ab λu2 u3 g S m=>?_;clear ab;subst g;rw[C0]at Y;refine xea (D5.mp Y) λcq ae g=>?_;subst g;refine xea (Paired.get U ae) λc ec hc=>?_;have I:=ho.ok c (D8 ec);have ad:=I.few;refine AS ((hc.same S).ex) λcl ds h1 h2 h3=>?_;have aa:c.makes<=9:=by have:=I.makes.2;lia
  have un:=aFy I.cell;refine xwi Z Z Z (SqT.of h1) (Ai (j:=0) Z) ⟨TQ,_,wC c.cell,Z,Z,A0,ZO I.cell,S_1,λw1 ai=>?_⟩;have R:=As (o:=.lst [.str ⟨#[wC c.cell]⟩]) ai;refine xwi Z Z Z (SqT.of (R _ _ h1)) (Ai (j:=1) Z) ⟨cl,Z,⟨_,SqL.of (R _ _ h2)⟩,?_⟩;have v:upd n w1 (.lst [.str ⟨#[wC c.cell]⟩]) w1=n_ (.lst [.str ⟨#[wC c.cell]⟩]):=Af;generalize upd n w1 (.lst [.str ⟨#[wC c.cell]⟩])=H3 at R v⊢;refine CT (xs:=ds.map V.ref) (λj p O=>Ay H3 O/\p=((c.conds.take j).map Bg).map V.str) ⟨Ay.refl H3,Z⟩ (λj p O _ z=>SqL.of (z.1 _ _ (R _ _ h2))) ?_ ?_
  .intro j x p O Y an;obtain⟨s4,rfl⟩:=an;rw[C0]at Y;refine xea (D5.mp Y) λdq af g=>?_;subst g;refine xea (Paired.get h3 af) λd ed hd=>⟨⟨[n_ (.ref dq)],Z,Z⟩,?_,FY (xq1 Z ⟨dq,d,Z,(hd.same R).same s4,I.conds d (D8 ed),λH5 s5=>⟨s4.trans s5,?_⟩⟩)⟩
   .rw[B7,B7,L7];exact D6 (R9 _ _) (D6 ad A4)
   .rw[F7,ed,C7,C7];rfl
  .intro p O ao w2 aj;obtain⟨s4,rfl⟩:=ao;rw[B7,(A1e h3),J0];have s5:=s4.trans (As (o:=.lst ((c.conds.map Bg).map V.str)) aj);have y:upd O w2 (.lst ((c.conds.map Bg).map V.str)) w2=n_ (.lst ((c.conds.map Bg).map V.str)):=Af;generalize upd O w2 (.lst ((c.conds.map Bg).map V.str))=H5 at s5 y⊢;refine⟨w1,w2,(xq2 Z Z ⟨s5 _ _ v,y,FB (by simp only[F0,P9,B7];lia),λw3 ak=>?_⟩)⟩;have s6:=s5.trans (As (o:=.lst ([.str ⟨#[wC c.cell]⟩]++(c.conds.map Bg).map V.str)) ak);have B:upd H5 w3 (.lst ([.str ⟨#[wC c.cell]⟩]++(c.conds.map Bg).map V.str)) w3=n_ (.lst ([.str ⟨#[wC c.cell]⟩]++(c.conds.map Bg).map V.str)):=Af;generalize upd H5 w3 (.lst ([.str ⟨#[wC c.cell]⟩]++(c.conds.map Bg).map V.str))=H6 at s6 B⊢;have M:=R.trans s6;refine xq1 Z ⟨.inl ⟨Z,_,SqL.of (M _ _ m)⟩,Z,(xwj Z Z Z Z (SqT.of (M _ _ h1)) (Ai (j:=2) Z) ⟨c.makes,Z,NY I.makes.1 aa,S_1,λw4 X=>?_⟩)⟩;have s7:=M.trans (As (o:=.lst [.str (Str.ofString (toString c.makes))]) X);have D:upd H6 w4 (.lst [.str (Str.ofString (toString c.makes))]) w4=n_ (.lst [.str (Str.ofString (toString c.makes))]):=Af;have C:=As (o:=.lst [.str (Str.ofString (toString c.makes))]) X _ _ B;generalize upd H6 w4 (.lst [.str (Str.ofString (toString c.makes))])=H7 at s7 D C⊢;refine⟨w3,w4,(xq2 Z Z ⟨C,D,FB (by simp only[C6,F0,P9,B7];lia),λw5 al=>?_⟩)⟩;have eL:([.str ⟨#[wC c.cell]⟩]++(c.conds.map Bg).map V.str)++[.str (Str.ofString (toString c.makes))]=(wS c.cell::(c.conds.map Bg++[sgD c.makes])).map V.str:=by
    rw[Tx.NQ I.makes.1 aa,F8,C7];rfl
   rw[eL];have s8:=s7.trans (As (o:=.lst ((wS c.cell::(c.conds.map Bg++[sgD c.makes])).map V.str)) al);have G:upd H7 w5 (.lst ((wS c.cell::(c.conds.map Bg++[sgD c.makes])).map V.str)) w5=n_ (.lst ((wS c.cell::(c.conds.map Bg++[sgD c.makes])).map V.str)):=Af;generalize upd H7 w5 (.lst ((wS c.cell::(c.conds.map Bg++[sgD c.makes])).map V.str))=H8 at s8 G⊢;have lb:(Str.ofString " ").length=1:=by decide +kernel
   have l:JoinOk (Str.ofString " ") (wS c.cell::(c.conds.map Bg++[sgD c.makes]))=o4:=by
    refine Tx.Ps 11 (λt u=>?_) ?_
    .rcases C1.mp u with rfl|u
     .show 1<=11;decide
     .rcases F6.mp u with u|u
      .refine xea (D0.mp u) λd hd g=>?_;subst g;exact NS (I.conds d hd)
      .rw[D4.mp u];show 1<=11;decide
    .rw[lb,F0,C6,B7,F0,P9];lia
   refine⟨_,w5,(xq1 Z ⟨Z,SqL.of G,l,?_⟩)⟩;have eC:Str.join (Str.ofString " ") (wS c.cell::(c.conds.map Bg++[sgD c.makes]))=Cf c:=by
    rw[show Str.ofString " " = (⟨#[32]⟩:Str) by decide +kernel];rfl
   rw[eC];refine⟨pt,(xq2 Z Z ⟨s8 _ _ m,?_,?_⟩)⟩
   .rw[B7,L7];exact D6 (R9 _ _) (D6 ag A4)
   .refine⟨_,_,Z,λb o e=>?_,?_⟩
    .have ne:=Av e L;rw[Ax ne];exact s8 _ _ (S _ _ e)
    .rw[Af,F7,ec,C7];rfl
 .intro σ n ac;refine AS ac λu2 u3 g S m=>?_;clear ac;subst g;rw[B7,(A1e U),J0]at m;have W:n pt=n_ (.lst ((r.map Cf).map V.str)):=by rw[m,O1];rfl
  have em:Str.ofString "; " = RC:=by decide +kernel
  have l:JoinOk (Str.ofString "; ") (r.map Cf)=o4:=by
   refine Tx.Ps 1000 (λt u=>?_) ?_
   .refine xea (D0.mp u) λc hc g=>?_;subst g;exact Nb (ho.ok c hc)
   .rw[B7,em,show RC.length=2 from rfl];lia
  refine⟨Z,(xq1 Z ⟨_,pt,(xq1 Z ⟨Z,SqL.of W,l,?_⟩)⟩)⟩;rw[em];exact k n S
inductive aGE(vs:List V)(H:Hp)(Q:VK):Prop
|mk (q m:R_) (d:Bw) (ar:I_) (_:vs=[.ref q,.ref m]) (_:Dg H q d) (_:d.ok) (_:H m=n_ (.lst (ar.map V.int))) (_:ar.length=8) (_:Q (.bl (d.holds ar)) H):aGE vs H Q
def aHh:Sp:=λvs H Q _=>aGE vs H Q
theorem aG6(F:Fun K "_law_holds" "_law_holds" Jp f fd)(T:Top K mg a):AM P w K mg n8 CX0 1 f fd JF aHh:=by
 refine F.ok DQ D_9 λY A L s H vs Q E hr h=>?_
 obtain⟨q,m,d,b,rfl,hd,ho,G,a8,k⟩:=h;refine⟨_,(Ae (AO (AA CQ (Aj Al (pv 0) Ac R_9) FQ (AD _)) (Ae (BX A1c Z (Cm Z T.U_ (AG Ab)) (Bd (i:=2) DQ.nd Z O_9) (Ah (AO (PW.pt (MR (AA JV (Aj Az (Aj Al (pv 0) Ac R_9) (pv 2) R_9) Ac (AD _)) (Jw (AA JV (Aj Az (Aj Al (pv 0) Ac R_9) (pv 2) R_9) (Aj Az (pv 1) (pv 2) R_9) (AD _))))) (Ah (Au OK)) AB))) (Ah (Au OK))) AB) (Ae (Am (i:=3) DQ.nd Z O_9 Ac) (Ae (BX A1c Z (Cb (pv 1)) (Bd (i:=4) DQ.nd Z O_9) (Ah (AO (AA CQ (pv 4) (Aj Al (pv 0) Ac R_9) (AD _)) (Ah (Am (i:=3) DQ.nd Z O_9 (AE AR (pv 3) Ac))) AB))) (Ah (Au (DY On (pv 3) (Aj Al (pv 0) Ac R_9) Z)))))),?_⟩;cases hd with
 |@pl l c h C =>
  obtain⟨w8,hw⟩:=ho;refine xwi Z Z Z (SqT.of h) (Ai (j:=0) Z) ⟨Z,(xq1 Z ?_)⟩;rw[aD1];refine BR ⟨8,Z,by decide,by decide,Ce (n:=8) (λi σ r=>H=r/\(∃v,σ=[n_ (.ref q),n_ (.ref m),v,o0,o0])/\∀p∈(c.zip b).take i,Dy p.1 p.2=o4) ⟨Z,⟨o0,Z⟩,λp u=>by simp at u⟩ ?_ ?_⟩
  .intro i σ r hi M;obtain⟨rfl,⟨v,rfl⟩,no⟩:=M;have I:i<c.length:=by lia
   have X:i<b.length:=by lia
   have O:atI (c.map λw=>V.int (unO w)) (0+(i:Int))=n_ (V.int (unO c[i])):=by rw[U7];exact Ai (by rw[C0,C4 I];rfl)
   have eA:atI (b.map V.int) (0+(i:Int))=n_ (V.int b[i]):=by rw[U7];exact Ai (by rw[C0,C4 X];rfl)
   have R:(c.zip b)[i]?=n_ (c[i],b[i]):=by rw[W9];exact⟨C4 I,C4 X⟩
   have tk:=TH (hw c[i] (P4 I)) b[i];refine xwi Z Z Z (SqT.of h) (Ai (j:=1) Z) (xwi Z Z Z (SqL.of C) O ⟨Z,(xq1 Z ?_)⟩);rw[JM];have nx:Dy c[i] b[i]=o4->(∃v,([n_ (.ref q),n_ (.ref m),n_ (.int (0+(i:Int))),o0,o0]:St)=[n_ (.ref q),n_ (.ref m),v,o0,o0])/\∀p∈(c.zip b).take (i+1),Dy p.1 p.2=o4:=λh=>⟨⟨_,Z⟩,λp u=>by
    rw[F7,R]at u;rcases F6.mp u with z|z
    .exact no p z
    .have:p=(c[i],b[i]):=by simpa using z
     rw[this];exact h⟩
   by_cases S:unO c[i]=8
   .rw[A0e S]at tk⊢;exact Ba (Ba ⟨Z,nx (by rw[tk];rfl)⟩)
   .rw[A0f S]at tk⊢;refine BR (xwi Z Z Z (SqT.of h) (Ai (j:=1) Z) (xwi Z Z Z (SqL.of C) O (xwj Z Z Z Z (SqL.of G) eA ⟨Z,(xq1 Z ?_)⟩)));rw[JM];by_cases U:unO c[i]=b[i]
    .rw[A0e U]at tk⊢;exact Ba ⟨Z,nx (by rw[tk];rfl)⟩
    .rw[A0f U]at tk⊢;refine BR ?_;have e:Bw.holds b (.pl c)=o5:=by
      show(c.zip b).all _=o5;rw[List.all_eq_false];exact⟨_,D8 R,by rw[tk];exact F1⟩
     rw[e]at k;exact k
  .intro σ r N;obtain⟨rfl,⟨v,rfl⟩,no⟩:=N;have e:Bw.holds b (.pl c)=o4:=by
    show(c.zip b).all _=o4;rw[T4];intro p u;have l8:(c.zip b).length=8:=by rw[Z8];lia
    rw[<-l8,J0]at no;exact no p u
   rw[e]at k;exact k
 |@am l st ns h C =>
  refine xwi Z Z Z (SqT.of h) (Ai (j:=0) Z) ⟨Z,(xq1 Z ?_)⟩;rw[aD0];refine Ba (xq1 Z ⟨m,Z,⟨_,SqL.of G⟩,NL (xs:=b.map V.int) (λi σ r=>H=r/\∃v,σ=[n_ (.ref q),n_ (.ref m),o0,n_ (.int (((b.take i).countP (· == st):Nat):Int)),v]) ⟨Z,o0,Z⟩ (λi σ r _ z=>z.1▸SqL.of G) ?_ ?_⟩)
  .intro i x σ r W y;refine xa y λt o=>xe o λv g=>?_;clear o;clear y;subst t;subst g;rw[C0]at W;refine xea (D5.mp W) λn en g=>?_;subst g;have e:(((b.take (i+1)).countP (· == st):Nat):Int)=(((b.take i).countP (· == st):Nat):Int)+(if n=st then 1 else 0):=by
    rw[F7,en,List.countP_append];by_cases h:n=st<;>simp[h]
   refine xwj Z Z Z Z (SqT.of h) (Ai (j:=1) Z) ⟨Z,(xq1 Z ?_)⟩;refine IN (λD=>?_) (λD=>?_)
   .have:n=st:=by
     have:=A2b D;injection this
    refine xwb Z Z Z ⟨Z,n_ (.int n),?_⟩;rw[e,A0g this];rfl
   .have:¬n=st:=λz=>D (A0e (by rw[z]));refine⟨Z,n_ (.int n),?_⟩;rw[e,A0d this,Int.add_zero];rfl
  .intro σ r B;refine xa B λt o=>xe o λv g=>?_;clear o;clear B;subst t;subst g;rw[B7,J0];refine xwj Z Z Z Z (SqT.of h) (Ai (j:=2) Z) ⟨l,(xq1 Z ⟨.inl (SqL.of C),Z,RL _,?_⟩)⟩;show Q (.bl (inV _ _)) H;rw[Td];exact k
inductive aGD(vs:List V)(H:Hp)(Q:VK):Prop
|mk (q m:R_) (r:AC) (cell:Int) (ar:I_) (_:vs=[.ref q,.int cell,.ref m]) (_:Il H q r) (_:FJ r) (_:H m=n_ (.lst (ar.map V.int))) (_:ar.length=8) (_:∀H',Ay H H'->Q (aGe (La r cell ar)) H'):aGD vs H Q
def aHg:Sp:=λvs H Q _=>aGD vs H Q
theorem aG5(F:Fun K "_law_decides" "_law_decides" Gx f fd)(T:Top K mg a)(cK:Cal P w K mg n8 CX0 1 "_law_holds" JF aHh):AM P w K mg n8 CX0 2 f fd GM aHg:=by
 refine F.ok Dj D_9 λac A Y s H vs Q E hr h=>?_
 obtain⟨q,m,r,cell,l,rfl,hR,ho,hm,a8,k⟩:=h;refine xea hR.ex λcs X D=>?_;have ln:=A1e D;have ad:=ho.few;refine⟨_,(Ae (BX A1c Z (Cm Z T.U_ (Aa (AN BJ Z T.j_ A2g (Aa (pv 0) Ab)) Ab)) (Bd (i:=3) Dj.nd Z O_9) (Ae (Am (i:=4) Dj.nd Z O_9 (DY On (Aj Al (Aj Az (pv 0) (pv 3) R_9) Ac R_9) (BO (Aa (pv 1) (AG Ab))) Z)) (Ae (BX A1c Z (Cb (Aj Al (Aj Az (pv 0) (pv 3) R_9) Ac R_9)) (Bd (i:=5) Dj.nd Z O_9) (Ah (Am (i:=4) Dj.nd Z O_9 (Lx (pv 4) (MS (Ar cK (rm hr) Z Aq (Aa (pv 5) (Aa (pv 2) Ab)))))))) (Ah (AO (CP (pv 4)) (Ah (Au (pv 3))) AB))))) (Ah (Au Cg))),?_⟩;refine xq1 Z ⟨q,(xq1 Z ⟨.inl (SqL.of X),(xq1 Z ⟨by rw[B7];lia,by rw[B7];lia,?_⟩)⟩)⟩;rw[show(((cs.map V.ref).length:Nat):Int).toNat=cs.length by rw[B7,M4]];refine Ce (n:=cs.length) (λi σ B=>Ay H B/\(∃u3 u4 O:Option V,σ=[n_ (.ref q),n_ (.int cell),n_ (.ref m),u3,u4,O])/\∀c∈r.take i,c.fits cell l=o5) ⟨Ay.refl H,⟨o0,o0,o0,Z⟩,λc U=>by simp at U⟩ ?_ ?_
 .intro i σ B W aa;obtain⟨u,⟨u3,u4,O,rfl⟩,no⟩:=aa;have C:=C4 W;refine xea (Paired.get D C) λc M U=>?_;have oc:=ho.ok c (D8 M);refine AS ((U.same u).ex) λcl ds h1 h2 h3=>?_;have eI:atI (cs.map V.ref) (0+(i:Int))=n_ (.ref cs[i]):=by rw[U7];exact Ai (by rw[C0,C];rfl)
  refine xwj Z Z Z Z (SqL.of (u _ _ X)) eI (xq4 Z Z (SqT.of h1) (Ai (j:=0) Z) (xq1 Z ⟨S_2,λt ht=>⟨t,(xq1 Z ⟨.inl (SqL.of Af),Z,Z,?_⟩)⟩⟩));have p:=As (o:=.lst [.int cell,.int 8]) ht;have eb:inV (.int (unO c.cell)) [.int cell,.int 8]=Dy c.cell cell:=by
   have:=Td (unO c.cell) [cell,8];rw[show([cell,8]:I_).map V.int=[V.int cell,V.int 8]from rfl]at this;rw[this,TH oc.cell];simp only[V7,List.any_nil,Bool.or_false];rw[show decide (cell=unO c.cell)=decide (unO c.cell=cell)from decide_eq_decide.mpr eq_comm,show decide (8=unO c.cell)=decide (unO c.cell=8)from decide_eq_decide.mpr eq_comm,Bool.or_comm]
  show(Vu _ _) _ _ _;rw[eb];generalize upd B t (.lst [.int cell,.int 8])=R at p⊢;refine xwj Z Z Z Z (SqL.of (p _ _ (u _ _ X))) eI (xq4 Z Z (SqT.of (p _ _ h1)) (Ai (j:=1) Z) ⟨cl,Z,⟨_,SqL.of (p _ _ h2)⟩,?_⟩);refine NL (xs:=ds.map V.ref) (λj σ L=>R=L/\∃v,σ=[n_ (.ref q),n_ (.int cell),n_ (.ref m),n_ (.int (0+(i:Int))),n_ (.bl (Dy c.cell cell && (c.conds.take j).all (Bw.holds l))),v]) ⟨Z,O,by rw[List.take_zero,List.all_nil,Bool.and_true];rfl⟩ (λj σ L _ z=>z.1▸SqL.of (p _ _ h2)) ?_ ?_
  .intro j x σ L hx G;refine xa G λy g=>xe g λv b=>?_;clear g;clear G;subst y;subst b;rw[C0]at hx;refine xea (D5.mp hx) λdq S b=>?_;subst b;refine xea (Paired.get h3 S) λd ed N=>xq1 Z (Pz (b2:=Bw.holds l d) (λ_ Q' q'=>(xw2 Z Z ⟨dq,m,d,l,Z,N.same p,oc.conds d (D8 ed),p _ _ (u _ _ hm),a8,q'⟩)) ?_);refine⟨Z,n_ (.ref dq),?_⟩;rw[F7,ed,List.all_append,Bool.and_assoc];show _=[_,_,_,_,n_ (V.bl (Dy c.cell cell && ((c.conds.take j).all (Bw.holds l) && (Bw.holds l d && o4)))),_]
   rw[Bool.and_true];rfl
  .intro σ L I;refine xa I λy g=>xe g λv b=>?_;clear g;clear I;subst y;subst b;have ld:=A1e h3;rw[B7,ld,J0];refine xw2 Z Z ?_;show if c.fits cell l=o4 then _ else _;cases ef:c.fits cell l with
   |true =>
    refine BR (xq1 Z ?_);have e:La r cell l=n_ i:=by
     unfold La;rw[V1];have W:=(B9.mp M).1;refine⟨W,?_,λj hj=>?_⟩
     .rw[(B9.mp M).2];exact ef
     .have:=no r[j] (List.mem_take_iff_getElem.mpr ⟨j,by lia,Z⟩);rw[this];exact F1
    have:=k R (u.trans p);rw[e]at this;show Q (.int (0+(i:Int))) R;rw[U7];exact this
   |false =>
    refine Ba ⟨u.trans p,⟨_,_,_,Z⟩,λd N=>?_⟩;rw[F7,M]at N;rcases F6.mp N with z|z
    .exact no d z
    .have:d=c:=by simpa using z
     rw[this];exact ef
 .intro σ B ab;obtain⟨u,⟨u3,u4,O,rfl⟩,no⟩:=ab;rw[ln,J0]at no;have e:La r cell l=o0:=by
   unfold La;rw[Y4];exact no
  have:=k B u;rw[e]at this;exact this
inductive aF7(vs:List V)(H:Hp)(Q:VK):Prop
|mk (q m:R_) (r:AC) (cell:Int) (ar:I_) (_:vs=[.ref q,.int cell,.ref m]) (_:Il H q r) (_:FJ r) (_:H m=n_ (.lst (ar.map V.int))) (_:ar.length=8) (_:∀H',Ay H H'->Q (.int (Cz r cell ar)) H'):aF7 vs H Q
def aFe:Sp:=λvs H Q _=>aF7 vs H Q
theorem aGy(F:Fun K "_law_becomes" "_law_becomes" Gz f fd)(T:Top K mg a)(y:Cal P w K mg n8 CX0 2 "_law_decides" GM aHg):AM P w K mg n8 CX0 3 f fd GM aFe:=by
 refine F.ok JS D_9 λz A l s H vs Q E M h=>?_
 obtain⟨q,m,r,cell,p,rfl,v,I,G,x,k⟩:=h;refine⟨_,(Ae (Am (i:=3) JS.nd Z O_9 (Ar y (rm M) Z Aq (Aa (pv 0) (Aa (pv 1) (Aa (pv 2) Ab))))) (Ae (AO (AA El (pv 3) Cg (AD _)) (Ah (Au (pv 1))) AB) (Ah (Au (Aj Al (Aj Az (pv 0) (pv 3) R_9) Ac R_9))))),?_⟩;refine xw3 Z Z Z ⟨q,m,r,cell,p,Z,v,I,G,x,λo n=>?_⟩;refine xq1 Z ⟨Z,(xq1 Z ?_)⟩;cases e:La r cell p with
 |none =>
  refine BR (xq1 Z ?_);have:=k o n;rw[NU e]at this;exact this
 |some i =>
  refine xea (NT e) λc u B=>xea ((v.same n).ex) λcs L g=>?_;obtain⟨t,d⟩:∃t,cs[i]?=n_ t:=by
   have N:=A1e g;have:i<cs.length:=by rw[N];exact(B9.mp u).1
   exact⟨_,C4 this⟩
  refine xea (Paired.get g d) λO b D=>?_;rw[u]at b;cases b;refine Cw D.ex λcl ds C _=>Ba (xwj Z Z Z Z (SqL.of L) (Ai (by rw[C0,d];rfl)) (xq4 Z Z (SqT.of C) (Ai (j:=2) Z) ?_));have:=k o n;rw[B]at this;exact this
end
theorem WT{ds:H_}{vs:I_}(h:vs≠[]):ds.map V.ref≠vs.map V.int:=λz=>by
 cases vs with
 |nil=>exact h Z
 |cons v r =>
  cases ds with
  |nil=>simp at z
  |cons d q=>simp at z
theorem Dg.put{H:Hp}{l q:R_}{ds:H_}{o:HO}{d:Bw}(i:H l=n_ (.lst (ds.map V.ref)))(h:Dg H q d)(ok:d.ok):Dg (upd H l o) q d:=by
 have a:∀{b v},H b=n_ v->v≠.lst (ds.map V.ref)->upd H l o b=n_ v:=λ{b v} e n=>by rw[Ax (AI e i n)];exact e
 cases h with
 |@am j s ns h c=>exact .am (a h A6) (a c λz=>WT ok.2.1 (HO.lst.inj z).symm)
 |@pl j f h c =>
  refine .pl (a h A6) (a c λz=>?_);have g:=(HO.lst.inj z).symm;rw[show(f.map λw=>V.int (unO w))=(f.map unO).map V.int by rw[O1];rfl]at g;refine WT (ds:=ds) (λq=>?_) g;have:=A2c List.length q;rw[B7,ok.1]at this;cases this
theorem Paired.impMem{α β:Type}{F G:α->β->Prop}:∀{l:List α}{m:List β},(∀x y,y∈m->F x y->G x y)->Paired F l m->Paired G l m
|_,_,_,.nil=>.nil
|_,_,h,.cons r t=>.cons (h _ _ C8 r) (Paired.impMem (λx y a=>h x y (C9 _ a)) t)
def Rj(l0:R_)(H:Hp)(q:R_)(c:AY):Prop:=∃(l:R_)(ds:H_),l≠l0/\H q=n_ (.tup [.int (unO c.cell),.ref l,.int c.makes])/\H l=n_ (.lst (ds.map V.ref))/\Paired (Dg H) ds c.conds
theorem Rj.at{q:R_}{c:AY}(h:Rj a H q c):JX H q c:=by
 exact Cw h λl ds _ r=>⟨l,ds,r⟩
theorem Rj.same{q:R_}{c:AY}(s:Ay H a)(h:Rj b H q c):Rj b a q c:=by
 exact Ep h λl ds n d e f=>⟨l,ds,n,s _ _ d,s _ _ e,Paired.imp (λ_ _ z=>z.same s) f⟩
theorem Rj.put{a:R_}{H:Hp}{q:R_}{c:AY}{cs:H_}{o:HO}(d:H a=n_ (.lst (cs.map V.ref)))(h:Rj a H q c)(ok:c.ok):Rj a (upd H a o) q c:=by
 refine Ep h λl ds n b e f=>⟨l,ds,n,?_,?_,Paired.impMem (λx y g z=>z.put d (ok.conds y g)) f⟩
 .rw[Ax (AI b d A6)];exact b
 .rw[Ax n];exact e
def c00:AY:=⟨n_ 0,[.am 0 [8]],0⟩
theorem aES:c00.ok where
 cell:=⟨by decide,by decide⟩
 makes:=⟨by decide,by decide⟩
 few:=by show 1<=50;decide
 conds:=λd a=>by
  rw[D4.mp a];exact⟨⟨by decide,by decide⟩,by simp,λn b=>by rw[D4.mp b];exact⟨by decide,by decide⟩,List.pairwise_singleton _ _⟩
theorem aAw(r:AC):Cz (c00::r) 0 BF=0:=by
 unfold Cz;rw[S5];have:c00.fits 0 BF=o4:=by decide
 rw[this];rfl
section
variable{P:N_}{w:Q_}{K:O_}{mg:C_}{n8:T_}{a:Ad}
inductive aGA(vs:List V)(H:Hp)(Q:VK):Prop
|mk (m:R_) (sd j:Int) (_:vs=[.ref m,.int sd,.int j]) (_:Ws H m) (_:0<=j) (_:j<=800000) (_:∀(q l:R_)(ds:H_)(c:AY)(H':Hp),Ay H H'->H l=o0->H' q=n_ (.tup [.int (unO c.cell),.ref l,.int c.makes])->H' l=n_ (.lst (ds.map V.ref))->Paired (Dg H') ds c.conds->c.ok->Q (.ref q) H'):aGA vs H Q
def aHd:Sp:=λvs H Q _=>aGA vs H Q
theorem aG1(F:Fun K "_law_clause_by" "_law_clause_by" Fa f fd)(T:Top K mg a)(R:Cal P w K mg n8 CX0 1 "_law_mix" GL TX)(aA:Cal P w K mg n8 CX0 1 "_law_state_by" OX ZU)(aZ:Cal P w K mg n8 CX0 2 "_law_condition_by" DO aHe) :
 AM P w K mg n8 CX0 3 f fd DO aHd:=by
 refine F.ok CB D_9 λac A ab s H vs Q E D h=>?_
 obtain⟨m,G,j,rfl,⟨mx,my,X,hx,I⟩,h0,h1,k⟩:=h;let J1:St->Hp->Prop:=fun σ u=>∃x:Option Int,σ=[n_ (.ref m),n_ (.int G),n_ (.int j),n_ (.int (unO x)),o0,o0]/\wOk x/\H=u;refine⟨_,(Ae (Am (i:=3) CB.nd Z O_9 Ac) (Ae (aFX J1 (AA Ql (AE Bf (Ar R (rm D) Z Aq (Aa (pv 1) (Aa (pv 2) Ab))) Ac) Ac (AD _)) (Ah (Am (i:=3) CB.nd Z O_9 (Ar aA (rm D) Z Aq (Aa (pv 0) (Aa (Ar R (rm D) Z Aq (Aa (pv 1) (AT AR (pv 2) Ac Ab))) Ab))))) AB) (Ae (Am (i:=4) CB.nd Z O_9 (BO Ab)) (Ae (BX A1c Z (Cm Z T.U_ (AT Bf (Ar R (rm D) Z Aq (Aa (pv 1) (AT AR (pv 2) Ac Ab))) Ac Ab)) (Bd (i:=5) CB.nd Z O_9) (Ah (BP (Du A1g A1h A2a BL (pv 4) (Aa (Ar aZ (rm D) Z Aq (Aa (pv 0) (Aa (pv 1) (AT AR (pv 2) (AE FT Ac (AE AR (pv 5) Ac)) Ab)))) Ab))))) (Ah (Au (BH (Aa (pv 3) (Aa (pv 4) (Aa (Ar aA (rm D) Z Aq (Aa (pv 0) (Aa (Ar R (rm D) Z Aq (Aa (pv 1) (AT AR (pv 2) Ac Ab))) Ab))) Ab)))))))))),?_⟩;refine⟨(xw2 Z Z ⟨G,j,Z,h0,by lia,λv hv=>(xq2 Z Z ⟨B6,(xq2 Z Z (xq1 Z ?_))⟩)⟩),?_⟩
 .refine IN (λ_=>?_) (λ_=>?_)
  .exact xq1 Z (xq1 Z (xq1 Z (xq2 Z Z ⟨G,_,Z,by lia,by lia,λv2 aa=>⟨m,mx,my,v2,Z,X,hx,I,λd C=>⟨n_ d,Z,C,Z⟩⟩⟩)))
  .exact⟨o0,Z,trivial,Z⟩
 .intro σ u M;refine AX M λx U ox g=>?_;clear M;subst U;subst g;refine⟨S_0,λl W=>?_⟩;refine xq1 Z (xq1 Z (xq2 Z Z ⟨G,_,Z,by lia,by lia,λv hv=>?_⟩));obtain⟨n,ad⟩:=M0 (show 0<=v%4 by lia);refine xq2 Z Z ⟨B6,(xq1 Z ⟨by lia,by lia,?_⟩)⟩;rw[show(v%4).toNat=n by lia];refine Ce (n:=n) (λi σ u=>∃(ds:H_)(B:List Bw)(u7:Option V),σ=[n_ (.ref m),n_ (.int G),n_ (.int j),n_ (.int (unO x)),n_ (.ref l),u7]/\Ay H u/\u l=n_ (.lst (ds.map V.ref))/\Paired (Dg u) ds B/\B.length=i/\∀d∈B,d.ok)
   ⟨[],[],o0,Z,As W,Af,.nil,Z,λd C=>by simp at C⟩ ?_ ?_
  .intro i σ u hi N;refine CV N λds B u7 g L c S p=>xa p λY r=>?_;clear p;clear N;subst g;refine xq1 Z ⟨.inl ⟨Z,_,SqL.of c⟩,_,Z,_,Z,_,Z,_,Z,_,_,Z,Z,_,_,Z,Z,.inl ⟨by decide,by decide⟩,_,_,Z,Z,m,G,_,Z,⟨mx,my,L _ _ X,hx,I⟩,by lia,by lia,λq d H3 t C od=>?_⟩;refine⟨l,_,_,Z,Z,t _ _ c,by rw[B7,(A1e S),Y];exact D3 hi (FB A3),?_⟩;refine⟨ds++[q],B++[d],(xq1 Z ⟨λb o e=>?_,?_,?_,by rw[C6,Y];rfl,λe he=>?_⟩)⟩
   .rw[Ax (Av e W)];exact t _ _ (L _ _ e)
   .rw[Af,C7];rfl
   .refine A3f (Paired.impMem (λx' y I z=>(z.same t).put (t _ _ c) (r y I)) S) (C.put (t _ _ c) od)
   .rcases F6.mp he with z|z
    .exact r e z
    .rw[D4.mp z];exact od
  .intro σ u O;refine CV O λds B u7 g L c S p=>xa p λY r=>?_;clear p;clear O;subst g;refine xq1 Z (xq1 Z (xq1 Z (xq1 Z (xq1 Z (xq2 Z Z ⟨G,_,Z,by lia,by lia,λv2 aa=>⟨m,mx,my,v2,Z,L _ _ X,hx,I,λd C=>⟨S_3,λq hq=>?_⟩⟩⟩)))));have t:=As (o:=.tup [.int (unO x),.ref l,.int d]) hq;exact k q l ds ⟨x,B,d⟩ _ (L.trans t) W Af (t _ _ c) (Paired.imp (λ_ _ z=>z.same t) S) ⟨ox,C,(by show B.length<=50;lia),r⟩
inductive aGC(K:O_)(vs:List V)(H:Hp)(Q:VK):Prop
|mk (l:R_) (ns:I_) (ft mn:Int) (_:vs=[.ref l,.int ft,.int mn]) (_:SqL K H l (ns.map V.int)) (_:0<=ft) (_:0<=mn) (_:mn<=40) (_:∀(q:R_)(r:AC)(H':Hp),Ay H H'->Il H' q r->FJ r->Cz r 0 BF=0->mn<=r.length->r.length<=mn+1->Q (.ref q) H'):aGC K vs H Q
def aHf(K:O_):Sp:=λvs H Q _=>aGC K vs H Q
theorem aG3(F:Fun K "_law_clauses_by" "_law_clauses_by" EF f fd)(T:Top K mg a)(a9:Cal P w K mg n8 CX0 1 "_law_at" Zb (YJ K))(bL:Cal P w K mg n8 CX0 3 "_law_clause_by" DO aHd)(aS:Cal P w K mg n8 CX0 3 "_law_becomes" GM aFe) :
 AM P w K mg n8 CX0 4 f fd EN (aHf K):=by
 refine F.ok Cr D_9 λai A ah s H vs Q E X h=>?_
 obtain⟨l,ns,v,mn,rfl,hS,h0,m0,af,k⟩:=h;refine⟨_,(Ae (Am (i:=3) Cr.nd Z O_9 (BH (AT Bf (Ar a9 (rm X) Z Aq (Aa (pv 0) (Aa (pv 1) Ab))) Ac (AT Bf (Ar a9 (rm X) Z Aq (Aa (pv 0) (AT AR (pv 1) Ac Ab))) Ac Ab)))) (Ae (Am (i:=4) Cr.nd Z O_9 (BO Ab)) (Ae (BX A1c Z (Cm Z T.U_ (Aa (pv 2) Ab)) (Bd (i:=5) Cr.nd Z O_9) (Ah (BP (Du A1g A1h A2a BL (pv 4) (Aa (Ar bL (rm X) Z Aq (Aa (pv 3) (Aa (Ar a9 (rm X) Z Aq (Aa (pv 0) (AT AR (AE AR (pv 1) Ac) (pv 5) Ab))) (AT FT Ac (pv 5) Ab)))) Ab))))) (Ae (AO (AA JV (Ar aS (rm X) Z Aq (Aa (pv 4) (AG (IC (AG (AG (AG (AG (AG (AG (AG (AG Ab)))))))) Ab)))) Ac (AD _)) (Ah (Am (i:=4) Cr.nd Z O_9 (AE Oo (BO (AV (AG (IC (AV (MT (AG (IC (AG Ab) Ab))) Ab) (AG Ab))) Ab)) (pv 4)))) AB) (Ah (Au (pv 4))))))),?_⟩;refine xw2 Z Z ⟨l,ns,v,Z,hS,h0,?_⟩;refine xq2 Z Z ⟨B3,(xq1 Z ?_)⟩;refine xq1 Z (xq2 Z Z ⟨l,ns,_,Z,hS,by lia,?_⟩);refine⟨_,_,Z,Z,B3,S_2,λm hm=>?_⟩;have s1:=As (o:=.tup [.int (atN ns v%8),.int (atN ns (v+1)%8)]) hm;have hM:Ws (upd H m (.tup [.int (atN ns v%8),.int (atN ns (v+1)%8)])) m:=⟨_,_,Af,⟨P3 _ A4,O5 _ A4⟩,⟨P3 _ A4,O5 _ A4⟩⟩
 have L:=s1;show(Vu _ _) _ _ (upd H m (.tup [.int (atN ns v%8),.int (atN ns (v+1)%8)]));generalize upd H m (.tup [.int (atN ns v%8),.int (atN ns (v+1)%8)])=H1 at s1 L hM⊢;refine⟨S_0,λcl U=>?_⟩;obtain⟨n,rfl⟩:=M0 m0;refine xw2 Z Z ⟨by lia,Int.lt_of_le_of_lt af A4,?_⟩;rw[M4];refine Ce (n:=n) (λi σ M=>∃(cs:H_)(r:AC)(u5:Option V),σ=[n_ (.ref l),n_ (.int v),n_ (.int n),n_ (.ref m),n_ (.ref cl),u5]/\Ay H1 M/\M cl=n_ (.lst (cs.map V.ref))/\Paired (Rj cl M) cs r/\r.length=i/\∀c∈r,c.ok)
  ⟨[],[],o0,Z,As U,Af,.nil,Z,λd hd=>by simp at hd⟩ ?_ ?_
 .intro i σ M hi ab;refine CV ab λcs r u5 G sm g pr u=>xa u λhn t=>?_;clear u;clear ab;subst G;refine xq1 Z ⟨.inl ⟨Z,_,SqL.of g⟩,_,Z,_,Z,_,Z,_,_,Z,Z,_,Z,_,_,Z,Z,l,ns,_,Z,((L.trans sm).seq hS),by lia,_,Z,_,_,Z,Z,.inl ⟨by decide,by decide⟩,m,_,_,Z,hM.same sm,by lia,by lia,λq l' ds c H3 B nl e1 e2 e3 oc=>?_⟩;refine⟨cl,_,_,Z,Z,B _ _ g,by rw[B7,(A1e pr),hn];exact D3 hi (FB A3),?_⟩;have ag:l'≠cl:=λz=>by rw[z,g]at nl;cases nl
  refine⟨cs++[q],r++[c],(xq1 Z ⟨λb o e=>?_,?_,?_,by rw[C6,hn];rfl,λe he=>?_⟩)⟩
  .rw[Ax (Av e U)];exact B _ _ (sm _ _ e)
  .rw[Af,C7];rfl
  .refine A3f (Paired.impMem (λx' y hy z=>(z.same B).put (B _ _ g) (t y hy)) pr) (Rj.put (B _ _ g) ⟨l',ds,ag,e1,e2,e3⟩ oc)
  .rcases F6.mp he with z|z
   .exact t e z
   .rw[D4.mp z];exact oc
 .intro σ M ac;refine CV ac λcs r u5 G sm g pr u=>xa u λhn t=>?_;clear u;clear ac;subst G;have hR:Il M cl r:=⟨cs,g,Paired.imp (λ_ _ z=>z.at) pr⟩
  have rk:FJ r:=⟨by lia,t⟩
  refine xq1 Z ⟨(by show 8<=sizeLine;decide),λz8 ae=>?_⟩;have B:=As (o:=.lst (BF.map V.int)) ae;refine⟨cl,z8,r,0,BF,Z,hR.same B,rk,Af,Z,λH4 s4=>?_⟩;have aa:=((L.trans sm).trans B).trans s4;have R:=(hR.same B).same s4;refine⟨Z,(xq1 Z ?_)⟩;rw[JM];by_cases hz:Cz r 0 BF=0
  .rw[A0e hz];exact Ba (xq1 Z (k cl r H4 aa R rk hz A3 A3))
  .rw[A0f hz];refine BR ?_;refine⟨S_1,λb1 ad=>⟨S_3,λb2 S=>⟨S_1,λN I=>⟨S_3,λD x=>⟨S_1,λb5 p=>?_⟩⟩⟩⟩⟩;generalize j:upd (upd (upd (upd (upd H4 b1 (.lst [.int 8])) b2 (.tup [.str (Str.ofString "amount"),.int 0,.ref b1])) N (.lst [.ref b2])) D (.tup [.int 0,.ref N,.int 0])) b5 (.lst [.ref D])=C;have s5:Ay H4 C:=by rw[<-j];exact(((As ad).trans (As S)).trans (As I)).trans ((As x).trans (As p))
   have e1:C b1=n_ (.lst [.int 8]):=by rw[<-j];exact As p _ _ (As x _ _ (As I _ _ (As S _ _ Af)))
   have e2:C b2=n_ (.tup [.str (Str.ofString "amount"),.int 0,.ref b1]):=by rw[<-j];exact As p _ _ (As x _ _ (As I _ _ Af))
   have e3:C N=n_ (.lst [.ref b2]):=by rw[<-j];exact As p _ _ (As x _ _ Af)
   have e4:C D=n_ (.tup [.int 0,.ref N,.int 0]):=by rw[<-j];exact As p _ _ Af
   have e5:C b5=n_ (.lst [.ref D]):=by rw[<-j];exact Af
   refine xea ((R.same s5).ex) λO W Y=>?_;have aj:=A1e Y;refine xq1 Z ⟨b5,cl,(xq2 Z Z ⟨e5,W,FB (by simp only[F0,P9,B7];lia),λq hq=>?_⟩)⟩;have s6:=As (o:=.lst ([V.ref D]++O.map V.ref)) hq;have c0:JX C D c00:=⟨N,[b2],e4,e3,.cons (.am (ns:=[8]) e2 e1) .nil⟩
   refine xq1 Z (k q (c00::r) _ ((aa.trans s5).trans s6) ⟨D::O,Af,.cons (c0.same s6) (Paired.imp (λ_ _ z=>z.same s6) Y)⟩ ⟨by rw[F0];lia,λc hc=>?_⟩ (aAw r) (by rw[F0];lia) (by rw[F0];lia));rcases C1.mp hc with z|z
   .rw[z];exact aES
   .exact t c z
end
theorem Ay.noneN(s:Ay H a)(n:a x=o0):H x=o0:=by
 cases e:H x with
 |none=>rfl
 |some o=>rw[s _ _ e]at n;cases n
theorem RB{T:St->Hp->Prop}{C:Prop}(P:St->Hp->Prop)(h:(∀σ H,P σ H->T σ H)->C)(k:∀σ H,P σ H->T σ H):C:=h k
structure MA where
tp:Addr
l:Addr
kc:Addr
ds:List Addr
def jf2(gp mem:R_):List (Str×V):=Bb "memories" (.ref mem) (Bb "grove" (.ref gp) [])
def jf5(gp mem pr l kc:R_):List (Str×V):=Bb "known_cells" (.ref kc) (Bb "known_squares" (.ref l) (Bb "rule" (.ref pr) (jf2 gp mem)))
theorem aCV(a mem:R_):(jf2 a mem).lookup ("memories" : Str)=n_ (V.ref mem):=by
 unfold jf2;rw[An,A0g rfl]
theorem aBI(a mem:R_)(b:¬m=("memories" : Str))(c:¬m=("grove" : Str)):(jf2 a mem).lookup m=o0:=by
 unfold jf2;rw[An,A0d b,An,A0d c];rfl
section
variable(gp mem pr l kc:R_)
theorem aBJ:(jf5 gp mem pr l kc).lookup ("known_cells" : Str)=n_ (V.ref kc):=by
 unfold jf5;rw[An,A0g rfl]
theorem aBK:(jf5 gp mem pr l kc).lookup ("known_squares" : Str)=n_ (V.ref l):=by
 unfold jf5;rw[An,A0d A0,An,A0g rfl]
theorem aEl:(jf5 gp mem pr l kc).lookup ("rule" : Str)=n_ (V.ref pr):=by
 unfold jf5;rw[An,A0d A0,An,A0d A0,An,A0g rfl]
theorem En:(jf5 gp mem pr l kc).lookup ("grove" : Str)=n_ (V.ref gp):=by
 unfold jf5 jf2;rw[An,A0d A0,An,A0d A0,An,A0d A0,An,A0d A0,An,A0g rfl]
theorem Na(a:¬m=("known_cells" : Str))(b:¬m=("known_squares" : Str))(c:¬m=("rule" : Str))(d:¬m=("memories" : Str))(e:¬m=("grove" : Str)):(jf5 gp mem pr l kc).lookup m=o0:=by
 unfold jf5;rw[An,A0d a,An,A0d b,An,A0d c,aBI _ _ d e]
theorem YV:(jf5 gp mem pr l kc).lookup ("after" : Str)=o0:=Na _ _ _ _ _ A0 A0 A0 A0 A0
theorem YU:(jf5 gp mem pr l kc).lookup ("check_jump" : Str)=o0:=Na _ _ _ _ _ A0 A0 A0 A0 A0
theorem NC:(jf5 gp mem pr l kc).lookup ("reckoned" : Str)=o0:=Na _ _ _ _ _ A0 A0 A0 A0 A0
theorem YT:(jf5 gp mem pr l kc).lookup ("fresh" : Str)=o0:=Na _ _ _ _ _ A0 A0 A0 A0 A0
theorem aBi:(jf5 gp mem pr l kc).lookup ("four_halfway" : Str)=o0:=Na _ _ _ _ _ A0 A0 A0 A0 A0
theorem aCf:(jf5 gp mem pr l kc).lookup ("middle_after" : Str)=o0:=Na _ _ _ _ _ A0 A0 A0 A0 A0
theorem aBh:(jf5 gp mem pr l kc).lookup ("cell_after" : Str)=o0:=Na _ _ _ _ _ A0 A0 A0 A0 A0
end
inductive Nv:HO->Prop
|tup {xs:List V}:Nv (.tup xs)
|ins {C dx:R_} {fs:List (Str×V)} (h1:1<=fs.length) (h2:fs.length<=3):Nv (.ins C dx fs)
theorem Pk(f:Str)(v:V):∀fs:List (Str×V),1<=(Bb f v fs).length
|[]=>B8 1
| (g,x)::r=>by
 unfold Bb;split
 .rw[F0];exact O6 _ _
 .rw[F0];exact O6 _ _
theorem DP.kp{c:Bw}(k:∀b o,H b=n_ o->Nv o->e b=n_ o)(h:DP a H p c):DP a e p c:=by
 cases h with
 |am h d=>exact .am (k _ _ h (.ins (Pk _ _ _) (C5 (BN _ _ _) (Q5 (C5 (BN _ _ _) (by show 0+1<=2;decide)))))) (k _ _ d .tup)
 |pl h d=>exact .pl (k _ _ h (.ins (Pk _ _ _) (C5 (BN _ _ _) (by show 0+1<=3;decide)))) (k _ _ d .tup)
theorem Ct.kp{c:AY}(k:∀b o,H b=n_ o->Nv o->d b=n_ o)(h:Ct a H p c):Ct a d p c:=by
 exact Dw h.ex λdx t cs e f g=>⟨dx,t,cs,k _ _ e (.ins (Pk _ _ _) (C5 (BN _ _ _) (Q5 (C5 (BN _ _ _) (Q5 (C5 (BN _ _ _) (by show 0+1<=1;decide))))))),k _ _ f .tup,Paired.imp (λ_ _ z=>z.kp k) g⟩
theorem Df.kp{H c:Hp}(k:∀b o,H b=n_ o->Nv o->c b=n_ o)(h:Df a H p x r):Df a c p x r:=by
 exact Dw h.ex λdx t cs d e f=>⟨dx,t,cs,k _ _ d (.ins (Pk _ _ _) (C5 (BN _ _ _) (Q5 (C5 (BN _ _ _) (by show 0+1<=2;decide))))),k _ _ e .tup,Paired.imp (λ_ _ z=>z.kp k) f⟩
def mK(ms:List (Str×MA)):List (Key×V):=ms.map λe=>(Sum.inr e.1,V.ref e.2.tp)
theorem Ye(t:Str):∀a:List (Str×MA),(∃m,(t,m)∈a/\Bv (mK a) (Sum.inr t)=n_ (.ref m.tp))\/(Bv (mK a) (Sum.inr t)=o0/\∀e∈a,e.1≠t)
|[]=>.inr ⟨Z,λe d=>nomatch d⟩
|e::r=>by
 by_cases h:e.1=t
 .refine .inl ⟨e.2,?_,?_⟩
  .rw[<-h];exact C8
  .exact BV (p:=(Sum.inr e.1,V.ref e.2.tp)) (r:=mK r) (by rw[h])
 .have n:=Bz (p:=(Sum.inr e.1,V.ref e.2.tp)) (r:=mK r) λz=>h (Sum.inr.inj z);rcases Ye t r with ⟨m,b,c⟩|⟨b,c⟩
  .exact .inl ⟨m,C9 _ b,n.trans c⟩
  .refine .inr ⟨n.trans b,λx f=>?_⟩;rcases C1.mp f with z|z
   .rw[z];exact h
   .exact c x z
inductive aCD(H H':Hp)(t:Str)(ms ms':List (Str×MA))(m:MA):Prop
|old (_:(t,m)∈ms) (_:ms'=ms):aCD H H' t ms ms' m
|new (_:ms'=ms++[(t,m)]) (_:∀e∈ms,e.1≠t) (_:H m.tp=o0/\H m.l=o0/\H m.kc=o0/\∀d∈m.ds,H d=o0) (_:H' m.tp=n_ (.tup [.ref m.l,.ref m.kc])) (_:H' m.l=n_ (.lst (m.ds.map V.ref))) (_:H' m.kc=n_ (.dT [])) (_:∀d∈m.ds,H' d=n_ (.dK [])) (_:m.ds.length=47) (_:m.ds.Nodup):aCD H H' t ms ms' m
section
variable{P:N_}{w:Q_}{K:O_}{mg:C_}{n8:T_}{a:Ad}
inductive aAg(a:Ad)(vs:List V)(H:Hp)(Q:VK):Prop
|mk (p:R_) (t:Str) (r:AC) (_:vs=[.ref p]) (_:Df a H p t r) (_:Q (.str t) H):aAg a vs H Q
def Vx(a:Ad):Sp:=λvs H Q _=>aAg a vs H Q
theorem aCv(F:Fun K "shown_rule" "shown_rule" Ji f fd)(T:Top K mg a):AM P w K mg n8 CX0 1 f fd SJ (Vx a):=by
 refine F.ok QO D_9 λc A b s H vs Q E j h=>?_
 obtain⟨p,t,r,rfl,e,k⟩:=h;refine Dw e.ex λdx l cs d g i=>⟨_,(Ah (Au (AF (pv 0) Z))),?_⟩
 exact xwf Z Z d T.aAF T.aAH (aA5 A0) k
inductive aDP(a:Ad)(vs:List V)(H:Hp)(Q:VK):Prop
|mk (p dx mem pr:R_) (fs:List (Str×V)) (t:Str) (r:AC) (ms:List (Str×MA)) (_:vs=[.ref p,.ref pr]) (_:H p=n_ (.ins a.M3 dx fs)) (_:fs.lookup ("memories" : Str)=n_ (.ref mem)) (_:fs.length<=10) (_:H mem=n_ (.dK (mK ms))) (_:ms.length<=1000) (_:∀e∈ms,H e.2.tp=n_ (.tup [.ref e.2.l,.ref e.2.kc])) (_:Df a H pr t r) (_:∀(H':Hp)(m:MA)(ms':List (Str×MA)),(∀b o,H b=n_ o->b≠p->b≠mem->H' b=n_ o)->H' p=n_ (.ins a.M3 dx (Bb "known_cells" (.ref m.kc) (Bb "known_squares" (.ref m.l) (Bb "rule" (.ref pr) fs))))->H' mem=n_ (.dK (mK ms'))->aCD H H' t ms ms' m->Q .non H'):aDP a vs H Q
def aD6(a:Ad):Sp:=λvs H Q _=>aDP a vs H Q
theorem aE0(F:Fun K "change" "Jumps.change" EH f fd)(T:Top K mg a)(cG:Cal P w K mg n8 CX0 1 "shown_rule" SJ (Vx a)):AM P w K mg n8 CX0 2 f fd GP (aD6 a):=by
 refine F.ok JT D_9 λa1 A az s H vs Q E hr h=>?_
 obtain⟨p,dx,mem,B,fs,t,r,L,rfl,hp,C,au,hm,few,ad,hR,k⟩:=h;refine⟨_,(Ae (Am (i:=2) JT.nd Z O_9 (Ar cG (rm hr) Z Aq (Aa (pv 1) Ab))) (Ae (AO (aFY (YM (DM hr) (pv 2) (AF (pv 0) Z))) (Ah (Fw (DM hr) (AF (pv 0) Z) (pv 2) (BH (Aa (BT Z (Bl.of (So:=Ak EH) (No:=LO) (N:=["e"]) (k:=1) (cs:=[]) Z Z A0) (Cm Z T.U_ (AT Bq (Cu Z T.aAC) Ac Ab)) (λ_ _ _=>(AW (i:=0) A0 Z Z)) (λ_ _ _=>Bm) (λ_ _ _=>Lw)) (Aa Lu Ab))) Z)) AB) (Ae (Db (pv 0) (pv 1) Z) (Ae (Db (pv 0) (Aj Al (SF (DM hr) (AF (pv 0) Z) (pv 2) R_9) Ac R_9) Z) (Ah (Db (pv 0) (Aj Al (SF (DM hr) (AF (pv 0) Z) (pv 2) R_9) Ac R_9) Z)))))),?_⟩;have R:=AI hp hm A6;refine xq1 Z ⟨B,t,r,Z,hR,?_⟩;apply RB (fun σ U=>σ=[n_ (.ref p),n_ (.ref B),n_ (.str t)]/\∃(m:MA)(G:List (Str×MA)),(∀b o,H b=n_ o->b≠mem->U b=n_ o)/\U mem=n_ (.dK (mK G))/\Bv (mK G) (Sum.inr t)=n_ (.ref m.tp)/\U m.tp=n_ (.tup [.ref m.l,.ref m.kc])/\aCD H U t L G m/\m.tp≠p/\(H m.tp=o0->m.l≠p/\m.kc≠p/\∀d∈m.ds,d≠p))
 .intro S;refine xw2 Z Z (xq5 hp T.Q1 T.W_ C ⟨mem,(xq1 Z ⟨GW.k (k:=Sum.inr t) hm,(xq1 Z ?_)⟩)⟩);rcases Ye t L with ⟨m,m1,m2⟩|⟨no,nk⟩
  .rw[m2];refine Ba (S _ _ ⟨Z,m,L,λb o e _=>e,hm,m2,ad _ m1,.old m1 Z,AI (ad _ m1) hp A6,λz=>?_⟩);rw[ad _ m1]at z;cases z
  .rw[no];refine BR (xq2 Z Z (xq1 Z ⟨by decide,by decide,?_⟩));refine OE (n:=47) (λi X W=>Ay H W/\∃ds:List Addr,X=ds.map V.ref/\ds.length=i/\(∀d∈ds,W d=n_ (.dK []))/\(∀d∈ds,H d=o0)/\ds.Nodup) ⟨Ay.refl H,[],Z,Z,λd c=>(nomatch c),λd c=>(nomatch c),.nil⟩ ?_ ?_
   .intro i X W hi aq;refine MD aq λsm ds Y I=>xa3 I λln c1 c2 nd=>?_;clear I;clear aq;subst Y;refine⟨⟨[n_ (.int (0+(i:Int)))],Z,Z⟩,?_,FY λd c=>⟨sm.trans (As c),ds++[d],by rw[C7];rfl,by rw[C6,ln];rfl,λx hx=>?_,λx hx=>?_,?_⟩⟩
    .rw[B7,ln];exact D3 hi A4
    .rcases F6.mp hx with z|z
     .exact As c _ _ (c1 x z)
     .rw[D4.mp z];exact Af
    .rcases F6.mp hx with z|z
     .exact c2 x z
     .rw[D4.mp z];exact Ay.noneN sm c
    .rw[T9];refine⟨nd,by simp,λx hx y hy z=>?_⟩;rw[D4.mp hy]at z;rw[<-z,c1 x hx]at c;cases c
   .intro X W ar l hl;refine MD ar λsm ds Y I=>xa3 I λln c1 c2 nd=>?_;clear I;clear ar;subst Y;generalize ae:upd W l _=H3;obtain⟨s3,aw⟩:=alc hl ae;intro v ag;generalize af:upd H3 v _=H4;obtain⟨s4,av⟩:=alc ag af;refine⟨S_2,λg an=>?_⟩;show ∃_,_;generalize dX:upd H4 g _=H5;obtain⟨s5,am⟩:=alc an dX;have n1:=Ay.noneN sm hl;have n2:=Ay.noneN (sm.trans s3) ag;have n3:=Ay.noneN ((sm.trans s3).trans s4) an;have ac:=((sm.trans s3).trans s4).trans s5;refine xwf Z Z (ac _ _ hp) T.Q1 T.W_ C (xq1 Z ⟨mem,(xq1 Z ⟨Mq.k (k:=Sum.inr t) (ac _ _ hm) ?_,?_⟩)⟩)
    .unfold mK;rw[B7];exact D6 few A4
    .rw[GF _ no];have e6:mK L++[(Sum.inr t,V.ref g)]=mK (L++[(t,⟨g,l,v,ds⟩)]):=by unfold mK;rw[C7];rfl
     rw[e6];have k6:∀b o,H5 b=n_ o->b≠mem->upd H5 mem (.dK (mK (L++[(t,⟨g,l,v,ds⟩)]))) b=n_ o:=λb o e n=>by rw[Ax n];exact e
     have aj:upd H5 mem (.dK (mK (L++[(t,⟨g,l,v,ds⟩)]))) mem=n_ (.dK (mK (L++[(t,⟨g,l,v,ds⟩)]))):=Af;generalize upd H5 mem (.dK (mK (L++[(t,⟨g,l,v,ds⟩)])))=H6 at k6 aj⊢;have nm:∀{x:R_},H x=o0->x≠mem:=λz y=>by rw[y,hm]at z;cases z
     have np:∀{x:R_},H x=o0->x≠p:=λz y=>by rw[y,hp]at z;cases z
     refine S _ _ ⟨Z,⟨g,l,v,ds⟩,L++[(t,⟨g,l,v,ds⟩)],λb o e n=>k6 _ _ (ac _ _ e) n,aj,?_,k6 _ _ am (nm n3),.new Z nk ⟨n3,n1,n2,c2⟩ (k6 _ _ am (nm n3)) (k6 _ _ (s5 _ _ (s4 _ _ aw)) (nm n1)) (k6 _ _ (s5 _ _ av) (nm n2)) (λd c=>k6 _ _ (s5 _ _ (s4 _ _ (s3 _ _ (c1 d c)))) (nm (c2 d c))) ln nd,np n3,λ_=>⟨np n1,np n2,λd c=>np (c2 d c)⟩⟩;rw[<-e6];rw[Sd no];exact BV Z
 intro σ U a0;obtain⟨rfl,m,G,k1,ah,vv,ay,as,ab,ao⟩:=a0;have ak:=k1 _ _ hp R;have lf:fs.length<1000:=D6 au A4;have put:∀{Hk:Hp}{fs':List (Str×V)}(q:List (Str×V)),Hk p=n_ (.ins a.M3 dx fs')->(∀b o,Hk b=n_ o->b≠p->upd Hk p (.ins a.M3 dx q) b=n_ o)/\upd Hk p (.ins a.M3 dx q) p=n_ (.ins a.M3 dx q):=λ{Hk fs'} q e=>⟨λb o e n=>by rw[Ax n];exact e,Af⟩
 refine xw2 Z Z ⟨p,_,dx,fs,Z,ak,T.Q1,T.aAE,lf,?_⟩;obtain⟨k2,M⟩:=put (Bb "rule" (.ref B) fs) ak;generalize upd U p (.ins a.M3 dx (Bb "rule" (.ref B) fs))=W at k2 M⊢;have l2:=BN ("rule" : Str) (.ref B) fs;have D:(Bb "rule" (.ref B) fs).lookup ("memories" : Str)=n_ (.ref mem):=by rw[An,A0d A0];exact C
 have ai:=k2 _ _ ah (A1a R);have al:=k2 _ _ ay ab;refine xwf Z Z M T.Q1 T.W_ D (xq1 Z ⟨mem,.ref m.tp,Z,vv▸GW.k (k:=Sum.inr t) ai,(xq4 Z Z (SqT.of al) (Ai (j:=0) Z) (xq1 Z ⟨p,_,dx,(xq1 Z ⟨M,T.Q1,T.Y_,by lia,?_⟩)⟩))⟩);obtain⟨k3,O⟩:=put (Bb "known_squares" (.ref m.l) (Bb "rule" (.ref B) fs)) M;generalize upd W p (.ins a.M3 dx (Bb "known_squares" (.ref m.l) (Bb "rule" (.ref B) fs)))=H3 at k3 O⊢;have l3:=BN ("known_squares" : Str) (.ref m.l) (Bb "rule" (.ref B) fs);have aa:(Bb "known_squares" (.ref m.l) (Bb "rule" (.ref B) fs)).lookup ("memories" : Str)=n_ (.ref mem):=by rw[An,A0d A0];exact D
 refine xwf Z Z O T.Q1 T.W_ aa (xq1 Z ⟨mem,.ref m.tp,Z,vv▸GW.k (k:=Sum.inr t) (k3 _ _ ai (A1a R)),(xq4 Z Z (SqT.of (k3 _ _ al ab)) (Ai (j:=1) Z) (xq1 Z ⟨p,_,dx,(xq1 Z ⟨O,T.Q1,T.a_,by lia,?_⟩)⟩))⟩);obtain⟨k4,ax⟩:=put (Bb "known_cells" (.ref m.kc) (Bb "known_squares" (.ref m.l) (Bb "rule" (.ref B) fs))) O;have u:∀b o,U b=n_ o->b≠p->upd H3 p (.ins a.M3 dx (Bb "known_cells" (.ref m.kc) (Bb "known_squares" (.ref m.l) (Bb "rule" (.ref B) fs)))) b=n_ o:=λb o e n=>k4 _ _ (k3 _ _ (k2 _ _ e n) n) n;refine k _ m G (λb o e n1 n2=>u _ _ (k1 _ _ e n2) n1) ax (u _ _ ah (A1a R)) ?_;cases as with
 |old h1 h2=>exact .old h1 h2
 |new h1 h2 h3 h4 h5 h6 h7 h8 h9 =>
  exact xa2 (ao h3.1) λy1 y2 y3=>.new h1 h2 h3 (u _ _ h4 ab) (u _ _ h5 y1) (u _ _ h6 y2) (λd c=>u _ _ (h7 d c) (y3 d c)) h8 h9
inductive Tw(a:Ad)(vs:List V)(H:Hp)(Q:VK):Prop
|mk (p dx gp pr:R_) (t:Str) (r:AC) (_:vs=[.ref p,.ref gp,.ref pr]) (_:H p=n_ (.ins a.M3 dx [])) (_:Df a H pr t r) (_:∀(H':Hp)(mem:R_)(m:MA),(∀b o,H b=n_ o->b≠p->H' b=n_ o)->H mem=o0->H' p=n_ (.ins a.M3 dx (jf5 gp mem pr m.l m.kc))->H' mem=n_ (.dK (mK [(t,m)]))->(H m.tp=o0/\H m.l=o0/\H m.kc=o0/\∀d∈m.ds,H d=o0)->H' m.tp=n_ (.tup [.ref m.l,.ref m.kc])->H' m.l=n_ (.lst (m.ds.map V.ref))->H' m.kc=n_ (.dT [])->(∀d∈m.ds,H' d=n_ (.dK []))->m.ds.length=47->m.ds.Nodup->(∀d∈m.ds,d≠mem)->Q .non H'):Tw a vs H Q
def Sl(a:Ad):Sp:=λvs H Q _=>Tw a vs H Q
theorem aBr(F:Fun K "__init__" "Jumps.__init__" Jq f fd)(T:Top K mg a)(bR:Co P w K mg n8 CX0 2 a.M3 "change" GP (aD6 a)):AM P w K mg n8 CX0 3 f fd ST (Sl a):=by
 refine F.ok QR D_9 λaa A R s H vs Q E hr h=>?_
 obtain⟨p,dx,g,Y,t,r,rfl,W,hR,k⟩:=h;refine⟨_,(Ae (Db (pv 0) (pv 1) Z) (Ae (Db (pv 0) Lw Z) (Ah (BP (AK (pv 0) bR (rm hr) Aq (Aa (pv 2) Ab)))))),?_⟩;refine xw2 Z Z ⟨p,_,dx,[],Z,W,T.Q1,T.N2,B4,?_⟩;have X:∀b o,H b=n_ o->b≠p->upd H p (.ins a.M3 dx (Bb "grove" (.ref g) [])) b=n_ o:=λb o e n=>by rw[Ax n];exact e
 have j:upd H p (.ins a.M3 dx (Bb "grove" (.ref g) [])) p=n_ (.ins a.M3 dx (Bb "grove" (.ref g) [])):=Af;have C:∀b,upd H p (.ins a.M3 dx (Bb "grove" (.ref g) [])) b=o0->H b=o0:=λb e=>by
  by_cases z:b=p
  .rw[z,j]at e;cases e
  .rw[Ax z]at e;exact e
 generalize upd H p (.ins a.M3 dx (Bb "grove" (.ref g) []))=H1 at X j C⊢;intro mem c;generalize eG:upd H1 mem _=q;obtain⟨S,L⟩:=alc c eG;have O:mem≠p:=λz=>by rw[z,j]at c;cases c
 refine xq1 Z ⟨p,_,dx,(xq1 Z ⟨S _ _ j,T.Q1,T.W_,B5,?_⟩)⟩;have N:∀b o,q b=n_ o->b≠p->upd q p (.ins a.M3 dx (jf2 g mem)) b=n_ o:=λb o e n=>by rw[Ax n];exact e
 have l:upd q p (.ins a.M3 dx (jf2 g mem)) p=n_ (.ins a.M3 dx (jf2 g mem)):=Af;have i:∀b,upd q p (.ins a.M3 dx (jf2 g mem)) b=o0->H b=o0:=λb e=>by
  by_cases z:b=p
  .rw[z,l]at e;cases e
  .rw[Ax z]at e;exact C _ (Ay.noneN S e)
 rw[show Bb ("memories" : Str) (V.ref mem) (Bb ("grove" : Str) (V.ref g) [])=jf2 g mem from rfl];generalize upd q p (.ins a.M3 dx (jf2 g mem))=U at N l i⊢;have B:∀b o,H b=n_ o->b≠p->U b=n_ o:=λb o e n=>N _ _ (S _ _ (X _ _ e n)) n;have y:=N _ _ L O;have G:Df a U Y t r:=by
  refine hR.kp λb o e n=>B _ _ e λz=>?_;rw[z,W]at e;cases e;cases n with
  |ins u _=>cases u
 refine xwn Z Z l (aBI _ _ A0 A0) Z ⟨p,dx,mem,Y,jf2 g mem,t,r,[],Z,l,aCV _ _,by rw[show(jf2 g mem).length=2 from rfl];decide,y,M7 _,λe he=>(nomatch he),G,λH' m ab fr M x D=>?_⟩;cases D with
 |old u _=>cases u
 |new u h2 v h4 h5 h6 h7 h8 h9 =>
  rw[u]at x;refine k H' mem m (λb o e n=>fr _ _ (B _ _ e n) n ?_) (C _ c) M x ⟨i _ v.1,i _ v.2.1,i _ v.2.2.1,λd I=>i _ (v.2.2.2 d I)⟩ h4 h5 h6 h7 h8 h9 λd I z=>?_
  .intro z;rw[z]at e;rw[C _ c]at e;cases e
  .have:=v.2.2.2 d I;rw[z,y]at this;cases this
end
def qO(G:Gv)(n k:Nat):Nat:=match G[n]? with
|some q=>(q.parts.getD k 0).toNat
|none=>0
def cel(G:Gv):Nat->Nat->Nat->Nat->Nat
|0,n,_,_=>n
|l+1,n,x,y=>cel G l (qO G n ((x/2^l)%2+2*((y/2^l)%2))) x y
def stp(r:AC)(c:Nat->Nat->Int):Nat->Nat->Int:=λx y=>Cz r (c x y) [c (x-1) (y-1),c x (y-1),c (x+1) (y-1),c (x-1) y,c (x+1) y,c (x-1) (y+1),c x (y+1),c (x+1) (y+1)]
def BB(r:AC):Nat->(Nat->Nat->Int)->Nat->Nat->Int
|0,c=>c
|n+1,c=>stp r (BB r n c)
def CS(G:Gv)(l n:Nat):Nat->Nat->Int:=λx y=>(cel G l n x y:Int)
def JR(r:AC)(G:Gv)(e n m:Nat):Prop:=∃l:Nat,Ao G n ((l+2:Nat):Int)/\e<=l/\Ao G m ((l+1:Nat):Int)/\∀x y,x<2^(l+1)->y<2^(l+1)->CS G (l+1) m x y=BB r (2^e) (CS G (l+2) n) (x+2^l) (y+2^l)
theorem GOk.four(ok:GOk G)(h:Ao G n ((l+1:Nat):Int)):∃x y z w:Nat,G[n]?=n_ ⟨[(x:Int),(y:Int),(z:Int),(w:Int)],((l+1:Nat):Int)⟩/\Ao G x (l:Int)/\Ao G y (l:Int)/\Ao G z (l:Int)/\Ao G w (l:Int):=by
 refine xea h λq e a=>?_;have i:8<=n:=by
  refine N9 λz=>?_;rw[ok.leaf n z]at e;cases e;have:(0:Int)=((l+1:Nat):Int):=a;lia
 obtain⟨x,y,z,w,p,⟨b,c,d,f⟩,_⟩:=ok.node n q e i;have g:q.lev-1=(l:Int):=by lia
 rw[g]at b c d f;refine⟨x,y,z,w,?_,b,c,d,f⟩;rw[e];cases q with
 |mk k j=>cases p;cases a;rfl
theorem GOk.cell(ok:GOk G)(h:Ao G n 0):n<8:=by
 refine xea h λq e b=>Nat.lt_of_not_le λz=>xe4 (ok.node n q e z) λ_ _ _ _ a=>xa3 a λ_ _ c _=>?_;lia
theorem EV{n x y z w:Nat}(e:G[n]?=n_ ⟨[(x:Int),(y:Int),(z:Int),(w:Int)],l⟩):qO G n 0=x/\qO G n 1=y/\qO G n 2=z/\qO G n 3=w:=by
 unfold qO;rw[e];exact⟨Z,Z,Z,Z⟩
theorem MQ(ok:GOk G)(h:Ao G n ((l+1:Nat):Int)){k:Nat}(f:k<4):Ao G (qO G n k) (l:Int):=by
 refine CM (ok.four h) λx y z w e a b c d=>xa3 (EV e) λg i j m=>?_
 match k,f with
 |0,_=>rw[g];exact a
 |1,_=>rw[i];exact b
 |2,_=>rw[j];exact c
 |3,_=>rw[m];exact d
theorem Vc(ok:GOk G)(go:AJ G a i):∀(l n:Nat),Ao G n (l:Int)->∀x y,cel a l n x y=cel G l n x y
|0,n,_,x,y=>rfl
|l+1,n,h,x,y=>by
 have e:∀k,qO a n k=qO G n k:=λk=>by
  refine xea h λq e _=>?_;unfold qO;rw[go.get e,e]
 show cel a l (qO a n _) x y=cel G l (qO G n _) x y;rw[e];exact Vc ok go l _ (MQ ok h A3) x y
theorem Dq{G a:Gv}{i:Nat}(ok:GOk G)(go:AJ G a i){l n:Nat}(h:Ao G n (l:Int)):CS a l n=CS G l n:=by
 funext x y
 unfold CS;rw[Vc ok go l n h]
theorem JR.goes(ok:GOk G)(go:AJ G a i)(h:JR r G e n m):JR r a e n m:=by
 refine Ec h λl b d c f=>⟨l,go.lev b,d,go.lev c,λx y g j=>?_⟩
 rw[Dq ok go b,Dq ok go c];exact f x y g j
def Bs(G:Gv):Prop:=∀j:Nat,j<48->G[8+j]?=n_ ⟨[(bareN j:Int),(bareN j:Int),(bareN j:Int),(bareN j:Int)],(j:Int)+1⟩
theorem Bs.goes(h:Bs G)(go:AJ G a i):Bs a:=λj b=>go.get (h j b)
theorem Bs.zero(h:Bs G):∀(l:Nat),l<=48->∀x y,cel G l (bareN l) x y=0
|0,_,x,y=>rfl
|l+1,hl,x,y=>by
 refine xa3 (EV (h l (Y7 hl))) λb c d f=>?_;have e:∀k,k<4->qO G (8+l) k=bareN l:=λk a=>by
  match k,a with
  |0,_=>exact b
  |1,_=>exact c
  |2,_=>exact d
  |3,_=>exact f
 show cel G l (qO G (8+l) _) x y=0;rw[e _ A3];exact h.zero l A3 x y
theorem TK(h:Cz r 0 BF=0):∀k,BB r k (λ_ _=>0)=λ_ _=>0
|0=>rfl
|k+1=>by
 show stp r (BB r k _)=_;rw[TK h k]
 funext x y
 exact h
theorem Bs.lev(ok:GOk G)(h:Bs G):∀l:Nat,l<=48->Ao G (bareN l) (l:Int)
|0,_=>⟨_,ok.leaf 0 A4,Z⟩
|l+1,hl=>⟨_,h l A3,by show(l:Int)+1=((l+1:Nat):Int);lia⟩
theorem JR.bare(ok:GOk G)(h:Bs G)(d:Cz r 0 BF=0)(a:l+2<=48)(b:e<=l):JR r G e (bareN (l+2)) (bareN (l+1)):=by
 refine⟨l,h.lev ok _ a,b,h.lev ok _ A3,λx y _ _=>?_⟩;have z:∀k,k<=48->CS G k (bareN k)=λ_ _=>0:=λk c=>by
  funext x y
  unfold CS;rw[h.zero k c x y];rfl
 rw[z _ a,z _ A3,TK d]
theorem aAr(h:FJ r){cell:Int}(f:IU cell)(a:I_):IU (Cz r cell a):=by
 cases e:La r cell a with
 |none=>rw[NU e];exact f
 |some i =>
  refine xea (NT e) λc b d=>?_;rw[d];exact(h.ok c (D8 b)).makes
theorem aA2:∀xs:List Int,xs.length=8->∃a b c d e f g h,xs=[a,b,c,d,e,f,g,h]
|[a,b,c,d,e,f,g,h],_=>⟨a,b,c,d,e,f,g,h,Z⟩
structure Lf(H:Hp)(g:GA)(G:Gv)(N M:Nat)(r:AC)(m:MA):Prop where
tp:H m.tp=n_ (.tup [.ref m.l,.ref m.kc])
l:H m.l=n_ (.lst (m.ds.map V.ref))
ap:m.l≠g.lv/\m.l≠g.pt/\m.kc≠g.nm
len:m.ds.length=47
nd:m.ds.Nodup
sq:∀(e:Nat) d,m.ds[e]?=n_ d->∃kv,H d=n_ (.dK kv)/\kv.length<=N/\(∀p∈kv,∃i,p.1=Sum.inl i)/\∀(n:Nat) v,Bv kv (Sum.inl (n:Int))=n_ v->∃k:Nat,v=.int (k:Int)/\JR r G e n k
ce:∃kc,H m.kc=n_ (.dT kc)/\kc.length<=M/\∀(ks:I_) v,Bv kc (kOf ks)=n_ v->∃c ar,ks=c::ar/\v=.int (Cz r c ar)
theorem Lf.mono(h:Lf H g G N M r m)(j:N<=i)(k:M<=f):Lf H g G i f r m:=by
 refine⟨h.tp,h.l,h.ap,h.len,h.nd,λe d n=>?_,?_⟩
 .exact Ec (h.sq e d n) λq a b c o=>⟨q,a,C5 b j,c,o⟩
 .exact AX h.ce λp a b c=>⟨p,a,C5 b k,c⟩
theorem Lf.kp{G j:Gv}(h:Lf H g G N M r m)(ok:GOk G)(go:AJ G j i)(k:∀b o,H b=n_ o->b=m.tp\/b=m.l\/b∈m.ds\/b=m.kc->p b=n_ o):Lf p g j N M r m:=by
 refine⟨k _ _ h.tp (.inl Z),k _ _ h.l (.inr (.inl Z)),h.ap,h.len,h.nd,λe d q=>?_,?_⟩
 .refine Ec (h.sq e d q) λz a c f w=>⟨z,k _ _ a (.inr (.inr (.inl (D8 q)))),c,f,λn v y=>?_⟩
  exact xea (w n v y) λx t u=>⟨x,t,u.goes ok go⟩
 .exact AX h.ce λs a c f=>⟨s,k _ _ a (.inr (.inr (.inr Z))),c,f⟩
structure JW(a:Ad)(H:Hp)(g:GA)(G:Gv)(N M:Nat)(p dx mem pr:R_)(r:AC)(m:MA):Prop where
gr:AQ a H g G
ok:GOk G
bs:Bs G
br:H g.br=n_ (.lst ((DE 48).map V.int))
nbr:g.br≠g.lv/\g.br≠g.pt
hp:H p=n_ (.ins a.M3 dx (jf5 g.p mem pr m.l m.kc))
ru:Df a H pr (Et r) r
rok:FJ r
rest:Cz r 0 BF=0
me:Lf H g G N M r m
theorem JW.same{H c:Hp}{p dx mem d:R_}(s:Ay H c)(h:JW a H g G N M p dx mem d r m):JW a c g G N M p dx mem d r m :=
 ⟨h.gr.same s,h.ok,h.bs,s _ _ h.br,h.nbr,s _ _ h.hp,h.ru.same s,h.rok,h.rest,h.me.kp h.ok (AJ.refl h.ok) λb o e _=>s _ _ e⟩
theorem JW.mono{N M c b:Nat}{p dx mem d:R_}(h:JW a H g G N M p dx mem d r m)(e:N<=c)(f:M<=b):JW a H g G c b p dx mem d r m :=
 ⟨h.gr,h.ok,h.bs,h.br,h.nbr,h.hp,h.ru,h.rok,h.rest,h.me.mono e f⟩
theorem Lf.fr(h:Lf H g G N M r m)(d:AQ a H g G)(ok:GOk G)(f:Fr g H p)(go:AJ G n i):Lf p g n N M r m:=by
 refine xea d.pt λu k _=>h.kp ok go λb o e w=>?_;rcases w with z|z|z|z
 .have c:=h.tp;rw[<-z,e]at c;cases c;exact f _ _ e (AI e d.lv A6) (AI e k A6) (AI e d.nm A6)
 .have c:=h.l;rw[z]at e⊢;rw[e]at c;cases c;exact f _ _ e h.ap.1 h.ap.2.1 (AI e d.nm A6)
 .obtain⟨j,q⟩:=M5 z;refine xea (h.sq j b q) λt c _=>?_;rw[e]at c;cases c;exact f _ _ e (AI e d.lv A6) (AI e k A6) (AI e d.nm A6)
 .refine xea h.ce λs c _=>?_;rw[z]at e⊢;rw[e]at c;cases c;exact f _ _ e (AI e d.lv A6) (AI e k A6) h.ap.2.2
theorem Df.fr(h:Df a H p x r)(c:AQ a H g G)(f:Fr g H d):Df a d p x r:=by
 exact xea c.pt λj i _=>h.kp λb o e n=>f _ _ e (AI e c.lv (by intro z;rw[z]at n;cases n)) (AI e i (by intro z;rw[z]at n;cases n)) (AI e c.nm (by intro z;rw[z]at n;cases n))
theorem JW.fr{H c:Hp}{p dx mem e:R_}(h:JW a H g G N M p dx mem e r m)(f:Fr g H c)(d:AQ a c g b)(go:AJ G b i):JW a c g b N M p dx mem e r m:=by
 refine xea h.gr.pt λk j _=>⟨d,go.ok,h.bs.goes go,f _ _ h.br h.nbr.1 h.nbr.2 (AI h.br h.gr.nm A6),h.nbr,f _ _ h.hp (AI h.hp h.gr.lv A6) (AI h.hp j A6) (AI h.hp h.gr.nm A6),h.ru.fr h.gr f,h.rok,h.rest,h.me.fr h.gr h.ok f go⟩
def FrJ(g:GA)(m:MA)(H H':Hp):Prop:=∀b o,H b=n_ o->b≠g.lv->b≠g.pt->b≠g.nm->b≠m.kc->b∉m.ds->H' b=n_ o
theorem FrJ.trans{a c d:Hp}(h:FrJ g m a c)(k:FrJ g m c d):FrJ g m a d:=λb o e f i j l n=>k _ _ (h _ _ e f i j l n) f i j l n
theorem Fr.j{a c:Hp}(h:Fr g a c):FrJ g m a c:=λb o e d f i _ _=>h _ _ e d f i
theorem Ay.j{a c:Hp}(h:Ay a c):FrJ g m a c:=λb o e _ _ _ _ _=>h _ _ e
theorem JW.putC{a:Ad}{H:Hp}{g:GA}{G:Gv}{N M:Nat}{p dx mem s:R_}{r:AC}{m:MA}{i:List (List Key×V)}(h:JW a H g G N M p dx mem s r m)(len:i.length<=M+1)(j:∀(ks:I_) v,Bv i (kOf ks)=n_ v->∃c k,ks=c::k/\v=.int (Cz r c k)):JW a (upd H m.kc (.dT i)) g G N (M+1) p dx mem s r m:=by
 refine xea h.me.ce λA y _=>?_;have f:∀{b v},H b=n_ v->(∀kk,v≠.dT kk)->upd H m.kc (.dT i) b=n_ v:=λ{b v} e n=>by rw[Ax (AI e y (n _))];exact e
 refine xea h.gr.pt λI w x=>⟨⟨f h.gr.hp B1,f h.gr.lv B1,⟨I,f w B1,PairedM.imp (λt q z=>f z B1) x⟩,by rw[Ax (A1a h.me.ap.2.2)];exact h.gr.nm,h.gr.ne⟩,h.ok,h.bs,f h.br B1,h.nbr,f h.hp B1,h.ru.kp λb o e n=>f e λkk z=>(by rw[z]at n;cases n),h.rok,h.rest,⟨f h.me.tp B1,f h.me.l B1,h.me.ap,h.me.len,h.me.nd,λe d u=>?_,⟨i,Af,len,j⟩⟩⟩
 exact Ec (h.me.sq e d u) λB C D E F=>⟨B,f C B1,D,E,F⟩
theorem JW.putS{p dx mem K:R_}{n k:Nat}(h:JW a H g G N M p dx mem K r m)(D:m.ds[e]?=n_ d)(F:H d=n_ (.dK w))(jr:JR r G e n k):JW a (upd H d (.dK (DR w (Sum.inl (n:Int)) (.int (k:Int))))) g G (N+1) M p dx mem K r m:=by
 have c:∀{b v},H b=n_ v->(∀kk,v≠.dK kk)->upd H d (.dK (DR w (Sum.inl (n:Int)) (.int (k:Int)))) b=n_ v:=λ{b v} e n=>by rw[Ax (AI e F (n _))];exact e
 refine xea h.gr.pt λX T U=>AX h.me.ce λW Q R S=>⟨⟨c h.gr.hp B1,c h.gr.lv B1,⟨X,c T B1,PairedM.imp (λt q z=>c z B1) U⟩,c h.gr.nm B1,h.gr.ne⟩,h.ok,h.bs,c h.br B1,h.nbr,c h.hp B1,h.ru.kp λb o e n=>c e λkk z=>(by rw[z]at n;cases n),h.rok,h.rest,⟨c h.me.tp B1,c h.me.l B1,h.me.ap,h.me.len,h.me.nd,λC d' f=>?_,⟨W,c Q B1,R,S⟩⟩⟩
 refine Ec (h.me.sq C d' f) λx B O s P=>?_;by_cases z:C=e
 .rw[z,D]at f;cases f;rw[F]at B;cases B;subst z;refine⟨_,Af,C5 (Ij _ _ _) (U2 O A4),λq i=>?_,λI v j=>?_⟩
  .unfold DR at i;split at i
   .refine xea (D0.mp i) λL E u=>?_;subst u;split
    .exact s L E
    .exact s L E
   .rcases F6.mp i with y|y
    .exact s q y
    .rw[D4.mp y];exact⟨_,Z⟩
  .rw[FC]at j;split at j
   .rename_i y;have:I=n:=by have:=Sum.inl.inj y;lia
    rw[this];cases j;exact⟨k,Z,jr⟩
   .exact P I v j
 .have A:d'≠d:=λy=>z (by
   rw[y]at f;exact(List.getElem?_inj (B9.mp f).1 h.me.nd).mp (f.trans D.symm))
  exact⟨x,by rw[Ax A];exact B,C5 O (F5 _ _),s,P⟩
section
variable{P:N_}{w:Q_}{K:O_}{mg:C_}{n8:T_}{a:Ad}
inductive aAX(a:Ad)(vs:List V)(H:Hp)(Q:VK):Prop
|mk (p dx mem pr t:R_) (g:GA) (G:Gv) (N M:Nat) (r:AC) (m:MA) (c:Int) (ar:I_) (_:vs=[.ref p,.ref t]) (_:JW a H g G N M p dx mem pr r m) (_:H t=n_ (.tup ((c::ar).map V.int))) (_:ar.length=8) (_:∀x∈c::ar,IU x) (_:M<9000000) (_:∀H',(∀b o,H b=n_ o->b≠m.kc->H' b=n_ o)->JW a H' g G N (M+1) p dx mem pr r m->Q (.int (Cz r c ar)) H'):aAX a vs H Q
def WM(a:Ad):Sp:=λvs H Q _=>aAX a vs H Q
theorem aEz(F:Fun K "cell_after" "Jumps.cell_after" Da f fd)(T:Top K mg a)(bH:Co P w K mg n8 CX0 4 a.N1 "state_of" LP (ZT a))(aT:Co P w K mg n8 CX0 3 a.N1 "leaf" SV (Sj a))(bQ:Cal P w K mg n8 CX0 5 "becomes" MX (WN a)):AM P w K mg n8 CX0 6 f fd Ek (WM a):=by
 refine F.ok CJ D_9 λai A ae s H vs Q E X h=>?_
 obtain⟨p,dx,mem,pr,t,g,G,N,M,r,m,c,d,rfl,q,ht,h8,aa,few,k⟩:=h;refine AX q.me.ce λkc c1 c2 c3=>?_;have Y:H t=n_ (.tup ((kOf (c::d)).map kV)):=by rw[aBM];exact ht
 refine⟨_,(Ae (Am (i:=2) CJ.nd Z O_9 (IW (DM X) (AF (pv 0) Z) (pv 1) ⟨Z,Z,Z,Z⟩)) (Ae (AO (AA El (pv 2) Cg (AD _)) (Ae (Eg (i:=3) Z CJ.nd Z Z (Bl.of (So:=Ak Da) (No:=GS) (N:=["one","self"]) (k:=1) (cs:=[0]) Z Z A0) (SB (pv 1)) (λ_ _ _=>(AW (i:=0) A0 Z Z)) (λ_ _ _=>Bm) (λ_ _ _=>(AK (SE (K:=K) Z (pv 1) Z) bH (rm X) Aq (Aa (pv 0) Ab)))) (Ae (Am (i:=2) CJ.nd Z O_9 (AK (AF (pv 0) Z) aT (rm X) Aq (Aa (Ar bQ (rm X) Z Aq (Aa (AF (pv 0) Z) (Aa (Aj Az (pv 3) Ac R_9) (Aa (Qh Ss (pv 3) (Pm Ac) WW) Ab)))) Ab))) (Ah (Fw (DM X) (AF (pv 0) Z) (pv 1) (pv 2) Z)))) AB) (Ah (Au (pv 2))))),?_⟩;refine xwf Z Z q.hp T.Q1 T.a_ (aBJ _ _ _ _ _) ⟨m.kc,Z,.inr ⟨_,.inl c1⟩,(xq1 Z ⟨_,GW.t (k:=kOf (c::d)) c1 Y,?_⟩)⟩;cases ev:Bv kc (kOf (c::d))with
 |some v =>
  refine Cw (c3 _ v ev) λc' ah e1 e2=>?_;cases e1;rw[e2];exact xq1 Z ⟨Z,(xq1 Z (Ba (xq1 Z (k H (λb o e _=>e) (q.mono (B8 _) (T5 _))))))⟩
 |none =>
  refine xq1 Z ⟨Z,(xq1 Z (BR ?_))⟩;refine xq1 Z ⟨t,Z,⟨_,SqT.of ht⟩,?_⟩;refine Tq (xs:=(c::d).map V.int) (λi l D=>H=D/\l=((c::d).take i).map V.int) ⟨Z,Z⟩ (λi l D _ z=>z.1▸SqT.of ht) ?_ ?_
  .intro i v l D S af;obtain⟨rfl,rfl⟩:=af;rw[C0]at S;refine xea (D5.mp S) λx ex ab=>?_;subst ab;obtain⟨x0,x8⟩:=aa x (D8 ex);obtain⟨n,rfl⟩:=M0 x0;refine⟨⟨[n_ (.int (n:Int))],Z,Z⟩,?_,FY (xq1 Z (xq5 q.hp T.Q1 T.N2 (En _ _ _ _ _) (xq3 Z q.gr.hp (VN g) (xq1 Z ⟨g,G,n,_,Z,q.gr,q.ok.leaf n A3,Z,Z,?_⟩))))⟩
   .rw[B7,L7];exact D6 (R9 _ _) (by rw[F0,h8];decide)
   .rw[F7,ex,Q4,C7];rfl
  .intro l D ag L hL;obtain⟨rfl,rfl⟩:=ag;rw[B7,J0];generalize O:upd H L _=H1;obtain⟨s1,U⟩:=alc hL O;have u:=q.same s1;refine xwf Z Z u.hp T.Q1 T.N2 (En _ _ _ _ _) (xq3 Z u.gr.hp (WZ g) (xwf Z Z u.hp T.Q1 T.aAE (aEl _ _ _ _ _) (xwi Z Z Z (SqL.of U) (Ai (j:=0) Z) ?_)));refine xq1 Z ⟨1,Z,L,(xq1 Z ⟨SqL.of U,λSL ad=>?_⟩)⟩;have R:Tl ((c::d).map V.int) (n_ 1) o0=d.map V.int:=by
    obtain⟨x1,x2,x3,x4,x5,x6,x7,x8,rfl⟩:=aA2 d h8;rfl
   rw[R];generalize eG:upd H1 SL _=D;obtain⟨s2,ac⟩:=alc ad eG;have B:=u.same s2;refine⟨pr,SL,_,r,c,d,Z,B.ru,B.rok.rok,ac,λH3 s3=>?_⟩;have W:=B.same s3;have C:=(s1.trans s2).trans s3;have I:=aAr q.rok (aa c C8) d;refine⟨g.p,_,Z,I.1,I.2,?_⟩;refine xq1 Z (xq1 Z (xq5 W.hp T.Q1 T.a_ (aBJ _ _ _ _ _) (xq1 Z ⟨m.kc,(xq1 Z ⟨Mq.t (k:=kOf (c::d)) (C _ _ c1) (C _ _ Y) (D6 (show kc.length<=9000000 by lia) A4),?_⟩)⟩)));refine xq1 Z (k _ (λb o e n=>by rw[Ax n];exact C _ _ e) (W.putC (C5 (Ij _ _ _) (U2 c2 A4)) λks v hv=>?_));rw[FC]at hv;split at hv
   .rename_i y;rw[JK y];cases hv;exact⟨c,d,Z,Z⟩
   .exact c3 ks v hv
end
def FrC(g:GA)(m:MA)(H H':Hp):Prop:=∀b o,H b=n_ o->b≠g.lv->b≠g.pt->b≠g.nm->b≠m.kc->H' b=n_ o
theorem FrC.trans{a c d:Hp}(h:FrC g m a c)(k:FrC g m c d):FrC g m a d:=λb o e f i j l=>k _ _ (h _ _ e f i j l) f i j l
theorem FrC.j{a c:Hp}(h:FrC g m a c):FrJ g m a c:=λb o e d f i k _=>h _ _ e d f i k
theorem Fr.c(h:Fr g a d):FrC g m a d:=λb o e f i j _=>h _ _ e f i j
def spNo:Sp:=λ_ _ _ _=>False
theorem AM.no{K:O_}{mg:C_}{k:Nat}{ps:K_}:AM P w K mg a CX k f b ps spNo :=
 ⟨λ_ _ _ _ h=>h.elim,λ_ _ _ _ _ _ _ _ _ _ _ _ _ h=>h.elim⟩
theorem aDo(h:l<=48):((DE 48).map V.int)[l]?=n_ (.int (bareN l:Int)):=by
 unfold DE;rw[C0,C0,T1 (D6 h A4)];rfl
section
variable{P:N_}{w:Q_}{K:O_}{mg:C_}{n8:T_}{a:Ad}
theorem aH0 {c:TA}    (h:c σ H λxs b=>xs.length<=sizeLine/\∀p,b p=o0->D.rt (.ref p) (upd b p (.lst xs))):aHz (aDH c) D σ H:=h
theorem Ib  {tr:TA}    (h:b σ H λx c=>tr σ c λxs d=>Q (x::xs) d):CI b tr σ H Q:=h
theorem ixt{K:O_}{t:R_}{j:Int}(r:σ[i]?=n_ (n_ (.ref t)))(h:H t=n_ (.tup xs))(e:atI xs j=n_ v)(k:Q v H):tOp (Lo K) (GY i) (tC (V.int j)) σ H Q:=⟨_,r,t,xs,j,v,Z,Z,SqT.of h,e,k⟩
theorem ixp{K:O_}{H:Hp}{p t:R_}{b:H_}{n:Nat}{Q:VK}(h:H p=n_ (.lst (b.map V.ref)))(e:b[n]?=n_ t)(k:Q (.ref t) H):aFa K (.ref p) (.int n) H Q:=⟨p,_,n,_,Z,Z,SqL.of h,Ai (by rw[C0,e];rfl),k⟩
structure Ln(a:Ad)(g:GA)(H0:Hp)(G0:Gv)(j:Nat)(H:Hp)(G:Gv):Prop where
fr:Fr g H0 H
kt:∀{b:R_}{xs:List V},H0 b=n_ (.tup xs)->H b=n_ (.tup xs)
gr:AQ a H g G
go:AJ G0 G j
theorem lnk{a:Ad}{r H:Hp}{g:GA}{G0 G:Gv}{j:Nat}{u:R_}{x y z w:Nat}{l:Int}{Q:VK}(s:Ln a g r G0 j H G)(A:H u=o0)(d:Ao G0 x l/\Ao G0 y l/\Ao G0 z l/\Ao G0 w l)(o:l<=47)(few:G0.length+j<9000000)
  (k:∀(n:Nat)(c:Gv)(f:Hp),Ln a g r G0 (j+1) f c->AJ G c 1->c[n]?=n_ ⟨[(x:Int),(y:Int),(z:Int),(w:Int)],l+1⟩->Q (.int n) f):Wo a [.ref g.p,.ref u] (upd H u (.tup [.int x,.int y,.int z,.int w])) Q:=by
 generalize m:upd H u _=D;obtain⟨q,t⟩:=alc A m;have i:=s.gr.same q;have B:=s.go.few;refine⟨g,G,u,x,y,z,w,l,Z,i,s.go.ok,t,⟨s.go.lev d.1,s.go.lev d.2.1,s.go.lev d.2.2.1,s.go.lev d.2.2.2⟩,o,D6 B few,λn c f fr v go e=>k n c f ⟨s.fr.trans ((Ay.fr q).trans fr),λ{b xs} e=>?_,v,s.go.trans go⟩ go e⟩;refine xea i.pt λus C _=>?_;have h:=q _ _ (s.kt e);exact fr _ _ h (AI h i.lv A6) (AI h C A6) (AI h i.nm A6)
theorem ttup {c:TA}    (h:c σ H λxs b=>xs.length<=sizeLine/\∀p,b p=o0->Q (.ref p) (upd b p (.tup xs))):YI c σ H Q:=h
theorem al9{P:Int->Prop}{a b c d e f g h i:Int}(k:P a)(l:P b)(m:P c)(n:P d)(o:P e)(p:P f)(q:P g)(r:P h)(s:P i):∀x∈[a,b,c,d,e,f,g,h,i],P x:=by
 intro x j;simp only[C1,D9,A2e]at j;rcases j with rfl|rfl|rfl|rfl|rfl|rfl|rfl|rfl|rfl<;>assumption
structure Lc(g:GA)(m:MA)(H0 H:Hp):Prop where
fr:FrC g m H0 H
kt:∀{b:R_}{xs:List V},H0 b=n_ (.tup xs)->H b=n_ (.tup xs)
theorem celT{a:Ad}{q H:Hp}{p dx mem n u:R_}{c:Int}(t:JW a H g G N M p dx mem n r m)(v:Lc g m q H)(B:H u=o0)(f:∀x∈c::d,IU x)(A:d.length=8)(z:M<9000000)
  (h:∀(k:Nat)(Y:Hp),Cz r c d=k->k<8->Lc g m q Y->JW a Y g G N (M+1) p dx mem n r m->Q (.int k) Y):aAX a [.ref p,.ref u] (upd H u (.tup ((c::d).map V.int))) Q:=by
 generalize j:upd H u _=X;obtain⟨s,C⟩:=alc B j;have i:=t.same s;refine⟨p,dx,mem,n,u,g,G,N,M,r,m,c,d,Z,i,C,A,f,z,λY fr l=>?_⟩;obtain⟨E,I⟩:=aAr t.rok (f c (.head ..)) d;obtain⟨k,e⟩:=M0 E;rw[e];refine h k Y e A3 ⟨v.fr.trans λb o e _ _ _ D=>fr _ _ (s _ _ e) D,λ{b xs} e=>?_⟩ l;refine xea i.me.ce λF y _=>?_;have e:=s _ _ (v.kt e);exact fr _ _ e (AI e y A6)
theorem aCL{K:O_}{a:Ad}{p dx mem pr:R_}{f h i j l n o q s:List V}{j1 j2 j3 j4 j5 j6 j7 j8 j9 t u v y z A B C D:Int}(F:JW a H g G N M p dx mem pr r m)(c:Lc g m b H)(h1:b t1=n_ (.tup f))(h2:b t2=n_ (.tup h))(h3:b t3=n_ (.tup i))(h4:b t4=n_ (.tup j))(h5:b t5=n_ (.tup l))(h6:b t6=n_ (.tup n))(h7:b t7=n_ (.tup o))(h8:b t8=n_ (.tup q))(h9:b t9=n_ (.tup s))(E:∀x∈[t,u,v,y,z,A,B,C,D],IU x)(hM:M<9000000)
  (k:∀(k:Nat)(Y:Hp),Cz r t [u,v,y,z,A,B,C,D]=k->k<8->Lc g m b Y->JW a Y g G N (M+1) p dx mem pr r m->Q (.int k) Y) (e:σ[0]?=n_ (n_ (.ref p))/\(σ[I]?=n_ (n_ (.ref t1))/\atI f j1=n_ (.int t))/\(σ[L]?=n_ (n_ (.ref t2))/\atI h j2=n_ (.int u))/\(σ[O]?=n_ (n_ (.ref t3))/\atI i j3=n_ (.int v))/\(σ[R]?=n_ (n_ (.ref t4))/\atI j j4=n_ (.int y))/\(σ[S]?=n_ (n_ (.ref t5))/\atI l j5=n_ (.int z))/\(σ[T]?=n_ (n_ (.ref t6))/\atI n j6=n_ (.int A))/\(σ[U]?=n_ (n_ (.ref t7))/\atI o j7=n_ (.int B))/\(σ[X]?=n_ (n_ (.ref t8))/\atI q j8=n_ (.int C))/\(σ[i9]?=n_ (n_ (.ref t9))/\atI s j9=n_ (.int D)):=by exact⟨Z,⟨Z,Z⟩,⟨Z,Z⟩,⟨Z,Z⟩,⟨Z,Z⟩,⟨Z,Z⟩,⟨Z,Z⟩,⟨Z,Z⟩,⟨Z,Z⟩,⟨Z,Z⟩⟩) :
  WA a.M3 "cell_after" (WM a) [] E0 (GY 0) (CI (YI (CI (tOp (Lo K) (GY I) (tC (V.int j1))) (CI (tOp (Lo K) (GY L) (tC (V.int j2))) (CI (tOp (Lo K) (GY O) (tC (V.int j3))) (CI (tOp (Lo K) (GY R) (tC (V.int j4))) (CI (tOp (Lo K) (GY S) (tC (V.int j5))) (CI (tOp (Lo K) (GY T) (tC (V.int j6))) (CI (tOp (Lo K) (GY U) (tC (V.int j7))) (CI (tOp (Lo K) (GY X) (tC (V.int j8))) (CI (tOp (Lo K) (GY i9) (tC (V.int j9))) PF)))))))))) PF) σ H Q:=by
 apply Br;intro G_ d;obtain⟨r0,⟨r1,e1⟩,⟨r2,e2⟩,⟨r3,e3⟩,⟨r4,e4⟩,⟨r5,e5⟩,⟨r6,e6⟩,⟨r7,e7⟩,⟨r8,e8⟩,⟨r9,e9⟩⟩:=e;apply d;clear d G_;exact⟨_,r0,(xq3 Z F.hp (aBh _ _ _ _ _) (ixt r1 (c.kt h1) e1 (ixt r2 (c.kt h2) e2 (ixt r3 (c.kt h3) e3 (ixt r4 (c.kt h4) e4 (ixt r5 (c.kt h5) e5 (ixt r6 (c.kt h6) e6 (ixt r7 (c.kt h7) e7 (ixt r8 (c.kt h8) e8 (ixt r9 (c.kt h9) e9 ⟨(by show 9<=sizeLine;decide),λ_ hu=>celT F c hu E Z hM k⟩))))))))))⟩
inductive aAd(a:Ad)(vs:List V)(H:Hp)(Q:VK):Prop
|mk (p dx mem pr:R_) (g:GA) (G:Gv) (N M:Nat) (r:AC) (m:MA) (n:Nat) (_:vs=[.ref p,.int n]) (_:JW a H g G N M p dx mem pr r m) (_:Ao G n ((1+1:Nat):Int)) (_:M<8500000) (_:G.length<8000000) (_:∀(k:Nat)(G':Gv)(H':Hp),FrC g m H H'->JW a H' g G' N (M+4) p dx mem pr r m->AJ G G' 1->JR r G' 0 n k->Q (.int k) H'):aAd a vs H Q
def Si(a:Ad):Sp:=λvs H Q _=>aAd a vs H Q
theorem aCs(F:Fun K "middle_after" "Jumps.middle_after" DB f fd)(T:Top K mg a)(a6:Co P w K mg n8 CX0 2 a.N1 "linked" AZ (Ey a))(aK:Co P w K mg n8 CX0 6 a.M3 "cell_after" Ek (WM a)):AM P w K mg n8 CX0 7 f fd LP (Si a):=by
 refine F.ok Bu (λvs H Q E h=>?_) (λbj A ay s H vs Q E W h=>?_)
 .apply Br;intro G_ C;obtain⟨p,dx,mem,pr,g,G,N,M,r,m,n,rfl,_⟩:=h;apply C;clear C G_;rfl
 .apply Br;intro G_ C;obtain⟨p,dx,mem,pr,g,G,N,M,r,m,n,rfl,q,hl,S,few,k⟩:=h;refine CM (q.ok.four hl) λqa qb qc qd en la lb lc ld=>CM (q.ok.four (l:=0) la) λa0 a1 a2 a3 ea au X Y I=>CM (q.ok.four (l:=0) lb) λb0 b1 b2 b3 eb aa av L ab=>CM (q.ok.four (l:=0) lc) λc0 c1 c2 c3 ec ac O aw ad=>CM (q.ok.four (l:=0) ld) λd0 d1 d2 d3 ed R ae af ax=>xea q.gr.pt λts U V=>xea (PairedM.get V en) λt et ht=>xea (PairedM.get V ea) λta ak v=>xea (PairedM.get V eb) λtb al y=>xea (PairedM.get V ec) λtc am z=>xea (PairedM.get V ed) λtd an B=>?_;apply C;clear C G_;refine⟨_,(Ae (Am (i:=2) Bu.nd Z O_9 (Aj Az (AF (AF (pv 0) Z) Z) (pv 1) R_9)) (Ae (Am (i:=3) Bu.nd Z O_9 (Aj Az (AF (AF (pv 0) Z) Z) (Aj Al (pv 2) Ac R_9) R_9)) (Ae (Am (i:=4) Bu.nd Z O_9 (Aj Az (AF (AF (pv 0) Z) Z) (Aj Al (pv 2) Ac R_9) R_9)) (Ae (Am (i:=5) Bu.nd Z O_9 (Aj Az (AF (AF (pv 0) Z) Z) (Aj Al (pv 2) Ac R_9) R_9)) (Ae (Am (i:=6) Bu.nd Z O_9 (Aj Az (AF (AF (pv 0) Z) Z) (Aj Al (pv 2) Ac R_9) R_9)) (Ah (Au (AK (AF (pv 0) Z) a6 (rm W) Aq (AV (Aa (AK (pv 0) aK (rm W) Aq (AV (Aa (Aj Al (pv 3) Ac R_9) (Aa (Aj Al (pv 3) Ac R_9) (Aa (Aj Al (pv 3) Ac R_9) (Aa (Aj Al (pv 4) Ac R_9) (Aa (Aj Al (pv 3) Ac R_9) (Aa (Aj Al (pv 4) Ac R_9) (Aa (Aj Al (pv 5) Ac R_9) (Aa (Aj Al (pv 5) Ac R_9) (Aa (Aj Al (pv 6) Ac R_9) Ab))))))))) Ab)) (Aa (AK (pv 0) aK (rm W) Aq (AV (Aa (Aj Al (pv 4) Ac R_9) (Aa (Aj Al (pv 3) Ac R_9) (Aa (Aj Al (pv 4) Ac R_9) (Aa (Aj Al (pv 4) Ac R_9) (Aa (Aj Al (pv 3) Ac R_9) (Aa (Aj Al (pv 4) Ac R_9) (Aa (Aj Al (pv 5) Ac R_9) (Aa (Aj Al (pv 6) Ac R_9) (Aa (Aj Al (pv 6) Ac R_9) Ab))))))))) Ab)) (Aa (AK (pv 0) aK (rm W) Aq (AV (Aa (Aj Al (pv 5) Ac R_9) (Aa (Aj Al (pv 3) Ac R_9) (Aa (Aj Al (pv 3) Ac R_9) (Aa (Aj Al (pv 4) Ac R_9) (Aa (Aj Al (pv 5) Ac R_9) (Aa (Aj Al (pv 6) Ac R_9) (Aa (Aj Al (pv 5) Ac R_9) (Aa (Aj Al (pv 5) Ac R_9) (Aa (Aj Al (pv 6) Ac R_9) Ab))))))))) Ab)) (Aa (AK (pv 0) aK (rm W) Aq (AV (Aa (Aj Al (pv 6) Ac R_9) (Aa (Aj Al (pv 3) Ac R_9) (Aa (Aj Al (pv 4) Ac R_9) (Aa (Aj Al (pv 4) Ac R_9) (Aa (Aj Al (pv 5) Ac R_9) (Aa (Aj Al (pv 6) Ac R_9) (Aa (Aj Al (pv 5) Ac R_9) (Aa (Aj Al (pv 6) Ac R_9) (Aa (Aj Al (pv 6) Ac R_9) Ab))))))))) Ab)) Ab)))) Ab))))))))),?_⟩;refine Bc ?_;intro a9 be k0 D az;refine xwf Z Z q.hp T.Q1 T.N2 (En _ _ _ _ _) (xq5 q.gr.hp T.L0 T.L4 (Cs g) (xq1 Z (ixp U et ?_)));refine D (Bc ?_);intro ba bf k1 D a4;refine xwf Z Z q.hp T.Q1 T.N2 (En _ _ _ _ _) (xq5 q.gr.hp T.L0 T.L4 (Cs g) (ixt Z ht Z (ixp U ak ?_)));refine D (Bc ?_);intro bb bg k2 D a5;refine xwf Z Z q.hp T.Q1 T.N2 (En _ _ _ _ _) (xq5 q.gr.hp T.L0 T.L4 (Cs g) (ixt Z ht Z (ixp U al ?_)));refine D (Bc ?_);intro bc bh k3 D a7;refine xwf Z Z q.hp T.Q1 T.N2 (En _ _ _ _ _) (xq5 q.gr.hp T.L0 T.L4 (Cs g) (ixt Z ht Z (ixp U am ?_)));refine D (Bc ?_);intro bd bi k4 D a8;refine xwf Z Z q.hp T.Q1 T.N2 (En _ _ _ _ _) (xq5 q.gr.hp T.L0 T.L4 (Cs g) (ixt Z ht Z (ixp U an ?_)));refine D ?_;have st:∀{x:Nat},Ao G x ((0:Nat):Int)->IU (x:Int):=λ{x} h=>by
   have:=q.ok.cell h;exact⟨O4 _,by lia⟩
  have c_:Lc g m H H:=⟨λ_ _ e _ _ _ _=>e,λe=>e⟩
  refine xwf Z Z q.hp T.Q1 T.N2 (En _ _ _ _ _) (xq3 Z q.gr.hp (Cc g) ?_);refine Ib (ttup (Ib (aCL q c_ v v v y v y z z B (al9 (st I) (st au) (st X) (st aa) (st Y) (st L) (st ac) (st O) (st R)) (D3 S A4) λk0 Y0 ag ao x0 j0=>?_)));refine Ib (aCL j0 x0 y v y y v y z B B (al9 (st L) (st X) (st aa) (st av) (st I) (st ab) (st O) (st R) (st ae)) A3 λk1 Y1 ah aq x1 j1=>?_);refine Ib (aCL j1 x1 z v v y z B z z B (al9 (st O) (st Y) (st I) (st L) (st ac) (st R) (st aw) (st ad) (st af)) A3 λk2 Y2 ai ar x2 j2=>?_);refine Ib (aCL j2 x2 B v y y z B z B B (al9 (st R) (st I) (st L) (st ab) (st O) (st ae) (st ad) (st af) (st ax)) A3 λk3 Y3 aj as x3 j3=>?_);have lf:∀{k:Nat},k<8->Ao G k ((0:Nat):Int):=λ{k} h=>⟨_,q.ok.leaf k h,Z⟩
  refine⟨S_4,λu hu=>lnk (⟨.refl _ _,λe=>e,j3.gr,.refl q.ok⟩:Ln a g Y3 G 0 Y3 G) hu ⟨lf ao,lf aq,lf ar,lf as⟩ A4 (D3 few A4) λx G' H' s go e=>?_⟩;refine k x G' H' (x3.fr.trans (Fr.c s.fr)) (j3.fr s.fr s.gr go) go ⟨0,go.lev hl,B8 0,⟨_,e,Z⟩,?_⟩;refine xa3 (EV (go.get ea)) λb d j o=>?_;subst b;subst d;subst j;subst o;refine xa3 (EV (go.get eb)) λb d j o=>?_;subst b;subst d;subst j;subst o;refine xa3 (EV (go.get ec)) λb d j o=>?_;subst b;subst d;subst j;subst o;refine xa3 (EV (go.get ed)) λb d j o=>?_;subst b;subst d;subst j;subst o;refine xa3 (EV (go.get en)) λb d j o=>?_;subst b;subst d;subst j;subst o;refine xa3 (EV e) λb d j o=>?_;subst b;subst d;subst j;subst o;intro x' y' hx hy
  match x',hx,y',hy with
  |0,_,0,_=>exact ag.symm
  |1,_,0,_=>exact ah.symm
  |0,_,1,_=>exact ai.symm
  |1,_,1,_=>exact aj.symm
inductive aF9(a:Ad)(vs:List V)(H:Hp)(Q:VK):Prop
|mk (p dx gp mem pr l kc:R_) (g:GA) (G:Gv) (n e:Nat) (q:Sq) (_:vs=[.ref p,.int n,.int e]) (_:H p=n_ (.ins a.M3 dx (jf5 g.p mem pr l kc))) (_:AQ a H g G) (_:G[n]?=n_ q) (_:2+(e:Int)<=q.lev) (_:Q .non H):aF9 a vs H Q
def aHc(a:Ad):Sp:=λvs H Q _=>aF9 a vs H Q
theorem aG0(F:Fun K "check_jump" "Jumps.check_jump" Ef f fd)(T:Top K mg a)(r:Co P w K mg n8 CX0 3 a.N1 "level_of" LP (Ng a))(t:Cal P w K mg n8 CX0 1 "is_whole" VS Vy):AM P w K mg n8 CX0 4 f fd Rc (aHc a):=by
 refine F.ok FV (λvs H Q E h=>?_) (λu A d s H vs Q E o h=>?_)
 .apply Br;intro c b;obtain⟨p,dx,v,mem,y,l,x,g,G,n,e,q,rfl,_⟩:=h;apply b;clear b c;rfl
 .apply Br;intro c b;obtain⟨p,dx,v,mem,y,l,x,g,G,n,e,q,rfl,m,j,eq,z,k⟩:=h;apply b;clear b c;refine⟨_,(Ae (Am (i:=3) FV.nd Z O_9 (AK (AF (pv 0) Z) r (rm o) Aq (Aa (pv 1) Ab))) (Ae (AO (AA IZ (pv 3) (Cu Z T.d_) (AD _)) (Ah Bp) AB) (Ah (AO (PW.pt (Nt (Dr (CP (Ar t (rm o) Z Aq (Aa (pv 2) Ab)))) (Jv (Dr (Ur Mv Mv Ac (pv 2) (AE Bq (pv 3) (Cu Z T.d_))))))) (Ah Bp) AB)))),?_⟩;refine xwf Z Z m T.Q1 T.N2 (En _ _ _ _ _) (xq3 Z j.hp (Em g) (xq1 Z ⟨g,G,n,q,Z,j,eq,?_⟩));refine xwb Z Z Z (xq1 Z ?_);rw[A0f (by lia:¬q.lev<2)];refine Ba ⟨_,Z,_,Z,o4,Z,Ba ⟨_,Z,_,_,Z,Z,_,Z,?_⟩⟩;rw[A0e (O4 _:(0:Int)<=(e:Int))];refine BR (xwb Z Z Z (xq2 Z Z (xq1 Z ?_)));rw[A0e (by lia:(e:Int)<=q.lev-2)];exact Ba k
end
end J
namespace J
open PySem L2
theorem To(G:Gv):∀(l n x y i j:Nat),cel G l n (x+2^l*i) (y+2^l*j)=cel G l n x y
|0,n,x,y,i,j=>rfl
|l+1,n,x,y,i,j=>by
 show cel G l (qO G n (((x+2^(l+1)*i)/2^l)%2+2*(((y+2^(l+1)*j)/2^l)%2))) (x+2^(l+1)*i) (y+2^(l+1)*j)=cel G l (qO G n ((x/2^l)%2+2*((y/2^l)%2))) x y;have p:0<2^l:=Y6 A4;have e:∀i:Nat,2^(l+1)*i=2^l*(2*i):=λi=>by rw[L6,Nat.mul_assoc]
 rw[e i,e j,Q8 _ _ p,Q8 _ _ p,S4,S4];exact To G l _ x y (2*i) (2*j)
theorem QJ(G:Gv)(l n:Nat){x y i j:Nat}(c:x<2^l)(d:y<2^l)(a:i<2)(b:j<2):CS G (l+1) n (x+2^l*i) (y+2^l*j)=CS G l (qO G n (i+2*j)) x y:=by
 unfold CS;show((cel G l (qO G n (((x+2^l*i)/2^l)%2+2*(((y+2^l*j)/2^l)%2))) (x+2^l*i) (y+2^l*j):Nat):Int)=_;have p:0<2^l:=Y6 A4;rw[Q8 _ _ p,Q8 _ _ p,O2 c,O2 d,N7,N7,N8 a,N8 b,To]
theorem TM(r:AC)(c:Nat->Nat->Int)(n:Nat):∀m,BB r (m+n) c=BB r m (BB r n c)
|0=>by rw[N7];rfl
|m+1=>by
 rw[show m+1+n=(m+n)+1 by lia];show stp r (BB r (m+n) c)=stp r (BB r m (BB r n c));rw[TM r c n m]
theorem TL(r:AC){c d:Nat->Nat->Int}{X Y:Nat}:∀(k x y:Nat),k<=x->k<=y->(∀u v,x-k<=u->u<=x+k->y-k<=v->v<=y+k->c u v=d (u+X) (v+Y))->BB r k c x y=BB r k d (x+X) (y+Y)
|0,x,y,_,_,h=>h x y A3 A3 A3 A3
|k+1,x,y,hx,hy,h=>by
 have e:∀u v,x-1<=u->u<=x+1->y-1<=v->v<=y+1->BB r k c u v=BB r k d (u+X) (v+Y):=λu v f g i j=>TL r k u v A3 A3 λa b l m n o=>h a b A3 A3 A3 A3;show Cz r (BB r k c x y) [BB r k c (x-1) (y-1),BB r k c x (y-1),BB r k c (x+1) (y-1),BB r k c (x-1) y,BB r k c (x+1) y,BB r k c (x-1) (y+1),BB r k c x (y+1),BB r k c (x+1) (y+1)]=Cz r (BB r k d (x+X) (y+Y)) [BB r k d (x+X-1) (y+Y-1),BB r k d (x+X) (y+Y-1),BB r k d (x+X+1) (y+Y-1),BB r k d (x+X-1) (y+Y),BB r k d (x+X+1) (y+Y),BB r k d (x+X-1) (y+Y+1),BB r k d (x+X) (y+Y+1),BB r k d (x+X+1) (y+Y+1)];rw[e x y (R3 _ _) (F5 _ _) (R3 _ _) (F5 _ _),e (x-1) (y-1) (B8 _) A3 (B8 _) A3,e x (y-1) (R3 _ _) (F5 _ _) (B8 _) A3,e (x+1) (y-1) A3 (B8 _) (B8 _) A3,e (x-1) y (B8 _) A3 (R3 _ _) (F5 _ _),e (x+1) y A3 (B8 _) (R3 _ _) (F5 _ _),e (x-1) (y+1) (B8 _) A3 A3 (B8 _),e x (y+1) (R3 _ _) (F5 _ _) A3 (B8 _),e (x+1) (y+1) A3 (B8 _) A3 (B8 _)];rw[show x-1+X=x+X-1 by lia,show y-1+Y=y+Y-1 by lia,show x+1+X=x+X+1 by lia,show y+1+Y=y+Y+1 by lia]
def Vw(G:Gv)(c:Nat->Nat->Int)(l m X Y:Nat):Prop:=∀x y,x<2^l->y<2^l->CS G l m x y=c (x+X) (y+Y)
theorem Vw.q{G:Gv}{c:Nat->Nat->Int}{l m X Y i j:Nat}(h:Vw G c (l+1) m X Y)(a:i<2)(b:j<2):Vw G c l (qO G m (i+2*j)) (X+2^l*i) (Y+2^l*j):=λx y d e=>by
 rw[<-QJ G l m d e a b,h _ _ ?_ ?_]
 .rw[show x+2^l*i+X=x+(X+2^l*i) by lia,show y+2^l*j+Y=y+(Y+2^l*j) by lia]
 .rw[L6];have:2^l*i<=2^l*1:=M9 _ (O3 a);lia
 .rw[L6];have:2^l*j<=2^l*1:=M9 _ (O3 b);lia
theorem Vw.of{G:Gv}{c:Nat->Nat->Int}{l m X Y:Nat}(d:Vw G c l (qO G m 0) X Y)(e:Vw G c l (qO G m 1) (X+2^l) Y)(f:Vw G c l (qO G m 2) X (Y+2^l))(g:Vw G c l (qO G m 3) (X+2^l) (Y+2^l)):Vw G c (l+1) m X Y:=λx y h k=>by
 rw[L6]at h k;by_cases b:x<2^l
 .by_cases a:y<2^l
  .have:=QJ G l m b a (i:=0) (j:=0) A4 A4;rw[show x+2^l*0=x by lia,show y+2^l*0=y by lia]at this;rw[this];exact d x y b a
  .have:=QJ G l m b (y:=y-2^l) A3 (i:=0) (j:=1) A4 A4;rw[show x+2^l*0=x by lia,show y-2^l+2^l*1=y by lia]at this;rw[this,f x (y-2^l) b A3,show y-2^l+(Y+2^l)=y+Y by lia]
 .by_cases a:y<2^l
  .have:=QJ G l m (x:=x-2^l) A3 a (i:=1) (j:=0) A4 A4;rw[show y+2^l*0=y by lia,show x-2^l+2^l*1=x by lia]at this;rw[this,e (x-2^l) y A3 a,show x-2^l+(X+2^l)=x+X by lia]
  .have:=QJ G l m (x:=x-2^l) (y:=y-2^l) A3 A3 (i:=1) (j:=1) A4 A4;rw[show x-2^l+2^l*1=x by lia,show y-2^l+2^l*1=y by lia]at this;rw[this,g (x-2^l) (y-2^l) A3 A3,show x-2^l+(X+2^l)=x+X by lia,show y-2^l+(Y+2^l)=y+Y by lia]
theorem Vw.jump{c:Nat->Nat->Int}{l e m k X Y:Nat}(h:Vw G c (l+2) m X Y)(a:e<=l)(j:∀x y,x<2^(l+1)->y<2^(l+1)->CS G (l+1) k x y=BB r (2^e) (CS G (l+2) m) (x+2^l) (y+2^l)):Vw G (BB r (2^e) c) (l+1) k (X+2^l) (Y+2^l):=λx y b d=>by
 have p:2^e<=2^l:=O9 A4 a;have o:2^(l+1)=2^l*2:=L6 ..;have q:2^(l+2)=2^l*2*2:=by rw[L6,L6]
 rw[j x y b d,TL r (X:=X) (Y:=Y) (2^e) (x+2^l) (y+2^l) A3 A3 λu v f g i n=>h u v A3 A3];rw[show x+2^l+X=x+(X+2^l) by lia,show y+2^l+Y=y+(Y+2^l) by lia]
seal L2.PA L2.PE L2.PS L2.PSs L2.PT L2.PW
theorem Vw.at'{c:Nat->Nat->Int}(h:Vw G c l m X Y)(a:X=X')(b:Y=Y'):Vw G c l m X' Y':=by
 subst a;subst b;exact h
theorem Vw.goes{c:Nat->Nat->Int}(h:Vw G c l m X Y)(ok:GOk G)(go:AJ G a i)(e:Ao G m (l:Int)):Vw a c l m X Y:=λx y b d=>by
 rw[Dq ok go e];exact h x y b d
section
variable{P:N_}{w:Q_}{K:O_}{mg:C_}{n8:T_}{a:Ad}
inductive aAe(a:Ad)(vs:List V)(H:Hp)(Q:VK):Prop
|mk (g:GA) (G:Gv) (n l:Nat) (_:vs=[.ref g.p,.int n]) (_:AQ a H g G) (_:GOk G) (_:Ao G n ((l+1+1:Nat):Int)) (_:l<=46) (_:G.length<8000000) (_:∀(L:R_)(ks:J_)(G':Gv)(H':Hp),Fr g H H'->AQ a H' g G'->AJ G G' 5->H' L=n_ (.lst (ks.map λ(k:Nat)=>V.int (k:Int)))->ks.length=9->(∀i j,i<3->j<3->∃k,ks[i+3*j]?=n_ k/\Ao G' k ((l+1:Nat):Int)/\Vw G' (CS G (l+2) n) (l+1) k (2^l*i) (2^l*j))->Q (.ref L) H'):aAe a vs H Q
def PL(a:Ad):Sp:=λvs H Q _=>aAe a vs H Q
theorem aBW{K:O_}{a:Ad}{b H:Hp}{g:GA}{G0 G:Gv}{j:Nat}{σ:St}{q t u v:Nat}{E F I L:R_}{d f h i:List V}{A B C D:Int}{x y z w:Nat}{l:Int}{Q:VK}(s:Ln a g b G0 j H G)(T:b E=n_ (.tup d))(U:b F=n_ (.tup f))(X:b I=n_ (.tup h))(Y:b L=n_ (.tup i))(lv:Ao G0 x l/\Ao G0 y l/\Ao G0 z l/\Ao G0 w l)(few:l<=47/\G0.length+j<9000000)
  (k:∀(n:Nat)(m:Gv)(o:Hp),Ln a g b G0 (j+1) o m->AJ G m 1->m[n]?=n_ ⟨[(x:Int),(y:Int),(z:Int),(w:Int)],l+1⟩->Q (.int n) o) (e:(σ[0]?=n_ (n_ (.ref g.p))/\σ[q]?=n_ (n_ (.ref E))/\σ[t]?=n_ (n_ (.ref F))/\σ[u]?=n_ (n_ (.ref I))/\σ[v]?=n_ (n_ (.ref L)))/\atI d A=n_ (.int x)/\atI f B=n_ (.int y)/\atI h C=n_ (.int z)/\atI i D=n_ (.int w):=by exact⟨⟨Z,Z,Z,Z,Z⟩,Z,Z,Z,Z⟩):WA a.N1 "linked" (Ey a) [] E0 (GY 0) (CI (YI (CI (tOp (Lo K) (GY q) (tC (V.int A))) (CI (tOp (Lo K) (GY t) (tC (V.int B))) (CI (tOp (Lo K) (GY u) (tC (V.int C))) (CI (tOp (Lo K) (GY v) (tC (V.int D))) PF))))) PF) σ H Q:=by
 apply Br;intro M c;obtain⟨⟨r,r1,r2,r3,r4⟩,N,O,R,S⟩:=e;apply c;clear c M;exact⟨_,r,(xq3 Z s.gr.hp (Cc g) (ixt r1 (s.kt T) N (ixt r2 (s.kt U) O (ixt r3 (s.kt X) R (ixt r4 (s.kt Y) S ⟨S_4,λ_ hu=>lnk s hu lv few.1 few.2 k⟩)))))⟩
theorem vw4{G:Gv}{c:Nat->Nat->Int}{l m x y z w X Y:Nat}{n:Int}(e:G[m]?=n_ ⟨[(x:Int),(y:Int),(z:Int),(w:Int)],n⟩)(h:Vw G c l x (2^l*X) (2^l*Y))(i:Vw G c l y (2^l*(X+1)) (2^l*Y))(j:Vw G c l z (2^l*X) (2^l*(Y+1)))(k:Vw G c l w (2^l*(X+1)) (2^l*(Y+1))):Vw G c (l+1) m (2^l*X) (2^l*Y):=by
 refine xa3 (EV e) λb d f g=>?_;subst b;subst d;subst f;subst g;exact .of h i j k
theorem vwQ{G:Gv}{c:Nat->Nat->Int}{l m x y z w X Y:Nat}{h:Int}(e:G[m]?=n_ ⟨[(x:Int),(y:Int),(z:Int),(w:Int)],h⟩)(v:Vw G c (l+1) m (2^l*X) (2^l*Y)):Vw G c l x (2^l*X) (2^l*Y)/\Vw G c l y (2^l*(X+1)) (2^l*Y)/\Vw G c l z (2^l*X) (2^l*(Y+1))/\Vw G c l w (2^l*(X+1)) (2^l*(Y+1)):=by
 refine xa3 (EV e) λb d f g=>?_;subst b;subst d;subst f;subst g;exact⟨v.q (i:=0) (j:=0) A4 A4,(v.q (i:=1) (j:=0) A4 A4).at' A3 Z,(v.q (i:=0) (j:=1) A4 A4).at' Z A3,(v.q (i:=1) (j:=1) A4 A4).at' A3 A3⟩
theorem aCt(F:Fun K "nine_parts" "nine_parts" Jk f fd)(T:Top K mg a)(U:Co P w K mg n8 CX0 2 a.N1 "linked" AZ (Ey a)):AM P w K mg n8 CX0 3 f fd LZ (PL a):=by
 refine F.ok Dl (λvs H Q E h=>?_) (λbi A an s H vs Q E hr h=>?_)
 .apply Br;intro G_ c;obtain⟨g,G,n,l,rfl,_⟩:=h;apply c;clear c G_;rfl
 .apply Br;intro G_ c;obtain⟨g,G,n,l,rfl,B,ok,hl,bl,few,k⟩:=h;refine CM (ok.four hl) λqa qb qc qd en la lb lc ld=>CM (ok.four la) λa0 a1 a2 a3 ea bm af ag C=>CM (ok.four lb) λb0 b1 b2 b3 eb ah bn D ai=>CM (ok.four lc) λc0 c1 c2 c3 ec aj I bo ak=>CM (ok.four ld) λd0 d1 d2 d3 ed M al am bp=>xea B.pt λts X Y=>xea (PairedM.get Y en) λt et v=>xea (PairedM.get Y ea) λta aa d=>xea (PairedM.get Y eb) λtb ab m=>xea (PairedM.get Y ec) λtc ac p=>xea (PairedM.get Y ed) λtd ad q=>?_;apply c;clear c G_;have s0:Ln a g H G 0 H G:=⟨.refl _ _,λe=>e,B,.refl ok⟩
  refine⟨_,(Ae (Am (i:=2) Dl.nd Z O_9 (Aj Az (AF (pv 0) Z) (pv 1) R_9)) (Ae (Am (i:=3) Dl.nd Z O_9 (Aj Az (AF (pv 0) Z) (Aj Al (pv 2) Ac R_9) R_9)) (Ae (Am (i:=4) Dl.nd Z O_9 (Aj Az (AF (pv 0) Z) (Aj Al (pv 2) Ac R_9) R_9)) (Ae (Am (i:=5) Dl.nd Z O_9 (Aj Az (AF (pv 0) Z) (Aj Al (pv 2) Ac R_9) R_9)) (Ae (Am (i:=6) Dl.nd Z O_9 (Aj Az (AF (pv 0) Z) (Aj Al (pv 2) Ac R_9) R_9)) (Ah (Au (BO (Aa (Aj Al (pv 2) Ac R_9) (Aa (AK (pv 0) U (rm hr) Aq (AV (Aa (Aj Al (pv 3) Ac R_9) (Aa (Aj Al (pv 4) Ac R_9) (Aa (Aj Al (pv 3) Ac R_9) (Aa (Aj Al (pv 4) Ac R_9) Ab)))) Ab)) (Aa (Aj Al (pv 2) Ac R_9) (Aa (AK (pv 0) U (rm hr) Aq (AV (Aa (Aj Al (pv 3) Ac R_9) (Aa (Aj Al (pv 3) Ac R_9) (Aa (Aj Al (pv 5) Ac R_9) (Aa (Aj Al (pv 5) Ac R_9) Ab)))) Ab)) (Aa (AK (pv 0) U (rm hr) Aq (AV (Aa (Aj Al (pv 3) Ac R_9) (Aa (Aj Al (pv 4) Ac R_9) (Aa (Aj Al (pv 5) Ac R_9) (Aa (Aj Al (pv 6) Ac R_9) Ab)))) Ab)) (Aa (AK (pv 0) U (rm hr) Aq (AV (Aa (Aj Al (pv 4) Ac R_9) (Aa (Aj Al (pv 4) Ac R_9) (Aa (Aj Al (pv 6) Ac R_9) (Aa (Aj Al (pv 6) Ac R_9) Ab)))) Ab)) (Aa (Aj Al (pv 2) Ac R_9) (Aa (AK (pv 0) U (rm hr) Aq (AV (Aa (Aj Al (pv 5) Ac R_9) (Aa (Aj Al (pv 6) Ac R_9) (Aa (Aj Al (pv 5) Ac R_9) (Aa (Aj Al (pv 6) Ac R_9) Ab)))) Ab)) (Aa (Aj Al (pv 2) Ac R_9) Ab))))))))))))))))),?_⟩;refine Bc ?_;intro a8 bd k0 u ay;refine xwf Z Z B.hp T.L0 T.L4 (Cs g) (xq1 Z (ixp X et ?_));refine u (Bc ?_);intro a9 be k1 u az;refine xwf Z Z B.hp T.L0 T.L4 (Cs g) (ixt Z v Z (ixp X aa ?_));refine u (Bc ?_);intro ba bf k2 u a4;refine xwf Z Z B.hp T.L0 T.L4 (Cs g) (ixt Z v Z (ixp X ab ?_));refine u (Bc ?_);intro bb bg k3 u a5;refine xwf Z Z B.hp T.L0 T.L4 (Cs g) (ixt Z v Z (ixp X ac ?_));refine u (Bc ?_);intro bc bh k4 u a7;refine xwf Z Z B.hp T.L0 T.L4 (Cs g) (ixt Z v Z (ixp X ad ?_));refine u (aH0 (Ib (ixt Z (s0.kt v) Z (Ib (aBW s0 d m d m ⟨af,ah,C,D⟩ ⟨by lia,D3 few A4⟩ λm1 G1 H1 s1 bj e1=>?_)))));refine Ib (ixt Z (s1.kt v) Z (Ib (aBW s1 d d p p ⟨ag,C,aj,I⟩ ⟨by lia,by lia⟩ λm3 G3 H3 s3 ae e3=>?_)));refine Ib (aBW s3 d m p q ⟨C,D,I,M⟩ ⟨by lia,by lia⟩ λm4 G4 H4 s4 W e4=>?_);refine Ib (aBW s4 m m q q ⟨D,ai,M,al⟩ ⟨by lia,by lia⟩ λm5 G5 H5 s5 z e5=>?_);refine Ib (ixt Z (s5.kt v) Z (Ib (aBW s5 p q p q ⟨I,M,ak,am⟩ ⟨by lia,by lia⟩ λm7 G7 H7 s7 r e7=>?_)));refine Ib (ixt Z (s7.kt v) Z ⟨(by show 9<=sizeLine;decide),λL hL=>?_⟩);have b:=s7.go;have sL:=As (o:=.lst (([qa,m1,qb,m3,m4,m5,qc,m7,qd]:J_).map λ(k:Nat)=>V.int (k:Int))) hL;refine k L [qa,m1,qb,m3,m4,m5,qc,m7,qd] G7 _ (s7.fr.trans (Ay.fr sL)) (s7.gr.same sL) b Af Z ?_;have v0:Vw G (CS G (l+2) n) (l+1+1) n (2^(l+1)*0) (2^(l+1)*0):=λx y _ _=>Z;have p1:2^(l+1)=2^l*2:=L6 ..;refine xa3 (vwQ (b.get en) (v0.goes ok b hl)) λva vb vc vd=>?_;have va:=va.at' (X':=2^l*0) (Y':=2^l*0) A3 A3;have vb:=vb.at' (X':=2^l*2) (Y':=2^l*0) A3 A3;have vc:=vc.at' (X':=2^l*0) (Y':=2^l*2) A3 A3;have vd:=vd.at' (X':=2^l*2) (Y':=2^l*2) A3 A3;refine xa3 (vwQ (b.get ea) va) λbq ao aq N=>xa3 (vwQ (b.get eb) vb) λar br O as=>xa3 (vwQ (b.get ec) vc) λau R bt av=>xa3 (vwQ (b.get ed) vd) λS aw ax bu=>?_;have g5:=r.get e5;have g4:=r.get (z.get e4);have g3:=r.get (z.get (W.get e3));have g1:=r.get (z.get (W.get (ae.get e1)));intro i j hi hj
  match i,hi,j,hj with
  |0,_,0,_=>exact⟨qa,Z,b.lev la,va⟩
  |1,_,0,_=>exact⟨m1,Z,⟨_,g1,Z⟩,vw4 g1 ao ar N O⟩
  |2,_,0,_=>exact⟨qb,Z,b.lev lb,vb⟩
  |0,_,1,_=>exact⟨m3,Z,⟨_,g3,Z⟩,vw4 g3 aq N au R⟩
  |1,_,1,_=>exact⟨m4,Z,⟨_,g4,Z⟩,vw4 g4 N O R S⟩
  |2,_,1,_=>exact⟨m5,Z,⟨_,g5,Z⟩,vw4 g5 O as S aw⟩
  |0,_,2,_=>exact⟨qc,Z,b.lev lc,vc⟩
  |1,_,2,_=>exact⟨m7,Z,⟨_,e7,Z⟩,vw4 e7 R S av ax⟩
  |2,_,2,_=>exact⟨qd,Z,b.lev ld,vd⟩
inductive Yz(vs:List V)(H:Hp)(Q:VK):Prop
|mk (L:R_) (k0 k1 k2 k3 k4 k5 k6 k7 k8:Nat) (_:vs=[.ref L]) (_:H L=n_ (.lst [.int k0,.int k1,.int k2,.int k3,.int k4,.int k5,.int k6,.int k7,.int k8])) (_:∀(M t0 t1 t2 t3:R_)(H':Hp),Ay H H'->H' M=n_ (.lst [.ref t0,.ref t1,.ref t2,.ref t3])->H' t0=n_ (.tup [.int k0,.int k1,.int k3,.int k4])->H' t1=n_ (.tup [.int k1,.int k2,.int k4,.int k5])->H' t2=n_ (.tup [.int k3,.int k4,.int k6,.int k7])->H' t3=n_ (.tup [.int k4,.int k5,.int k7,.int k8])->Q (.ref M) H'):Yz vs H Q
def Nh:Sp:=λvs H Q _=>Yz vs H Q
theorem aBo(F:Fun K "fours_of" "fours_of" ML f fd)(T:Top K mg a):AM P w K mg n8 CX0 1 f fd VU Nh:=by
 refine F.ok Ue (λvs H Q E h=>?_) (λaa A Y s H vs Q E hr h=>?_)
 .apply Br;intro S c;obtain⟨L,x,i,y,l,b,m,z,n,B,rfl,_⟩:=h;apply c;clear c S;rfl
 .apply Br;intro S c;obtain⟨L,x,i,y,l,b,m,z,n,B,rfl,q,k⟩:=h;apply c;clear c S;refine⟨_,(Ah (Au (BO (AV (Aa (Aj Az (pv 0) Ac R_9) (Aa (Aj Az (pv 0) Ac R_9) (Aa (Aj Az (pv 0) Ac R_9) (Aa (Aj Az (pv 0) Ac R_9) Ab)))) (AV (Aa (Aj Az (pv 0) Ac R_9) (Aa (Aj Az (pv 0) Ac R_9) (Aa (Aj Az (pv 0) Ac R_9) (Aa (Aj Az (pv 0) Ac R_9) Ab)))) (AV (Aa (Aj Az (pv 0) Ac R_9) (Aa (Aj Az (pv 0) Ac R_9) (Aa (Aj Az (pv 0) Ac R_9) (Aa (Aj Az (pv 0) Ac R_9) Ab)))) (AV (Aa (Aj Az (pv 0) Ac R_9) (Aa (Aj Az (pv 0) Ac R_9) (Aa (Aj Az (pv 0) Ac R_9) (Aa (Aj Az (pv 0) Ac R_9) Ab)))) Ab))))))),?_⟩;refine xwi Z Z Z (SqL.of q) (Ai (j:=0) Z) (xwi Z Z Z (SqL.of q) (Ai (j:=1) Z) (xwi Z Z Z (SqL.of q) (Ai (j:=3) Z) (xwi Z Z Z (SqL.of q) (Ai (j:=4) Z) ⟨S_4,λG U=>?_⟩)));have s0:=As (o:=.tup [.int (x:Int),.int (i:Int),.int (l:Int),.int (b:Int)]) U;have h0:upd H G (.tup [.int (x:Int),.int (i:Int),.int (l:Int),.int (b:Int)]) G=n_ (.tup [.int (x:Int),.int (i:Int),.int (l:Int),.int (b:Int)]):=Af;generalize r:upd H G (.tup [.int (x:Int),.int (i:Int),.int (l:Int),.int (b:Int)])=X0 at s0 h0;have d:=s0 _ _ q
  first|rw[r]|(show ∃_,_;rw[r])|skip
  refine xwi Z Z Z (SqL.of d) (Ai (j:=1) Z) (xwi Z Z Z (SqL.of d) (Ai (j:=2) Z) (xwi Z Z Z (SqL.of d) (Ai (j:=4) Z) (xwi Z Z Z (SqL.of d) (Ai (j:=5) Z) ⟨S_4,λI V=>?_⟩)));have R:=As (o:=.tup [.int (i:Int),.int (y:Int),.int (b:Int),.int (m:Int)]) V;have h1:upd X0 I (.tup [.int (i:Int),.int (y:Int),.int (b:Int),.int (m:Int)]) I=n_ (.tup [.int (i:Int),.int (y:Int),.int (b:Int),.int (m:Int)]):=Af;generalize t:upd X0 I (.tup [.int (i:Int),.int (y:Int),.int (b:Int),.int (m:Int)])=X1 at R h1;have e:=R _ _ d
  first|rw[t]|(show ∃_,_;rw[t])|skip
  refine xwi Z Z Z (SqL.of e) (Ai (j:=3) Z) (xwi Z Z Z (SqL.of e) (Ai (j:=4) Z) (xwi Z Z Z (SqL.of e) (Ai (j:=6) Z) (xwi Z Z Z (SqL.of e) (Ai (j:=7) Z) ⟨S_4,λN W=>?_⟩)));have C:=As (o:=.tup [.int (l:Int),.int (b:Int),.int (z:Int),.int (n:Int)]) W;have h2:upd X1 N (.tup [.int (l:Int),.int (b:Int),.int (z:Int),.int (n:Int)]) N=n_ (.tup [.int (l:Int),.int (b:Int),.int (z:Int),.int (n:Int)]):=Af;generalize u:upd X1 N (.tup [.int (l:Int),.int (b:Int),.int (z:Int),.int (n:Int)])=X2 at C h2;have g:=C _ _ e
  first|rw[u]|(show ∃_,_;rw[u])|skip
  refine xwi Z Z Z (SqL.of g) (Ai (j:=4) Z) (xwi Z Z Z (SqL.of g) (Ai (j:=5) Z) (xwi Z Z Z (SqL.of g) (Ai (j:=7) Z) (xwi Z Z Z (SqL.of g) (Ai (j:=8) Z) ⟨S_4,λO X=>?_⟩)));have p:=As (o:=.tup [.int (b:Int),.int (m:Int),.int (n:Int),.int (B:Int)]) X;have h3:upd X2 O (.tup [.int (b:Int),.int (m:Int),.int (n:Int),.int (B:Int)]) O=n_ (.tup [.int (b:Int),.int (m:Int),.int (n:Int),.int (B:Int)]):=Af;generalize v:upd X2 O (.tup [.int (b:Int),.int (m:Int),.int (n:Int),.int (B:Int)])=X3 at p h3;have ab:=p _ _ g
  first|rw[v]|(show ∃_,_;rw[v])|skip
  refine⟨S_4,λM hM=>?_⟩;have D:=As (o:=.lst [.ref G,.ref I,.ref N,.ref O]) hM;exact k M G I N O _ ((((s0.trans R).trans C).trans p).trans D) Af (D _ _ (p _ _ (C _ _ (R _ _ h0)))) (D _ _ (p _ _ (C _ _ h1))) (D _ _ (p _ _ h2)) (D _ _ h3)
inductive aDZ(a:Ad)(vs:List V)(H:Hp)(Q:VK):Prop
|mk (g:GA) (G:Gv) (t:R_) (f0 f1 f2 f3 l:Nat) (_:vs=[.ref g.p,.ref t]) (_:AQ a H g G) (_:GOk G) (_:H t=n_ (.tup [.int f0,.int f1,.int f2,.int f3])) (_:Ao G f0 ((l+1:Nat):Int)/\Ao G f1 ((l+1:Nat):Int)/\Ao G f2 ((l+1:Nat):Int)/\Ao G f3 ((l+1:Nat):Int)) (_:l<=47) (_:G.length<9000000) (_:∀(k:Nat)(G':Gv)(H':Hp),Fr g H H'->AQ a H' g G'->AJ G G' 1->G'[k]?=n_ ⟨[((qO G f0 3:Nat):Int),((qO G f1 2:Nat):Int),((qO G f2 1:Nat):Int),((qO G f3 0:Nat):Int)],(l:Int)+1⟩->Q (.int k) H'):aDZ a vs H Q
def WI(a:Ad):Sp:=λvs H Q _=>aDZ a vs H Q
theorem aFB(F:Fun K "met_in_the_middle" "met_in_the_middle" DN f fd)(T:Top K mg a)(a6:Co P w K mg n8 CX0 2 a.N1 "linked" AZ (Ey a)):AM P w K mg n8 CX0 3 f fd Dc (WI a):=by
 refine F.ok FD (λvs H Q E h=>?_) (λac A W s H vs Q E hr h=>?_)
 .apply Br;intro y b;obtain⟨g,G,t,f0,f1,f2,f3,l,rfl,_⟩:=h;apply b;clear b y;rfl
 .apply Br;intro y b;obtain⟨g,G,t,f0,f1,f2,f3,l,rfl,v,ok,x,⟨l0,l1,l2,l3⟩,ad,few,k⟩:=h;refine xea v.pt λts q r=>CM (ok.four l0) λar as au c e0 ae af ag R=>xea (PairedM.get r e0) λu0 z L=>xa3 (EV e0) λa4 a5 a7 X=>CM (ok.four l1) λav aw d ax e1 ah ai S aj=>xea (PairedM.get r e1) λu1 B M=>xa3 (EV e1) λa8 a9 Y ba=>CM (ok.four l2) λay m az a0 e2 ak U al am=>xea (PairedM.get r e2) λu2 C N=>xa3 (EV e2) λbb aa bc bd=>CM (ok.four l3) λp a1 a2 a3 e3 V an ao aq=>xea (PairedM.get r e3) λu3 D O=>xa3 (EV e3) λab be bf bg=>?_;apply b;clear b y;rw[X,Y,aa,ab]at k;refine⟨_,(Ae (Am (i:=2) FD.nd Z O_9 (AF (pv 0) Z)) (Ah (Au (AK (pv 0) a6 (rm hr) Aq (AV (Aa (Aj Al (Aj Az (pv 2) (Aj Al (pv 1) Ac R_9) R_9) Ac R_9) (Aa (Aj Al (Aj Az (pv 2) (Aj Al (pv 1) Ac R_9) R_9) Ac R_9) (Aa (Aj Al (Aj Az (pv 2) (Aj Al (pv 1) Ac R_9) R_9) Ac R_9) (Aa (Aj Al (Aj Az (pv 2) (Aj Al (pv 1) Ac R_9) R_9) Ac R_9) Ab)))) Ab))))),?_⟩;refine xwf Z Z v.hp T.L0 T.L4 (Cs g) (xwn Z Z v.hp (Cc g) Z (xwi Z Z Z (SqT.of x) (Ai (j:=0) Z) (xq4 Z Z (SqL.of q) (Ai (by rw[C0,z];rfl)) (xq4 Z Z (SqT.of L) (Ai (j:=3) Z) (xwj Z Z Z Z (SqT.of x) (Ai (j:=1) Z) (xq4 Z Z (SqL.of q) (Ai (by rw[C0,B];rfl)) (xq4 Z Z (SqT.of M) (Ai (j:=2) Z) (xwj Z Z Z Z (SqT.of x) (Ai (j:=2) Z) (xq4 Z Z (SqL.of q) (Ai (by rw[C0,C];rfl)) (xq4 Z Z (SqT.of N) (Ai (j:=1) Z) (xwj Z Z Z Z (SqT.of x) (Ai (j:=3) Z) (xq4 Z Z (SqL.of q) (Ai (by rw[C0,D];rfl)) (xq4 Z Z (SqT.of O) (Ai (j:=0) Z) ⟨S_4,λu hu=>?_⟩)))))))))))));have s1:=As (o:=.tup [.int (c:Int),.int (d:Int),.int (m:Int),.int (p:Int)]) hu;exact⟨g,G,u,c,d,m,p,(l:Int),Z,v.same s1,ok,Af,⟨R,S,U,V⟩,by lia,few,λn G' H' fr I go e=>k n G' H' ((Ay.fr s1).trans fr) I go e⟩
end
end J
namespace J
open PySem L2
def Sv(o:HO):Prop:=Nv o\/∃xs:List V,o=.lst xs/\xs.length<=50
def KpS(H H':Hp):Prop:=∀b o,H b=n_ o->Sv o->H' b=n_ o
theorem Sv.lst{xs:List V}(h:xs.length<=50):Sv (.lst xs):=.inr ⟨xs,Z,h⟩
theorem Bs.long(h:Bs G):56<=G.length:=(B9.mp (h 47 A4)).1
theorem Sv.nl{b x:R_}{H:Hp}{o:HO}{xs:List V}(s:Sv o)(e:H b=n_ o)(a:H x=n_ (.lst xs))(d:50<xs.length):b≠x:=λz=>by
 rw[z,a]at e;cases e;rcases s with s|⟨ys,c,f⟩
 .cases s
 .cases c;lia
theorem Sv.nt{b x:R_}{H:Hp}{o:HO}{k:List (List Key×V)}(s:Sv o)(e:H b=n_ o)(a:H x=n_ (.dT k)):b≠x:=λz=>by
 rw[z,a]at e;cases e;rcases s with s|⟨ys,c,d⟩
 .cases s
 .cases c
theorem Sv.nk{b x:R_}{H:Hp}{o:HO}{k:List (Key×V)}(s:Sv o)(e:H b=n_ o)(a:H x=n_ (.dK k)):b≠x:=λz=>by
 rw[z,a]at e;cases e;rcases s with s|⟨ys,c,d⟩
 .cases s
 .cases c
theorem Fr.kps{a:Ad}{H d:Hp}{g:GA}{G:Gv}(f:Fr g H d)(c:AQ a H g G)(j:56<=G.length):KpS H d:=by
 intro b o e s;refine xea c.pt λk h i=>?_;have lt:=A1e i;exact f _ _ e (s.nl e c.lv (by rw[B7];lia)) (s.nl e h (by rw[B7];lia)) (s.nt e c.nm)
theorem FrJ.kps{a:Ad}{H d:Hp}{g:GA}{G:Gv}{N M:Nat}{r:AC}{m:MA}(f:FrJ g m H d)(c:AQ a H g G)(q:56<=G.length)(h:Lf H g G N M r m):KpS H d:=by
 intro b o e s;refine xea c.pt λv l n=>xea h.ce λt i _=>?_;have lt:=A1e n;refine f _ _ e (s.nl e c.lv (by rw[B7];lia)) (s.nl e l (by rw[B7];lia)) (s.nt e c.nm) (s.nt e i) λz=>?_;obtain⟨j,p⟩:=M5 z;exact xea (h.sq j b p) λu k _=>s.nk e k Z
theorem Yq(ok:GOk G):∀(l:Nat){n m:Nat},Ao G n (l:Int)->Ao G m (l:Int)->(∀x y,x<2^l->y<2^l->CS G l n x y=CS G l m x y)->n=m
|0,n,m,_,_,h=>A1b (h 0 0 A4 A4)
|l+1,n,m,hn,hm,h=>by
 have a:∀i j,i<2->j<2->qO G n (i+2*j)=qO G m (i+2*j):=λi j c d=>by
  refine Yq ok l (MQ ok hn A3) (MQ ok hm A3) λx y g k=>?_;rw[<-QJ G l n g k c d,<-QJ G l m g k c d];have D:2^l*i<=2^l*1:=M9 _ (O3 c);have E:2^l*j<=2^l*1:=M9 _ (O3 d);exact h _ _ (by rw[L6];lia) (by rw[L6];lia)
 refine xe4 (ok.four hn) λx y z w b=>xa b λe _=>xe4 (ok.four hm) λH I K F b=>xa b λf _=>xa3 (EV e) λo p q r=>xa3 (EV f) λs t b2 u=>?_;have v:=a 0 0 A4 A4;have A:=a 1 0 A4 A4;have B:=a 0 1 A4 A4;have C:=a 1 1 A4 A4;refine ok.one e f ?_;rw[(o.symm.trans (v.trans s)),(p.symm.trans (A.trans t)),(q.symm.trans (B.trans b2)),(r.symm.trans (C.trans u))]
abbrev Sht:=Nat->Nat->Int
abbrev KTy:=Nat->Nat->Sht->Prop
def Zw(l:Nat)(φ ψ:Sht):Prop:=∀x y,x<2^(l+2)->y<2^(l+2)->φ x y=ψ x y
def s47(f:L_):Nat:=((List.range 47).map f).sum
theorem WC(f:L_)(e:Nat):∀l:List Nat,l.Nodup->(l.map λi=>if i=e then f i+1 else f i).sum=(l.map f).sum+if e∈l then 1 else 0
|[],_=>by simp
|a::l,h=>by
 rw[N4]at h;rw[F8,F8,R7,R7,WC f e l h.2];by_cases z:a=e
 .subst z;rw[A0g rfl,A0d h.1,A0g C8];lia
 .rw[A0d z];by_cases y:e∈l
  .rw[A0g y,A0g (C9 _ y)];lia
  .rw[A0d y,A0d (λq=>by rcases C1.mp q with rfl|q;exact z rfl;exact y q)];lia
theorem WR(f:L_)(h:e<47):s47 (λi=>if i=e then f i+1 else f i)=s47 f+1:=by
 unfold s47;rw[WC f e _ List.nodup_range,A0g (M8.mpr h)]
theorem Ym{α β:Type}(R:α->β->Prop)(inj:∀x f y,R x y->R f y->x=f):∀(l:List β)(ks:List α),ks.Nodup->(∀k∈ks,∃y∈l,R k y)->ks.length<=l.length
|[],ks,_,h=>by
 cases ks with
 |nil=>exact B8 _
 |cons k ks=>refine xea (h k C8) λy i _=>?_;cases i
|y::l,ks,nd,h=>by
 classical
 have j:=Ym R inj l (ks.filter λk=>decide (¬R k y)) (nd.sublist List.filter_sublist) λk b=>by
  rw[V0,A9c]at b;refine xea (h k b.1) λz c e=>?_;rcases C1.mp c with rfl|c
  .exact absurd e b.2
  .exact⟨z,c,e⟩
 have few:∀ks:List α,ks.Nodup->ks.length<=(ks.filter λk=>decide (¬R k y)).length+1:=by
  intro ks;induction ks with
  |nil=>intro _;exact M7 _
  |cons k ks d =>
   intro a;rw[N4]at a;by_cases z:R k y
   .have:ks.filter (λk=>decide (¬R k y))=ks:=List.filter_eq_self.mpr λx g=>A0e λq=>a.1 (by rw[inj k x y z q];exact g);rw[List.filter_cons_of_neg (by simp[z]),this,F0];exact B8 _
   .rw[List.filter_cons_of_pos (by simp[z]),F0,F0];have:=d a.2;exact U2 this A4
 have:=few ks nd;rw[F0];lia
structure Nd(Κ:KTy)(N:Nat):Prop where
ls:∃M:Nat->Nat,s47 M<=N/\∀e,∃Ls:List (Nat×Sht),Ls.length<=M e/\∀l φ,Κ l e φ->∃ψ,(l,ψ)∈Ls/\Zw l φ ψ
ext:∀{l e φ ψ},Κ l e φ->Zw l φ ψ->Κ l e ψ
theorem WD(f:L_):∀(l:J_){e:Nat},e∈l->f e<=(l.map f).sum
|a::l,e,h=>by
 rw[F8,R7];rcases C1.mp h with rfl|h
 .exact F5 _ _
 .exact C5 (WD f l h) (O6 _ _)
theorem TJ{f g:L_}:∀{l:J_},(∀e∈l,f e<=g e)->(l.map f).sum<=(l.map g).sum
|[],_=>B8 _
|a::l,h=>by
 have:=TJ (l:=l) λe b=>h e (C9 _ b);have:=h a C8;rw[F8,R7,F8,R7];lia
structure Cn(H:Hp)(G:Gv)(m:MA)(Κ:KTy)(b:Nat)(f:L_):Prop where
sq:∀(e:Nat) d,m.ds[e]?=n_ d->∃kv,H d=n_ (.dK kv)/\kv.length=f e/\(kv.map (·.1)).Nodup/\∀k∈kv.map (·.1),∃n l:Nat,k=Sum.inl (n:Int)/\Ao G n ((l+2:Nat):Int)/\Κ l e (CS G (l+2) n)
gl:G.length<=b+10*s47 f
ce:∃kc,H m.kc=n_ (.dT kc)/\kc.length<=b+10*s47 f
theorem Cn.few'{H:Hp}{G:Gv}{m:MA}{Κ:KTy}{b:Nat}{f M:L_}(h:Cn H G m Κ b f)(ok:GOk G)(fin:∀e,∃a:List (Nat×Sht),a.length<=M e/\∀l φ,Κ l e φ->∃ψ,(l,ψ)∈a/\Zw l φ ψ)(len:m.ds.length=47){e:Nat}(z:e<47):f e<=M e:=by
 have i:e<m.ds.length:=by rw[len];exact z
 refine Ec (h.sq e (m.ds[e]'i) (C4 _)) λB _ u v w=>xea (fin e) λa C D=>C5 ?_ C;rw[<-u,<-B7 (f:=(·.1)) (as:=B)];refine Ym (λ(k:Key)(q:Nat×Sht)=>∃n:Nat,k=Sum.inl (n:Int)/\Ao G n ((q.1+2:Nat):Int)/\Zw q.1 (CS G (q.1+2) n) q.2) ?_ a _ v λk A=>?_
 .intro x K j o p;obtain⟨l,ψ⟩:=j;obtain⟨n,rfl,c,d⟩:=o;obtain⟨I,rfl,t,b2⟩:=p;rw[Yq ok _ c t λx y r s=>(d x y r s).trans (b2 x y r s).symm]
 .refine AS (w k A) λn l g c d=>?_;subst g;exact xea (D l _ d) fun ψ E F=>⟨_,E,n,Z,c,F⟩
theorem Cn.sum{H:Hp}{G:Gv}{m:MA}{Κ:KTy}{b N:Nat}{f:L_}(h:Cn H G m Κ b f)(ok:GOk G)(fin:Nd Κ N)(len:m.ds.length=47):s47 f<=N:=by
 exact xea fin.ls λM a c=>C5 (TJ λe d=>h.few' ok c len (M8.mp d)) a
theorem Cn.few(h:Cn H G m Κ b f)(ok:GOk G)(fin:Nd Κ N)(len:m.ds.length=47)(a:e<47):f e<=N:=C5 (WD f _ (M8.mpr a)) (h.sum ok fin len)
theorem Cn.mono(h:Cn H G m Κ b f)(e:b<=a):Cn H G m Κ a f:=by
 refine xea h.ce λd c g=>?_;have:=h.gl;exact⟨h.sq,by lia,d,c,by lia⟩
theorem Cn.kp{G q:Gv}(h:Cn H G m Κ b f)(ok:GOk G)(go:AJ G q i)(y:∀d∈m.ds,∀o,H d=n_ o->g d=n_ o)(z:∀c,H m.kc=n_ (.dT c)->∃a,g m.kc=n_ (.dT a)/\a.length<=c.length+i):Cn g q m Κ (b+i) f:=by
 refine⟨λe d s=>?_,?_,?_⟩
 .refine Ec (h.sq e d s) λA j t p u=>⟨A,y d (D8 s) _ j,t,p,λk x=>?_⟩
  exact AS (u k x) λn l v r w=>⟨n,l,v,go.lev r,by rw[Dq ok go r];exact w⟩
 .have:=h.gl;have:=go.few;lia
 .exact xea h.ce λc j t=>xea (z c j) λa p u=>⟨a,p,by lia⟩
structure JZ(a:Ad)(H:Hp)(g:GA)(G:Gv)(Κ:KTy)(N b:Nat)(p dx mem pr:R_)(r:AC)(m:MA):Prop where
jw:JW a H g G N (b+10*N) p dx mem pr r m
cn:∃f,Cn H G m Κ b f
section
variable{a:Ad}{H H':Hp}{g:GA}{G G':Gv}{Κ:KTy}{N b i:Nat}{p dx mem pr:R_}{r:AC}{m:MA}
theorem JZ.sz(h:JZ a H g G Κ N b p dx mem pr r m)(fin:Nd Κ N):G.length<=b+10*N:=by
 obtain⟨f,c⟩:=h.cn;have:=c.gl;have:=c.sum h.jw.ok fin h.jw.me.len;lia
theorem JZ.mono(h:JZ a H g G Κ N b p dx mem pr r m)(e:b<=d):JZ a H g G Κ N d p dx mem pr r m:=by
 obtain⟨f,c⟩:=h.cn;exact⟨h.jw.mono (B8 _) A3,f,c.mono e⟩
theorem JZ.same(h:JZ a H g G Κ N b p dx mem pr r m)(s:Ay H H'):JZ a H' g G Κ N b p dx mem pr r m:=by
 obtain⟨f,c⟩:=h.cn;exact⟨JW.same s h.jw,f,c.kp (i:=0) h.jw.ok (AJ.refl h.jw.ok) (λd _ o e=>s _ _ e) λj e=>⟨j,s _ _ e,B8 _⟩⟩
theorem JZ.fr(h:JZ a H g G Κ N b p dx mem pr r m)(f:Fr g H H')(k:AQ a H' g G')(go:AJ G G' i):JZ a H' g G' Κ N (b+i) p dx mem pr r m:=by
 obtain⟨q,c⟩:=h.cn;refine xea h.jw.gr.pt λw n _=>⟨(h.jw.fr f k go).mono (B8 _) A3,q,c.kp h.jw.ok go (λd s o e=>?_) λu e=>⟨u,?_,F5 _ _⟩⟩
 .obtain⟨j,t⟩:=M5 s;refine xea (c.sq j d t) λv l _=>?_;rw[e]at l;cases l;exact f _ _ e (AI e h.jw.gr.lv A6) (AI e n A6) (AI e h.jw.gr.nm A6)
 .exact f _ _ e (AI e h.jw.gr.lv A6) (AI e n A6) h.jw.me.ap.2.2
def No(H:Hp)(m:MA)(e n:Nat):Prop:=∀d kv,m.ds[e]?=n_ d->H d=n_ (.dK kv)->Bv kv (Sum.inl (n:Int))=o0
def Up(l:Nat)(G:Gv)(H H':Hp)(m:MA):Prop:=∀e n l':Nat,Ao G n ((l'+2:Nat):Int)->l<=l'->No H m e n->No H' m e n
theorem Up.refl(l:Nat)(G:Gv)(H:Hp)(m:MA):Up l G H H m:=λ_ _ _ _ _ h=>h
theorem Up.trans{c d f:Hp}(h:Up l G c d m)(k:Up l G' d f m)(go:AJ G G' i):Up l G c f m:=λe n q j o s=>k e n q (go.lev j) o (h e n q j o s)
theorem Up.mono{l c:Nat}(h:Up l G H H' m)(e:l<=c):Up c G H H' m:=λk n o d f j=>h k n o d (C5 e f) j
theorem Up.of(l:Nat){N M:Nat}(q:Lf H g G N M r m)(k:∀d∈m.ds,∀o,H d=n_ o->H' d=n_ o):Up l G H H' m:=λe n u _ _ h d t c j=>by
 refine xea (q.sq e d c) λs f _=>?_;have:=k d (D8 c) _ f;rw[j]at this;cases this;exact h d _ c f
theorem JZ.upS(l:Nat)(h:JZ a H g G Κ N b p dx mem pr r m)(s:Ay H H'):Up l G H H' m:=Up.of l h.jw.me λd _ o e=>s _ _ e
theorem JZ.upF(l:Nat)(h:JZ a H g G Κ N b p dx mem pr r m)(f:Fr g H H'):Up l G H H' m:=Up.of l h.jw.me λd n o e=>by
 refine xea h.jw.gr.pt λt k _=>?_;obtain⟨j,q⟩:=M5 n;refine xea (h.jw.me.sq j d q) λs c _=>?_;rw[e]at c;cases c;exact f _ _ e (AI e h.jw.gr.lv A6) (AI e k A6) (AI e h.jw.gr.nm A6)
theorem JW.tc{c:List (List Key×V)}(h:JW a H g G N M p dx mem pr r m)(e:H m.kc=n_ (.dT c)):JW a H g G N c.length p dx mem pr r m:=by
 refine AX h.me.ce λj d _ f=>?_;rw[e]at d;cases d;exact⟨h.gr,h.ok,h.bs,h.br,h.nbr,h.hp,h.ru,h.rok,h.rest,⟨h.me.tp,h.me.l,h.me.ap,h.me.len,h.me.nd,h.me.sq,_,e,B8 _,f⟩⟩
theorem JZ.mid{t:List (List Key×V)}(h:JZ a H g G Κ N b p dx mem pr r m)(c:Cn H G m Κ b f)(s:H m.kc=n_ (.dT t))(fr:FrC g m H H')(k:JW a H' g G' N (t.length+4) p dx mem pr r m)(go:AJ G G' 1):JZ a H' g G' Κ N (b+4) p dx mem pr r m/\∀l,Up l G H H' m:=by
 refine xea h.jw.gr.pt λF B _=>?_;have y:∀d∈m.ds,∀o,H d=n_ o->H' d=n_ o:=λd C o e=>by
  obtain⟨j,k⟩:=M5 C;refine xea (h.jw.me.sq j d k) λE x _=>?_;rw[e]at x;cases x;exact fr _ _ e (AI e h.jw.gr.lv A6) (AI e B A6) (AI e h.jw.gr.nm A6) (AI e s A6)
 refine AX k.me.ce λq v z A=>AX h.jw.me.ce λu w D _=>?_;rw[s]at w;cases w;have n:=k.me;refine⟨⟨⟨k.gr,k.ok,k.bs,k.br,k.nbr,k.hp,k.ru,k.rok,k.rest,⟨n.tp,n.l,n.ap,n.len,n.nd,n.sq,q,v,by lia,A⟩⟩,f,c.kp (i:=4) h.jw.ok (go.mono A4) y λu e=>⟨q,v,by rw[s]at e;cases e;exact z⟩⟩,λl=>Up.of l h.jw.me y⟩
theorem JZ.put{e n k l:Nat}{d:R_}{t:List (Key×V)}(h:JZ a H g G Κ N (b+10) p dx mem pr r m)(fin:Nd Κ N)(B:m.ds[e]?=n_ d)(I:H d=n_ (.dK t))(no:Bv t (Sum.inl (n:Int))=o0)(T:Ao G n ((l+2:Nat):Int))(hk:Κ l e (CS G (l+2) n))(jr:JR r G e n k):JZ a (upd H d (.dK (DR t (Sum.inl (n:Int)) (.int (k:Int))))) g G Κ N b p dx mem pr r m/\Up (l+1) G H (upd H d (.dK (DR t (Sum.inl (n:Int)) (.int (k:Int))))) m:=by
 obtain⟨f,c⟩:=h.cn;have D:e<47:=by rw[<-h.jw.me.len];exact(B9.mp B).1
 have o:=h.jw.putS B I jr;refine Ec (c.sq e d B) λab W q2 q3 q4=>?_;rw[I]at W;cases W;have U:=GF (.int (k:Int)) no;rw[U]at o⊢;have nn:(Sum.inl (n:Int):Key)∉t.map (·.1):=λz=>by
  refine xea (D0.mp z) λq hq eq=>?_;have:(t.find? λt=>decide (t.1=(Sum.inl (n:Int):Key)))=o0:=by
   unfold Bv at no;cases y:t.find? λt=>decide (t.1=(Sum.inl (n:Int):Key))with
   |none=>rfl
   |some w=>rw[y]at no;cases no
  have:=List.find?_eq_none.mp this q hq;exact this (A0e eq)
 refine xea c.ce λkc R c2=>?_;have gl:=c.gl;have F:∀{d':R_}{s:Nat},m.ds[s]?=n_ d'->s≠e->d'≠d:=λ{d' s} j z y=>z (by
  rw[y]at j;exact(List.getElem?_inj (B9.mp j).1 h.jw.me.nd).mp (j.trans B.symm))
 have v:Cn (upd H d (.dK (t++[(Sum.inl (n:Int),.int (k:Int))]))) G m Κ b (λi=>if i=e then f i+1 else f i):=by
  refine⟨λs d' j=>?_,by rw[WR f D];lia,kc,?_,by rw[WR f D];lia⟩
  .by_cases z:s=e
   .subst z;rw[B]at j;cases j;refine⟨_,Af,by rw[A0g rfl,C6,q2];rfl,?_,λk' E=>?_⟩
    .rw[C7,T9];refine⟨q3,by simp,λx hx y hy=>?_⟩;rw[D4.mp hy];exact λz=>nn ((show x=Sum.inl (n:Int)from z)▸hx)
    .rw[C7]at E;rcases F6.mp E with y|y
     .exact q4 k' y
     .rw[D4.mp y];exact⟨n,l,Z,T,hk⟩
   .exact Ec (c.sq s d' j) λC M O K P=>⟨C,by rw[Ax (F j z)];exact M,by rw[A0d z];exact O,K,P⟩
  .rw[Ax (AI R I A6)];exact R
 refine⟨⟨?_,_,v⟩,λs n' l' a1 a2 Q d' C j A=>?_⟩
 .have fw:∀{s:Nat},s<47->(if s=e then f s+1 else f s)<=N:=λ{s} he=>v.few h.jw.ok fin h.jw.me.len he;have sm:=v.sum h.jw.ok fin h.jw.me.len;refine xea v.ce λL S d2=>?_;have u:=o.me;refine AX u.ce λaa X r2 r3=>?_;rw[S]at X;cases X;refine⟨o.gr,o.ok,o.bs,o.br,o.nbr,o.hp,o.ru,o.rok,o.rest,⟨u.tp,u.l,u.ap,u.len,u.nd,λs d' j=>?_,L,S,by lia,r3⟩⟩;refine Ec (u.sq s d' j) λkw Y u2 u3 u4=>AX (v.sq s d' j) λac v1 v2 _=>?_;rw[Y]at v1;cases v1;exact⟨kw,Y,by rw[v2];exact fw (by rw[<-h.jw.me.len];exact(B9.mp j).1),u3,u4⟩
 .by_cases z:s=e
  .subst z;rw[B]at j;cases j;rw[Af]at A;cases A;rw[<-U,FC];have ne:n'≠n:=λy=>by
    subst y;have:((l'+2:Nat):Int)=((l+2:Nat):Int):=by
     refine xea a1 λq M O=>xea T λq' K P=>?_;rw[M]at K;cases K;exact O.symm.trans P
    lia
   rw[A0d (λy=>ne (by have:=Sum.inl.inj y;lia))];exact Q d t B I
  .rw[Ax (F j z)]at A;exact Q d' C j A
end
seal L2.PA L2.PE L2.PS L2.PSs L2.PT L2.PW
structure ClK(r:AC)(Κ:KTy):Prop where
nine1:∀{l e φ},Κ (l+1) e φ->e<=l->∀i j,i<3->j<3->Κ l e λx y=>φ (x+2^(l+1)*i) (y+2^(l+1)*j)
nine2:∀{l φ},Κ (l+1) (l+1) φ->∀i j,i<3->j<3->Κ l l λx y=>φ (x+2^(l+1)*i) (y+2^(l+1)*j)
four:∀{l φ},Κ (l+1) (l+1) φ->∀i j,i<2->j<2->Κ l l λx y=>BB r (2^l) φ (x+(2^(l+1)*i+2^l)) (y+(2^(l+1)*j+2^l))
theorem Ao.one{i j:Int}(h:Ao G n i)(k:Ao G n j):i=j:=by
 refine xea h λq b c=>xea k λp a d=>?_;rw[b]at a;cases a;exact c.symm.trans d
theorem JR.view{c:Nat->Nat->Int}(h:JR r G e n m)(j:Ao G n ((l+2:Nat):Int))(v:Vw G c (l+2) n X Y):Ao G m ((l+1:Nat):Int)/\e<=l/\Vw G (BB r (2^e) c) (l+1) m (X+2^l) (Y+2^l):=by
 refine Ec h λi d a f g=>?_;have b:i=l:=by
  have:=d.one j;lia
 subst b;exact⟨f,a,v.jump a g⟩
theorem Vw.jr(c:Ao G n ((l+1+2:Nat):Int))(a:e<=l+1)(b:Ao G m ((l+1+1:Nat):Int))(v:Vw G (BB r (2^e) (CS G (l+1+2) n)) (l+1+1) m (2^(l+1)) (2^(l+1))):JR r G e n m:=⟨l+1,c,a,b,v⟩
theorem aBa{c:Nat->Nat->Int}{l b d f g z X Y i:Nat}(ok:GOk G)(go:AJ G a i)(h:Ao G b ((l+1:Nat):Int))(k:Ao G d ((l+1:Nat):Int))(m:Ao G f ((l+1:Nat):Int))(n:Ao G g ((l+1:Nat):Int))(t:Vw G c (l+1) b X Y)(u:Vw G c (l+1) d (X+2^(l+1)) Y)(v:Vw G c (l+1) f X (Y+2^(l+1)))(w:Vw G c (l+1) g (X+2^(l+1)) (Y+2^(l+1)))(e:a[z]?=n_ ⟨[((qO G b 3:Nat):Int),((qO G d 2:Nat):Int),((qO G f 1:Nat):Int),((qO G g 0:Nat):Int)],(l:Int)+1⟩):Vw a c (l+1) z (X+2^l) (Y+2^l):=by
 have C:2^(l+1)=2^l*2:=L6 ..;refine xa3 (EV e) λx y A B=>?_;have o:=(t.q (i:=1) (j:=1) A4 A4).goes ok go (MQ ok h A4);have p:=(u.q (i:=0) (j:=1) A4 A4).goes ok go (MQ ok k A4);have r:=(v.q (i:=1) (j:=0) A4 A4).goes ok go (MQ ok m A4);have s:=(w.q (i:=0) (j:=0) A4 A4).goes ok go (MQ ok n A4);refine Vw.of ?_ ?_ ?_ ?_
 .rw[x];exact o.at' A3 A3
 .rw[y];exact p.at' A3 A3
 .rw[A];exact r.at' A3 A3
 .rw[B];exact s.at' A3 A3
theorem OC{G a:Gv}{c:Nat->Nat->Int}{l b d f g z X Y i:Nat}{L:Int}(ok:GOk G)(go:AJ G a i)(h:Ao G b (l:Int))(j:Ao G d (l:Int))(k:Ao G f (l:Int))(m:Ao G g (l:Int))(n:Vw G c l b X Y)(o:Vw G c l d (X+2^l) Y)(p:Vw G c l f X (Y+2^l))(q:Vw G c l g (X+2^l) (Y+2^l))(e:a[z]?=n_ ⟨[(b:Int),(d:Int),(f:Int),(g:Int)],L⟩):Vw a c (l+1) z X Y:=by
 refine xa3 (EV e) λr s t u=>Vw.of ?_ ?_ ?_ ?_
 .rw[r];exact n.goes ok go h
 .rw[s];exact o.goes ok go j
 .rw[t];exact p.goes ok go k
 .rw[u];exact q.goes ok go m
theorem Ya:∀xs:List Nat,xs.length=9->∃a b c d e f g h i,xs=[a,b,c,d,e,f,g,h,i]
|[a,b,c,d,e,f,g,h,i],_=>⟨a,b,c,d,e,f,g,h,i,Z⟩
theorem QD:∀xs:List Nat,xs.length=4->∃a b c d,xs=[a,b,c,d]
|[a,b,c,d],_=>⟨a,b,c,d,Z⟩
def toV(k:Nat):V:=.int (k:Int)
def aF1(G:Gv)(c:Nat->Nat->Int)(l X:Nat)(ys:J_):Prop:=∀i j,i<3->j<3->∃y,ys[i+3*j]?=n_ y/\Ao G y (l:Int)/\Vw G c l y (2^l*i+X) (2^l*j+X)
theorem Rz   {c:Nat->Nat->Int}   (ok:GOk a) (go:AJ a b x) (h:∀i j,i<3->j<3->∃k,ks[i+3*j]?=n_ k/\Ao a k ((l+1+1:Nat):Int)/\Vw a c (l+1+1) k (2^(l+1)*i) (2^(l+1)*j)) (q:Paired (λk y=>JR r b e k y) ks ys):aF1 b (BB r (2^e) c) (l+1) (2^l) ys:=λi j o p=>by
 exact AX (h i j o p) λk f d g=>xea (Paired.get q f) λy m n=>xa2 (n.view (go.lev d) (g.goes ok go d)) λs _ t=>⟨y,m,s,t⟩
theorem Qo{G:Gv}{c:Nat->Nat->Int}{l X:Nat}{H:Hp}{x n y o g p z q A:Nat}{r s u v:R_}(m:aF1 G c l X [x,n,y,o,g,p,z,q,A])(B:H r=n_ (.tup [.int x,.int n,.int o,.int g]))(C:H s=n_ (.tup [.int n,.int y,.int g,.int p]))(D:H u=n_ (.tup [.int o,.int g,.int z,.int q]))(E:H v=n_ (.tup [.int g,.int p,.int q,.int A]))(t:Nat)(w:R_)(a:[r,s,u,v][t]?=n_ w) :
  ∃b d e f:Nat,H w=n_ (.tup [.int b,.int d,.int e,.int f])/\(Ao G b (l:Int)/\Ao G d (l:Int)/\Ao G e (l:Int)/\Ao G f (l:Int))/\Vw G c l b (2^l*(t%2)+X) (2^l*(t/2)+X)/\Vw G c l d (2^l*(t%2)+X+2^l) (2^l*(t/2)+X)/\Vw G c l e (2^l*(t%2)+X) (2^l*(t/2)+X+2^l)/\Vw G c l f (2^l*(t%2)+X+2^l) (2^l*(t/2)+X+2^l):=by
 have M:t<4:=(B9.mp a).1;have R:=Nat.mul_succ (2^l) (t%2);have S:=Nat.mul_succ (2^l) (t/2);refine AX (m (t%2) (t/2) A3 A3) λb h F N=>AX (m (t%2+1) (t/2) A3 A3) λd i I O=>AX (m (t%2) (t/2+1) A3 A3) λe j K P=>AX (m (t%2+1) (t/2+1) A3 A3) λf k L Q=>⟨b,d,e,f,?_,⟨F,I,K,L⟩,N,O.at' A3 Z,P.at' Z A3,Q.at' A3 A3⟩
 match t,M,a with
 |0,_,a=>cases h;cases i;cases j;cases k;cases a;exact B
 |1,_,a=>cases h;cases i;cases j;cases k;cases a;exact C
 |2,_,a=>cases h;cases i;cases j;cases k;cases a;exact D
 |3,_,a=>cases h;cases i;cases j;cases k;cases a;exact E
theorem Tt{α:Type}{P:Nat->α->Prop}{c:List α}{z:α}{i:Nat}(b:c.length=i)(h:∀t a,c[t]?=n_ a->P t a)(d:P i z):∀t a,(c++[z])[t]?=n_ a->P t a:=λt a e=>by
 by_cases f:t<i
 .rw[N5 A3]at e;exact h t a e
 .have:t=i:=by
   have:=(B9.mp e).1;rw[C6,b]at this;have:t<i+1:=this;lia
  subst this;rw[L9 (K8 b),b,Z4]at e;cases e;exact d
section
variable{P:N_}{w:Q_}{K:O_}{mg:C_}{n8:T_}{a:Ad}
inductive aAf(a:Ad)(L:Nat)(vs:List V)(H:Hp)(Q:VK):Prop
|mk (p dx mem pr:R_) (g:GA) (G:Gv) (Κ:KTy) (N b:Nat) (r:AC) (m:MA) (n l e:Nat) (_:vs=[.ref p,.int n,.int e]) (_:JZ a H g G Κ N b p dx mem pr r m) (_:Nd Κ N) (_:ClK r Κ) (_:Ao G n ((l+2:Nat):Int)) (_:l<L) (_:e<=l) (_:Κ l e (CS G (l+2) n)) (_:b+10*N+10*(l+1)<8000000) (_:∀(k:Nat)(G':Gv)(H':Hp)(i:Nat),FrJ g m H H'->JZ a H' g G' Κ N b p dx mem pr r m->AJ G G' i->JR r G' e n k->Up (l+1) G H H' m->Q (.int k) H'):aAf a L vs H Q
def Im(a:Ad)(L:Nat):Sp:=λvs H Q _=>aAf a L vs H Q
inductive aAa(a:Ad)(L:Nat)(vs:List V)(H:Hp)(Q:VK):Prop
|mk (p dx mem pr:R_) (g:GA) (G:Gv) (Κ:KTy) (N b:Nat) (r:AC) (m:MA) (n l e:Nat) (_:vs=[.ref p,.int n,.int e]) (_:JZ a H g G Κ N b p dx mem pr r m) (_:Nd Κ N) (_:ClK r Κ) (_:Ao G n ((l+2:Nat):Int)) (_:l<L) (_:e<=l) (_:Κ l e (CS G (l+2) n)) (_:b+10*N+10*(l+1)<8000000) (_:∀(k:Nat)(G':Gv)(H':Hp)(i:Nat),FrJ g m H H'->JZ a H' g G' Κ N (b+10) p dx mem pr r m->AJ G G' i->JR r G' e n k->Up l G H H' m->Q (.int k) H'):aAa a L vs H Q
def Vz(a:Ad)(L:Nat):Sp:=λvs H Q _=>aAa a L vs H Q
inductive Yx(a:Ad)(L:Nat)(vs:List V)(H:Hp)(Q:VK):Prop
|mk (p dx mem pr:R_) (g:GA) (G:Gv) (Κ:KTy) (N b:Nat) (r:AC) (m:MA) (n l:Nat) (_:vs=[.ref p,.int n,.int ((l+1:Nat):Int)]) (_:JZ a H g G Κ N b p dx mem pr r m) (_:Nd Κ N) (_:ClK r Κ) (_:Ao G n ((l+1+2:Nat):Int)) (_:l<L) (_:Κ (l+1) (l+1) (CS G (l+1+2) n)) (_:b+10*N+10*(l+2)<8000000) (_:∀(A:R_)(f0 f1 f2 f3:Nat)(G':Gv)(H':Hp)(i:Nat),FrJ g m H H'->JZ a H' g G' Κ N (b+9) p dx mem pr r m->AJ G G' i->Up (l+1) G H H' m->H' A=n_ (.lst [toV f0,toV f1,toV f2,toV f3])->(Ao G' f0 ((l+2:Nat):Int)/\Ao G' f1 ((l+2:Nat):Int)/\Ao G' f2 ((l+2:Nat):Int)/\Ao G' f3 ((l+2:Nat):Int))->(Vw G' (BB r (2^l) (CS G (l+1+2) n)) (l+2) f0 (2^l) (2^l)/\Vw G' (BB r (2^l) (CS G (l+1+2) n)) (l+2) f1 (2^l+2^(l+1)) (2^l)/\Vw G' (BB r (2^l) (CS G (l+1+2) n)) (l+2) f2 (2^l) (2^l+2^(l+1))/\Vw G' (BB r (2^l) (CS G (l+1+2) n)) (l+2) f3 (2^l+2^(l+1)) (2^l+2^(l+1)))->Q (.ref A) H'):Yx a L vs H Q
def Sm(a:Ad)(L:Nat):Sp:=λvs H Q _=>Yx a L vs H Q
theorem aBq{L d:Nat}(F:Fun K "four_halfway" "Jumps.four_halfway" BD f fd)(T:Top K mg a)(d3:3<=d)(aO:Cal P w K mg n8 CX0 3 "nine_parts" LZ (PL a))(aV:Cal P w K mg n8 CX0 1 "fours_of" VU Nh)(a6:Co P w K mg n8 CX0 2 a.N1 "linked" AZ (Ey a))(aG:Co P w K mg n8 CX0 d a.M3 "reckoned" Rc (Im a L)):AM P w K mg n8 CX0 (d+1) f fd Rc (Sm a L):=by
 refine F.ok EU (λvs H Q E h=>?_) (λbg A bd s H vs Q E hr h=>?_)
 .apply Br;intro U c;obtain⟨p,dx,mem,pr,g,G,Κ,N,b,r,m,n,l,rfl,_⟩:=h;apply c;clear c U;rfl
 .apply Br;intro U c;obtain⟨p,dx,mem,pr,g,G,Κ,N,b,r,m,n,l,rfl,hz,fin,cl,hl,hL,a9,few,k⟩:=h;have hj:=hz.jw;have sz:=hz.sz fin;apply c;clear c U;refine⟨_,(Ae (Eg (i:=3) Z EU.nd Z Z (Bl.of (So:=Ak BD) (No:=DD) (N:=["part","self","e"]) (k:=1) (cs:=[0,2]) Z Z A0) (Cb (Ar aO (rm hr) Z Aq (Aa (AF (pv 0) Z) (Aa (pv 1) Ab)))) (λ_ _ _=>(AW (i:=0) A0 Z Z)) (λ_ _ _=>Bm) (λ_ _ _=>(AK (pv 1) aG (rm hr) Aq (Aa (pv 0) (AT Bq (pv 2) Ac Ab))))) (Ah (Au (BT Z (Bl.of (So:=Ak BD) (No:=DD) (N:=["four","self"]) (k:=1) (cs:=[0]) Z Z A0) (Cb (Ar aV (rm hr) Z Aq (Aa (pv 3) Ab))) (λ_ _ _=>(AW (i:=0) A0 Z Z)) (λ_ _ _=>Bm) (λ_ _ _=>(AK (SE (K:=K) Z (pv 1) Z) a6 (rm hr) Aq (Aa (pv 0) Ab))))))),?_⟩;refine xea (id hl) λq9 av bh=>?_;have bc:l<=45:=by have:=(hj.ok.lev av).2;lia
  refine xwf Z Z hj.hp T.Q1 T.N2 (En _ _ _ _ _) (xq1 Z ⟨g,G,n,l+1,Z,hj.gr,hj.ok,hl,Q9 bc _,by lia,λA9 ks G3 H3 ag a1 M aq l9 nine=>?_⟩);have aj:=hz.fr ag a1 M;have O:=aj.jw;have bj:=aj.sz fin
  skip
  have as:∀(t k:Nat),ks[t]?=n_ k->Ao G3 k ((l+2:Nat):Int):=λt k e=>by
   have ht:=(B9.mp e).1;refine AX (nine (t%3) (t/3) A3 A3) λk' e1 e2 _=>?_;rw[show t%3+3*(t/3)=t by lia,e]at e1;cases e1;exact e2
  have bb:∀(t k:Nat),ks[t]?=n_ k->Κ l l (CS G3 (l+2) k):=λt k e=>by
   have ht:=(B9.mp e).1;refine AX (nine (t%3) (t/3) A3 A3) λk' e1 _ v=>?_;rw[show t%3+3*(t/3)=t by lia,e]at e1;cases e1;exact fin.ext (cl.nine2 a9 (t%3) (t/3) A3 A3) λx y hx hy=>(v x y hx hy).symm
  refine⟨A9,Z,⟨_,SqL.of aq⟩,?_⟩;refine CT (xs:=ks.map λ(k:Nat)=>V.int (k:Int)) (λi B H5=>∃(G5:Gv)(ys:J_)(c5:Nat),B=ys.map toV/\ys.length=i/\FrJ g m H3 H5/\JZ a H5 g G5 Κ N (b+5) p dx mem pr r m/\AJ G3 G5 c5/\Up (l+1) G3 H3 H5 m/\Paired (λk y=>JR r G5 l k y) (ks.take i) ys) ⟨G3,[],0,Z,Z,λb o e _ _ _ _ _=>e,aj,AJ.refl O.ok,Up.refl _ _ _ _,.nil⟩ (λi B H5 _ z=>by refine Go z λ_ _ _ _ _ fr _=>?_;exact SqL.of ((fr.kps O.gr O.bs.long O.me) _ _ aq (.lst (by rw[B7];lia)))) ?_ ?_
  .rintro i v B H5 ev ac;refine CV ac λG5 ys c5 af ly ah S q=>xa2 q λu al ad=>?_;clear q;clear ac;subst af;rw[C0]at ev;refine xea (D5.mp ev) λk5 ek I=>?_;subst I;have i9:i<9:=by have:=(B9.mp ek).1;lia
   have ai:=S.jw
   skip
   refine⟨⟨[n_ (.int (k5:Int))],Z,Z⟩,by rw[B7,ly];exact W4 i9 A4,FY (xwn Z Z ai.hp (NC _ _ _ _ _) Z (xwb Z Z Z ⟨p,dx,mem,pr,g,G5,Κ,N,b+5,r,m,k5,l,l,(show [V.ref p,V.int (k5:Int),V.int (((l+1:Nat):Int)-1)]=[V.ref p,V.int (k5:Int),V.int (l:Int)] by rw[show((l+1:Nat):Int)-1=(l:Int) by lia]),S,fin,cl,u.lev (as i k5 ek),hL,B8 l,(by rw[Dq O.ok u (as i k5 ek)];exact bb i k5 ek),by lia,λy G6 H6 c6 ax aa ao ba bf=>⟨G6,ys++[y],_,by rw[C7];rfl,by rw[C6,ly];rfl,ah.trans ax,aa,u.trans ao,al.trans bf u,?_⟩⟩))⟩;rw[F7,ek,Q4];exact A3f (Paired.imp (λk y z=>z.goes ai.ok ao) ad) ba
  rintro B H5 ab A5 az;apply Br;intro U c;refine CV ab λG5 ys c5 af ly ah S q=>xa2 q λu al ad=>?_;clear q;clear ab;subst af;have ai:=S.jw;apply c;clear c U;rw[B7,l9]at ly;rw[B7,J0]at ad;refine xe5 (Ya ys ly) λy0 y1 y2 y3 y4 q=>xe4 q λy5 y6 y7 y8 am=>?_;clear q;subst am
  skip
  generalize dX:upd H5 A5 _=H6;obtain⟨s5,ar⟩:=alc az dX;have aa:=S.same s5;have bi:=aa.jw;have aw:=(Fr.j ag).trans (ah.trans (Ay.j s5));refine xq1 Z ⟨A5,y0,y1,y2,y3,y4,y5,y6,y7,y8,Z,ar,λMM t0 t1 t2 t3 H7 s7 hM a3 a4 a5 a7=>?_⟩;have ak:=aa.same s7;have Y:=ak.jw;refine⟨MM,Z,⟨_,SqL.of hM⟩,?_⟩;have p1:2^(l+1)=2^l*2:=L6 ..;have four:=Qo (Rz O.ok u nine ad) a3 a4 a5 a7;have ae:=Y.ok;refine CT (xs:=[t0,t1,t2,t3].map V.ref) (λi B H8=>∃(G8:Gv)(zs:J_),B=zs.map toV/\zs.length=i/\Fr g H7 H8/\JZ a H8 g G8 Κ N (b+5+i) p dx mem pr r m/\AJ G5 G8 i/\∀(t z:Nat),zs[t]?=n_ z->Ao G8 z ((l+2:Nat):Int)/\Vw G8 (BB r (2^l) (CS G (l+1+2) n)) (l+1+1) z (2^(l+1)*(t%2)+2^l) (2^(l+1)*(t/2)+2^l)) ⟨G5,[],Z,Z,Fr.refl g H7,ak,AJ.refl ae,λt z e=>(nomatch e)⟩ (λi B H8 _ z=>by refine Ep z λ_ _ _ _ fr _=>?_;exact SqL.of ((fr.kps Y.gr Y.bs.long) _ _ hM (.lst (by show 4<=50;decide)))) ?_ ?_
  .rintro i v B H8 ev ac;apply Br;intro U c;refine Dx ac λG8 zs I lz W D q=>xa q λC vz=>?_;clear q;clear ac;subst I;have R:=D.jw;have be:=D.sz fin;apply c;clear c U;rw[C0]at ev;refine xea (D5.mp ev) λtt et I=>?_;subst I;have i4:i<4:=(B9.mp et).1;apply Br;intro U c;obtain⟨f0,f1,f2,f3,a8,⟨m0,m1,m2,m3⟩,w0,w1,w2,w3⟩:=four i tt et;apply c;clear c U
   skip
   refine⟨⟨[n_ (.ref tt)],Z,Z⟩,by rw[B7,lz];exact W4 i4 A4,FY (xwf Z Z R.hp T.Q1 T.N2 (En _ _ _ _ _) (xq3 Z R.gr.hp (Cc g) (xq1 Z ⟨g,G8,tt,f0,f1,f2,f3,((l+1:Nat):Int),Z,R.gr,R.ok,(W.kps Y.gr Y.bs.long) _ _ a8 (.inl .tup),⟨C.lev m0,C.lev m1,C.lev m2,C.lev m3⟩,by lia,by lia,λz G9 H9 an a2 X e9=>⟨G9,zs++[z],by rw[C7];rfl,by rw[C6,lz];rfl,W.trans an,D.fr an a2 X,C.trans X,?_⟩⟩)))⟩;refine Tt lz (λt z' e=>?_) ?_
   .obtain⟨q1,q2⟩:=vz t z' e;exact⟨X.lev q1,q2.goes R.ok X q1⟩
   .exact⟨⟨_,e9,by show((l+1:Nat):Int)+1=((l+2:Nat):Int);lia⟩,OC ae (C.trans X) m0 m1 m2 m3 w0 w1 w2 w3 e9⟩
  rintro B H8 ab A8 a0;apply Br;intro U c;refine Dx ab λG8 zs I lz W D q=>xa q λC vz=>?_;clear q;clear ab;subst I;have R:=D.jw;have be:=D.sz fin;apply c;clear c U;refine xe4 (QD zs lz) λz0 z1 z2 z3 au=>?_;subst au;have s8:Ay H8 (upd H8 A8 (.lst ([z0,z1,z2,z3].map toV))):=As a0;have ay:=C;obtain⟨q0,x0⟩:=vz 0 z0 Z;obtain⟨q1,x1⟩:=vz 1 z1 Z;obtain⟨q2,x2⟩:=vz 2 z2 Z;obtain⟨q3,x3⟩:=vz 3 z3 Z;refine k A8 z0 z1 z2 z3 G8 _ _ (aw.trans ((Ay.j s7).trans ((Fr.j W).trans (Ay.j s8)))) (D.same s8) ((M.trans u).trans ay) (((((hz.upF (l+1) ag).trans al M).trans (S.upS _ s5) (M.trans u)).trans (aa.upS _ s7) (M.trans u)).trans ((ak.upF _ W).trans (D.upS _ s8) C) (M.trans u)) Af ⟨q0,q1,q2,q3⟩ ⟨x0.at' A3 A3,x1.at' A3 A3,x2.at' A3 A3,x3.at' A3 A3⟩
theorem aCo{L d:Nat}(F:Fun K "fresh" "Jumps.fresh" CH f fd)(T:Top K mg a)(d7:7<=d)(aH:Co P w K mg n8 CX0 7 a.M3 "middle_after" LP (Si a))(a6:Co P w K mg n8 CX0 2 a.N1 "linked" AZ (Ey a))(aO:Cal P w K mg n8 CX0 3 "nine_parts" LZ (PL a))(aV:Cal P w K mg n8 CX0 1 "fours_of" VU Nh)(aJ:Cal P w K mg n8 CX0 3 "met_in_the_middle" Dc (WI a))(aG:Co P w K mg n8 CX0 d a.M3 "reckoned" Rc (Im a L))(cL:Co P w K mg n8 CX0 (d+1) a.M3 "four_halfway" Rc (Sm a L)):AM P w K mg n8 CX0 (d+2) f fd Rc (Vz a (L+1)):=by
 refine F.ok ED (λvs H Q E h=>?_) (λcb A b5 s H vs Q E hr h=>?_)
 .apply Br;intro G_ c;obtain⟨p,dx,mem,pr,g,G,Κ,N,b,r,m,n,l,e,rfl,_⟩:=h;apply c;clear c G_;rfl
 .apply Br;intro G_ c;obtain⟨p,dx,mem,pr,g,G,Κ,N,b,r,m,n,l,e,rfl,hz,fin,cl,hl,hL,he,a9,few,k⟩:=h;have U:=hz.jw;have sz:=hz.sz fin;refine xea (id hl) λq eq el=>?_;apply c;clear c G_;have cd:=(U.ok.lev eq).2;have au:l<=46:=by lia
  refine⟨_,(Ae (Am (i:=3) ED.nd Z (Or.inr Z) (AF (pv 0) Z)) (Ae (Am (i:=4) ED.nd Z O_9 (Aj Az (AF (pv 3) Z) (pv 1) R_9)) (Ae (AO (AA CQ (pv 1) (Aj Az (AF (pv 3) Z) (pv 4) R_9) (AD _)) (Ah (Au (Aj Az (AF (pv 3) Z) (AE Bq (pv 4) Ac) R_9))) AB) (Ae (AO (AA CQ (pv 4) (Cu Z T.d_) (AD _)) (Ah (Au (AK (pv 0) aH (rm hr) Aq (Aa (pv 1) Ab)))) AB) (Ae (AO (AA IZ (pv 2) (AE Bq (pv 4) (Cu Z T.d_)) (AD _)) (Ae (Eg (i:=5) Z ED.nd Z Z (Bl.of (So:=Ak CH) (No:=FA) (N:=["part","self","e"]) (k:=1) (cs:=[0,2]) Z Z A0) (Cb (Ar aO (rm hr) Z Aq (Aa (pv 3) (Aa (pv 1) Ab)))) (λ_ _ _=>(AW (i:=0) A0 Z Z)) (λ_ _ _=>Bm) (λ_ _ _=>(AK (pv 1) aG (rm hr) Aq (Aa (pv 0) (Aa (pv 2) Ab))))) (Ah (Au (AK (pv 3) a6 (rm hr) Aq (Aa (BK BU Z T.f_ A2f (Aa (BT Z (Bl.of (So:=Ak CH) (No:=FA) (N:=["four","grove"]) (k:=1) (cs:=[3]) Z Z A0) (Cb (Ar aV (rm hr) Z Aq (Aa (pv 5) Ab))) (λ_ _ _=>(AW (i:=0) A0 Z Z)) (λ_ _ _=>Bm) (λ_ _ _=>(Ar aJ (rm hr) Z Aq (Aa (pv 1) (Aa (pv 0) Ab))))) Ab)) Ab))))) AB) (Ah (Au (AK (pv 3) a6 (rm hr) Aq (Aa (BK BU Z T.f_ A2f (Aa (BT Z (Bl.of (So:=Ak CH) (No:=FA) (N:=["four","self","e"]) (k:=1) (cs:=[0,2]) Z Z A0) (Cb (AK (pv 0) cL (rm hr) Aq (Aa (pv 1) (Aa (pv 2) Ab)))) (λ_ _ _=>(AW (i:=0) A0 Z Z)) (λ_ _ _=>Bm) (λ_ _ _=>(AK (pv 1) aG (rm hr) Aq (Aa (pv 0) (AT Bq (pv 2) Ac Ab))))) Ab)) Ab))))))))),?_⟩;refine xwf Z Z U.hp T.Q1 T.N2 (En _ _ _ _ _) (xq1 Z ⟨g.p,_,g.dx,_,_,Z,U.gr.hp,T.L0,T.Q2,Fo g,_,Z,g.lv,_,(n:Int),.int ((l+2:Nat):Int),Z,Z,SqL.of U.gr.lv,Ai (by rw[C0,eq,<-el];rfl),?_⟩);refine xq1 Z (xq1 Z ⟨g.p,_,g.dx,_,_,Z,U.gr.hp,T.L0,T.Q3,IO g,_,Z,g.br,_,((l+2:Nat):Int),.int (bareN (l+2):Int),Z,Z,SqL.of U.br,Ai (aDo (Q9 au _)),Z,_,Z,?_⟩);refine IN (λhc=>?_) (λhc=>?_)
  .have ei:n=bareN (l+2):=by
    have:=A2b hc;injection this with this
    exact A1b this
   refine xwf Z Z U.gr.hp T.L0 T.Q3 (IO g) (xwb Z Z Z (xq4 Z Z (SqL.of U.br) (by rw[show((l+2:Nat):Int)-1=((l+1:Nat):Int) by lia];exact Ai (aDo A3)) ?_));refine k (bareN (l+1)) G H 0 (λb o e _ _ _ _ _=>e) (hz.mono (F5 _ _)) (AJ.refl U.ok) ?_ (Up.refl _ _ _ _);rw[ei];exact JR.bare U.ok U.bs U.rest (Q9 au _) he
  refine xq1 Z ⟨Z,(xq1 Z ?_)⟩;cases l with
  |zero =>
   refine(show ∀{b:Bool}{A B:Prop},b=o4->A->(if b=o4 then A else B)from λh x=>by rw[h];exact BR x) (A0e Z) ?_;have e0:e=0:=by lia
   subst e0;obtain⟨ff,cn⟩:=hz.cn;refine xea cn.ce λkc c1 c2=>?_;have sm:=cn.sum U.ok fin U.me.len;refine xwn Z Z U.hp (aCf _ _ _ _ _) Z ⟨p,dx,mem,pr,g,G,N,kc.length,r,m,n,Z,U.tc c1,hl,by lia,by lia,λk' G' H' fr bt go jr=>?_⟩;obtain⟨z1,z2⟩:=hz.mid cn c1 fr bt go;exact k k' G' H' 1 fr.j (z1.mono A3) go jr (z2 _)
  |succ l =>
   refine(show ∀{b:Bool}{A B:Prop},b=o5->B->(if b=o4 then A else B)from λh x=>by rw[h];exact Ba x) (A0f (by intro z;injection z with z;have z:=z;lia)) ?_;have hL:l<L:=by lia
   have p1:2^(l+1)=2^l*2:=L6 ..;refine xw2 Z Z (xq2 Z Z (xq2 Z Z (xq1 Z ?_)));refine IN (λhc=>?_) (λhc=>?_)
   .have av:e<=l:=by
     have hc:=A2b hc;have hc:=hc;lia
    refine xea (id hl) λq9 bj cc=>?_;have au:l<=45:=by have:=(U.ok.lev bj).2;lia
    refine xw2 Z Z ⟨g,G,n,l+1,Z,U.gr,U.ok,hl,Q9 au _,by lia,λA9 ks G3 H3 a3 bp ak be l9 nine=>?_⟩;have a8:=hz.fr a3 bp ak;have al:=a8.jw;have cf:=a8.sz fin
    skip
    have bh:∀(t k:Nat),ks[t]?=n_ k->Ao G3 k ((l+2:Nat):Int):=λt k e=>by
     have ht:=(B9.mp e).1;refine AX (nine (t%3) (t/3) A3 A3) λk' e1 e2 _=>?_;rw[show t%3+3*(t/3)=t by lia,e]at e1;cases e1;exact e2
    have b3:∀(t k:Nat),ks[t]?=n_ k->Κ l e (CS G3 (l+2) k):=λt k e=>by
     have ht:=(B9.mp e).1;refine AX (nine (t%3) (t/3) A3 A3) λk' e1 _ v=>?_;rw[show t%3+3*(t/3)=t by lia,e]at e1;cases e1;exact fin.ext (cl.nine1 a9 av (t%3) (t/3) A3 A3) λx y hx hy=>(v x y hx hy).symm
    refine⟨A9,Z,⟨_,SqL.of be⟩,?_⟩;refine CT (xs:=ks.map λ(k:Nat)=>V.int (k:Int)) (λi M H5=>∃(G5:Gv)(ys:J_)(c5:Nat),M=ys.map toV/\ys.length=i/\FrJ g m H3 H5/\JZ a H5 g G5 Κ N (b+5) p dx mem pr r m/\AJ G3 G5 c5/\Up (l+1) G3 H3 H5 m/\Paired (λk y=>JR r G5 e k y) (ks.take i) ys) ⟨G3,[],0,Z,Z,λb o e _ _ _ _ _=>e,a8,AJ.refl al.ok,Up.refl _ _ _ _,.nil⟩ (λi M H5 _ z=>by refine Go z λ_ _ _ _ _ fr _=>?_;exact SqL.of ((fr.kps al.gr al.bs.long al.me) _ _ be (.lst (by rw[B7];lia)))) ?_ ?_
    .rintro i v M H5 ev ah;refine CV ah λG5 ys c5 ai ly a4 am I=>xa2 I λR ba ax=>?_;clear I;clear ah;subst ai;rw[C0]at ev;refine xea (D5.mp ev) λk5 ek ab=>?_;subst ab;have i9:i<9:=by have:=(B9.mp ek).1;lia
     have a7:=am.jw
     skip
     refine⟨⟨[n_ (.int (k5:Int))],Z,Z⟩,by rw[B7,ly];exact W4 i9 A4,FY (xwn Z Z a7.hp (NC _ _ _ _ _) Z (xq1 Z ⟨p,dx,mem,pr,g,G5,Κ,N,b+5,r,m,k5,l,e,Z,am,fin,cl,R.lev (bh i k5 ek),hL,av,(by rw[Dq al.ok R (bh i k5 ek)];exact b3 i k5 ek),by lia,λy G6 H6 c6 bn as bd b1 b6=>⟨G6,ys++[y],_,by rw[C7];rfl,by rw[C6,ly];rfl,a4.trans bn,as,R.trans bd,ba.trans b6 R,?_⟩⟩))⟩;rw[F7,ek,Q4];exact A3f (Paired.imp (λk y z=>z.goes a7.ok bd) ax) b1
    rintro M H5 ag A5 bo;apply Br;intro G_ c;refine CV ag λG5 ys c5 ai ly a4 am I=>xa2 I λR ba ax=>?_;clear I;clear ag;subst ai;have a7:=am.jw;apply c;clear c G_;rw[B7,l9]at ly;rw[B7,J0]at ax;refine xe5 (Ya ys ly) λy0 y1 y2 y3 y4 I=>xe4 I λy5 y6 y7 y8 bc=>?_;clear I;subst bc
    skip
    generalize dX:upd H5 A5 _=H6;obtain⟨s5,bf⟩:=alc bo dX;have as:=am.same s5;have bu:=as.jw;have bl:=(Fr.j a3).trans (a4.trans (Ay.j s5));refine xwm Z Z bu.gr.hp (Cc g) (xq1 Z ⟨A5,y0,y1,y2,y3,y4,y5,y6,y7,y8,Z,bf,λMM t0 t1 t2 t3 H7 s7 hM bv bw bx bz=>?_⟩);have an:=as.same s7;have X:=an.jw;refine⟨MM,Z,⟨_,SqL.of hM⟩,?_⟩;have four:=Qo (Rz al.ok R nine ax) bv bw bx bz;have aa:=X.ok;refine CT (xs:=[t0,t1,t2,t3].map V.ref) (λi M H8=>∃(W:Gv)(zs:J_),M=zs.map toV/\zs.length=i/\Fr g H7 H8/\JZ a H8 g W Κ N (b+5+i) p dx mem pr r m/\AJ G5 W i/\∀(t z:Nat),zs[t]?=n_ z->Ao W z ((l+1:Nat):Int)/\Vw W (BB r (2^e) (CS G (l+1+2) n)) (l+1) z (2^(l+1)*(t%2)+2^(l+1)) (2^(l+1)*(t/2)+2^(l+1))) ⟨G5,[],Z,Z,Fr.refl g H7,an,AJ.refl aa,λt z e=>(nomatch e)⟩ (λi M H8 _ z=>by refine Ep z λ_ _ _ _ fr _=>?_;exact SqL.of ((fr.kps X.gr X.bs.long) _ _ hM (.lst (by show 4<=50;decide)))) ?_ ?_
    .rintro i v M H8 ev ah;apply Br;intro G_ c;refine Dx ah λW zs ab lz ac D I=>xa I λC vz=>?_;clear I;clear ah;subst ab;have ad:=D.jw;have ay:=D.sz fin;apply c;clear c G_;rw[C0]at ev;refine xea (D5.mp ev) λtt et ab=>?_;subst ab;have i4:i<4:=(B9.mp et).1;apply Br;intro G_ c;obtain⟨f0,f1,f2,f3,b0,⟨m0,m1,m2,m3⟩,w0,w1,w2,w3⟩:=four i tt et;apply c;clear c G_
     skip
     have qg:∀{f:Nat}(j:Nat),Ao G5 f ((l+1:Nat):Int)->qO W f j=qO G5 f j:=λ{f} j h=>by
      refine xea h λq e _=>?_;unfold qO;rw[C.get e,e]
     refine⟨⟨[n_ (.ref tt)],Z,Z⟩,by rw[B7,lz];exact W4 i4 A4,FY (xw2 Z Z ⟨g,W,tt,f0,f1,f2,f3,l,Z,ad.gr,ad.ok,(ac.kps X.gr X.bs.long) _ _ b0 (.inl .tup),⟨C.lev m0,C.lev m1,C.lev m2,C.lev m3⟩,C5 au A4,by lia,λz G9 H9 aw bq S e9=>⟨G9,zs++[z],by rw[C7];rfl,by rw[C6,lz];rfl,ac.trans aw,D.fr aw bq S,C.trans S,?_⟩⟩)⟩;rw[qg 3 m0,qg 2 m1,qg 1 m2,qg 0 m3]at e9;refine Tt lz (λt z' e=>?_) ?_
     .obtain⟨q1,q2⟩:=vz t z' e;exact⟨S.lev q1,q2.goes ad.ok S q1⟩
     .exact⟨⟨_,e9,by show(l:Int)+1=((l+1:Nat):Int);lia⟩,(aBa aa (C.trans S) m0 m1 m2 m3 w0 w1 w2 w3 e9).at' A3 A3⟩
    rintro M H8 ag A8 a5;apply Br;intro G_ c;refine Dx ag λW zs ab lz ac D I=>xa I λC vz=>?_;clear I;clear ag;subst ab;have ad:=D.jw;have ay:=D.sz fin;apply c;clear c G_;refine xe4 (QD zs lz) λz0 z1 z2 z3 a1=>?_;subst a1;have D:JZ a H8 g W Κ N (b+5+4) p dx mem pr r m:=D;have ay:=D.sz fin;have Y:=(ak.trans R).trans C;have a2:FrJ g m H H8:=bl.trans ((Ay.j s7).trans (Fr.j ac));generalize eF:upd H8 A8 _=H9;obtain⟨s8,ar⟩:=alc a5 eF;refine⟨A8,(xq1 Z (.inl ⟨SqL.of ar,λu hu=>?_⟩))⟩;have ae:=D.same s8;have aj:=ae.jw;obtain⟨q0,x0⟩:=vz 0 z0 Z;obtain⟨q1,x1⟩:=vz 1 z1 Z;obtain⟨q2,x2⟩:=vz 2 z2 Z;obtain⟨q3,x3⟩:=vz 3 z3 Z
    skip
    refine lnk (⟨.refl _ _,λe=>e,aj.gr,.refl aj.ok⟩:Ln a g H9 W 0 H9 W) hu ⟨q0,q1,q2,q3⟩ A3 A3 λz az a0 af O ao=>k z az a0 _ (a2.trans ((Ay.j s8).trans (Fr.j af.fr))) ((ae.fr af.fr af.gr O).mono (B8 _)) (Y.trans O) ?_ (((((hz.upF (l+1) a3).trans ba ak).trans (am.upS _ s5) (ak.trans R)).trans (as.upS _ s7) (ak.trans R)).trans (((an.upF _ ac).trans (D.upS _ s8) C).trans (ae.upF _ af.fr) C) (ak.trans R));have aq:=Y.trans O;refine Vw.jr (aq.lev hl) he ⟨_,ao,by show((l+1:Nat):Int)+1=((l+1+1:Nat):Int);lia⟩ ?_;rw[Dq U.ok aq hl];exact OC aj.ok O q0 q1 q2 q3 (x0.at' A3 A3) (x1.at' A3 A3) (x2.at' A3 A3) (x3.at' A3 A3) ao
   .have av:e=l+1:=by
     have hc:¬(e:Int)<((l+1+2:Nat):Int)-2:=λz=>hc (A0e z);lia
    subst av;refine xwm Z Z U.gr.hp (Cc g) (xwn Z Z U.hp (aBi _ _ _ _ _) Z (xq1 Z ⟨p,dx,mem,pr,g,G,Κ,N,b,r,m,n,l,Z,hz,fin,cl,hl,hL,a9,few,λA7 f0 f1 f2 f3 G5 H7 i5 bm an R b7 bg b4 b9=>?_⟩));refine xa3 b4 λm0 m1 m2 m3=>xa3 b9 λw0 w1 w2 w3=>?_
    skip
    refine⟨A7,Z,⟨_,SqL.of bg⟩,?_⟩;have X:=an.jw;have aa:=X.ok;have four:∀(t f:Nat),[f0,f1,f2,f3][t]?=n_ f->Ao G5 f ((l+2:Nat):Int)/\Vw G5 (BB r (2^l) (CS G (l+1+2) n)) (l+2) f (2^(l+1)*(t%2)+2^l) (2^(l+1)*(t/2)+2^l):=λt f et=>by
     match t,et with
     |0,et=>cases et;exact⟨m0,w0.at' A3 A3⟩
     |1,et=>cases et;exact⟨m1,w1.at' A3 A3⟩
     |2,et=>cases et;exact⟨m2,w2.at' A3 A3⟩
     |3,et=>cases et;exact⟨m3,w3.at' A3 A3⟩
     |j+4,et=>cases et
    have bi:BB r (2^l) (BB r (2^l) (CS G (l+1+2) n))=BB r (2^(l+1)) (CS G (l+1+2) n):=by
     rw[<-TM,p1,Nat.mul_two]
    refine CT (xs:=[f0,f1,f2,f3].map toV) (λi M H8=>∃(W:Gv)(zs:J_)(c8:Nat),M=zs.map toV/\zs.length=i/\FrJ g m H7 H8/\JZ a H8 g W Κ N (b+9) p dx mem pr r m/\AJ G5 W c8/\Up (l+1) G5 H7 H8 m/\∀(t z:Nat),zs[t]?=n_ z->Ao W z ((l+1:Nat):Int)/\Vw W (BB r (2^(l+1)) (CS G (l+1+2) n)) (l+1) z (2^(l+1)*(t%2)+2^(l+1)) (2^(l+1)*(t/2)+2^(l+1))) ⟨G5,[],0,Z,Z,λb o e _ _ _ _ _=>e,an,AJ.refl aa,Up.refl _ _ _ _,λt z e=>(nomatch e)⟩ (λi M H8 _ z=>by refine Go z λ_ _ _ _ _ fr _=>?_;exact SqL.of ((fr.kps X.gr X.bs.long X.me) _ _ bg (.lst (by show 4<=50;decide)))) ?_ ?_
    .rintro i v M H8 ev ah;apply Br;intro G_ c;refine CV ah λW zs c8 ai lz ac D I=>xa2 I λC bb vz=>?_;clear I;clear ah;subst ai;have ad:=D.jw;have ay:=D.sz fin;apply c;clear c G_;rw[C0]at ev;refine xea (D5.mp ev) λff et ab=>?_;subst ab;have i4:i<4:=(B9.mp et).1;obtain⟨mf,wf⟩:=four i ff et
     skip
     refine⟨⟨[n_ (toV ff)],Z,Z⟩,by rw[B7,lz];exact W4 i4 A4,FY (xwn Z Z ad.hp (NC _ _ _ _ _) Z (xwb Z Z Z ⟨p,dx,mem,pr,g,W,Κ,N,b+9,r,m,ff,l,l,(show [V.ref p,V.int (ff:Int),V.int (((l+1:Nat):Int)-1)]=[V.ref p,V.int (ff:Int),V.int (l:Int)] by rw[show((l+1:Nat):Int)-1=(l:Int) by lia]),D,fin,cl,C.lev mf,hL,B8 l,(by rw[Dq aa C mf];exact fin.ext (cl.four a9 (i%2) (i/2) A3 A3) λx y hx hy=>(wf x y hx hy).symm),by lia,λz G9 H9 c9 aw ae S b2 b8=>⟨G9,zs++[z],_,by rw[C7];rfl,by rw[C6,lz];rfl,ac.trans aw,ae,C.trans S,bb.trans b8 C,?_⟩⟩))⟩;refine Tt lz (λt z' e=>?_) ?_
     .obtain⟨q1,q2⟩:=vz t z' e;exact⟨S.lev q1,q2.goes ad.ok S q1⟩
     .refine xa2 (b2.view ((C.trans S).lev mf) (wf.goes aa (C.trans S) mf)) λr1 _ r3=>?_;rw[bi]at r3;exact⟨r1,r3.at' A3 A3⟩
    rintro M H8 ag A8 a5;apply Br;intro G_ c;refine CV ag λW zs c8 ai lz ac D I=>xa2 I λC bb vz=>?_;clear I;clear ag;subst ai;have ad:=D.jw;have ay:=D.sz fin;apply c;clear c G_;refine xe4 (QD zs lz) λz0 z1 z2 z3 a1=>?_;subst a1;have Y:=R.trans C;have a2:=bm.trans ac;generalize eF:upd H8 A8 _=H9;obtain⟨s8,ar⟩:=alc a5 eF;refine⟨A8,(xq1 Z (.inl ⟨SqL.of ar,λu hu=>?_⟩))⟩;have ae:=D.same s8;have aj:=ae.jw;obtain⟨q0,x0⟩:=vz 0 z0 Z;obtain⟨q1,x1⟩:=vz 1 z1 Z;obtain⟨q2,x2⟩:=vz 2 z2 Z;obtain⟨q3,x3⟩:=vz 3 z3 Z
    skip
    refine lnk (⟨.refl _ _,λe=>e,aj.gr,.refl aj.ok⟩:Ln a g H9 W 0 H9 W) hu ⟨q0,q1,q2,q3⟩ A3 A3 λz az a0 af O ao=>k z az a0 _ (a2.trans ((Ay.j s8).trans (Fr.j af.fr))) ((ae.fr af.fr af.gr O).mono (B8 _)) (Y.trans O) ?_ ((b7.trans bb R).trans ((D.upS _ s8).trans (ae.upF _ af.fr) (AJ.refl ad.ok)) Y);have aq:=Y.trans O;refine Vw.jr (aq.lev hl) he ⟨_,ao,by show((l+1:Nat):Int)+1=((l+1+1:Nat):Int);lia⟩ ?_;rw[Dq U.ok aq hl];exact OC aj.ok O q0 q1 q2 q3 (x0.at' A3 A3) (x1.at' A3 A3) (x2.at' A3 A3) (x3.at' A3 A3) ao
theorem aCu(F:Fun K "reckoned" "Jumps.reckoned" DG f fd)(T:Top K mg a)(dG:Co P w K mg n8 CX0 d a.M3 "fresh" Rc (Vz a L)):AM P w K mg n8 CX0 (d+1) f fd Rc (Im a L):=by
 refine F.ok EC (λvs H Q E h=>?_) (λaf A ad s H vs Q E hr h=>?_)
 .apply Br;intro B c;obtain⟨p,dx,mem,pr,g,G,Κ,N,b,r,m,n,l,e,rfl,_⟩:=h;apply c;clear c B;rfl
 .apply Br;intro B c;obtain⟨p,dx,mem,pr,g,G,Κ,N,b,r,m,n,l,e,rfl,Y,fin,cl,U,hL,he,W,few,k⟩:=h;have t:=Y.jw;have sz:=Y.sz fin;apply c;clear c B;refine xea (id U) λq eq el=>?_;have ak:=(t.ok.lev eq).2;have ab:e<m.ds.length:=by rw[t.me.len];lia
  obtain⟨d,C⟩:∃d,m.ds[e]?=n_ d:=⟨m.ds[e]'ab,C4 _⟩
  refine Ec (t.me.sq e d C) λkv hd dl dk dv=>⟨_,(Ae (Am (i:=3) EC.nd Z O_9 (IW (DM hr) (Aj Az (AF (pv 0) Z) (pv 2) R_9) (pv 1) ⟨Z,Z,Z,Z⟩)) (Ae (AO (AA El (pv 3) Cg (AD _)) (Ae (Am (i:=3) EC.nd Z O_9 (AK (pv 0) dG (rm hr) Aq (Aa (pv 1) (Aa (pv 2) Ab)))) (Ah (Fw (DM hr) (Aj Az (AF (pv 0) Z) (pv 2) R_9) (pv 1) (pv 3) Z))) AB) (Ah (Au (pv 3))))),?_⟩;have O:atI (m.ds.map V.ref) (e:Int)=n_ (.ref d):=Ai (by rw[C0,C];rfl);refine xwf Z Z t.hp T.Q1 T.Y_ (aBK _ _ _ _ _) (xwi Z Z Z (SqL.of t.me.l) O ⟨d,Z,.inl ⟨_,.inl hd⟩,(xq1 Z ⟨_,GW.k (k:=Sum.inl (n:Int)) hd,?_⟩)⟩);apply RB (fun σ M=>∃(x:Nat)(y:Gv),σ=[n_ (.ref p),n_ (.int (n:Int)),n_ (.int (e:Int)),n_ (.int (x:Int))]/\FrJ g m H M/\JZ a M g y Κ N b p dx mem pr r m/\(∃i,AJ G y i)/\JR r y e n x/\Up (l+1) G H M m)
  .intro u;refine xq1 Z ⟨Z,(xq1 Z ?_)⟩;cases ev:Bv kv (Sum.inl (n:Int))with
   |some v =>
    refine xea (dv n v ev) λx aa jr=>?_;subst aa;exact Ba (u _ _ ⟨x,G,Z,λb o e _ _ _ _ _=>e,Y,⟨0,AJ.refl t.ok⟩,jr,Up.refl _ _ _ _⟩)
   |none =>
    refine BR (xwn Z Z t.hp (YT _ _ _ _ _) Z (xq1 Z ⟨p,dx,mem,pr,g,G,Κ,N,b,r,m,n,l,e,Z,Y,fin,cl,U,hL,he,W,few,λx y H' i' fr j go jr up=>?_⟩));apply Br;intro B c;have I:=j.jw;refine Ec (I.me.sq e d C) λX D ah ag ai=>?_;apply c;clear c B;refine xw2 Z Z (xq5 I.hp T.Q1 T.Y_ (aBK _ _ _ _ _) (xwi Z Z Z (SqL.of I.me.l) O (xq1 Z ⟨d,(xq1 Z ⟨Mq.k (k:=Sum.inl (n:Int)) D (D6 (show X.length<=9000000 by lia) A4),?_⟩)⟩)));have ac:=up e n l U (B8 l) (λd2 aj R S=>by rw[C]at R;cases R;rw[hd]at S;cases S;exact ev) d X C D;obtain⟨z1,z2⟩:=j.put fin C D ac (go.lev U) (by rw[Dq t.ok go U];exact W) jr;exact u _ _ ⟨x,y,Z,λb o e n1 n2 n3 n4 n5=>by rw[Ax (λz=>n5 (by rw[z];exact D8 C))];exact fr _ _ e n1 n2 n3 n4 n5,z1,⟨i',go⟩,jr,(up.mono (T5 l)).trans z2 go⟩
  rintro σ M ae;apply Br;intro B c;obtain⟨x,y,rfl,fr,j,⟨i',go⟩,jr,up⟩:=ae;apply c;clear c B;exact xq1 Z (k x y M i' fr j go jr up)
theorem WY{x q o:E_}(F:Fun K "reckoned" "Jumps.reckoned" DG f x)(A:Fun K "four_halfway" "Jumps.four_halfway" BD M q)(z:Fun K "fresh" "Jumps.fresh" CH I o)(T:Top K mg a)(B:Ri K a.M3 "reckoned" f)(y:CY K x Rc [])(j:Ri K a.M3 "four_halfway" M)(d:CY K q Rc [])(i:Ri K a.M3 "fresh" I)(c:CY K o Rc [])(C:Co P w K mg n8 CX0 7 a.M3 "middle_after" LP (Si a))(t:Co P w K mg n8 CX0 2 a.N1 "linked" AZ (Ey a))(u:Cal P w K mg n8 CX0 3 "nine_parts" LZ (PL a))(v:Cal P w K mg n8 CX0 1 "fours_of" VU Nh)(D:Cal P w K mg n8 CX0 3 "met_in_the_middle" Dc (WI a)):∀L,AM P w K mg n8 CX0 (10+3*L) f x Rc (Im a L)
|0=>(AM.no (k:=10)).imp λvs H Q E h=>by
 apply Br;intro O s;obtain⟨p,dx,mem,W,g,G,Κ,N,b,r,m,n,l,e,_,_,_,_,_,V,_⟩:=h;apply s;clear s O;exact absurd V (N3 l)
|L+1=>by
 have M1:Co P w K mg n8 CX0 (10+3*L) a.M3 "reckoned" Rc (Im a L):=⟨⟨_,_,(WY F A z T B y j d i c C t u v D L),B,y⟩,T.Q1⟩
 have S:=aBq A T A3 u v t M1;have M2:Co P w K mg n8 CX0 (10+3*L+1) a.M3 "four_halfway" Rc (Sm a L):=⟨⟨_,_,S,j,d⟩,T.Q1⟩
 have U:=aCo z T A3 C t u v D M1 M2;have R:Co P w K mg n8 CX0 (10+3*L+2) a.M3 "fresh" Rc (Vz a (L+1)):=⟨⟨_,_,U,i,c⟩,T.Q1⟩
 exact aCu F T R
theorem YO(F:Fun K "after" "Jumps.after" IA f fd)(T:Top K mg a)(O:4<=d)(B:Co P w K mg n8 CX0 4 a.M3 "check_jump" Rc (aHc a))(z:Co P w K mg n8 CX0 d a.M3 "reckoned" Rc (Im a L)):AM P w K mg n8 CX0 (d+1) f fd Rc (Im a L):=by
 refine F.ok PY (λvs H Q E h=>?_) (λC A u s H vs Q E y h=>?_)
 .apply Br;intro j c;obtain⟨p,dx,mem,v,g,G,Κ,N,b,r,m,n,l,e,rfl,_⟩:=h;apply c;clear c j;rfl
 .apply Br;intro j c;obtain⟨p,dx,mem,v,g,G,Κ,N,b,r,m,n,l,e,rfl,o,fin,cl,x,I,M,t,few,k⟩:=h;have i:=o.jw;have sz:=o.sz fin;refine xea (id x) λq eq D=>?_;apply c;clear c j;refine⟨_,(Ae (BP (AK (pv 0) B (rm y) Aq (Aa (pv 1) (Aa (pv 2) Ab)))) (Ah (Au (AK (pv 0) z (rm y) Aq (Aa (pv 1) (Aa (pv 2) Ab)))))),?_⟩;refine xwn Z Z i.hp (YU _ _ _ _ _) Z (xq1 Z ⟨p,dx,g.p,mem,v,m.l,m.kc,g,G,n,e,q,Z,i.hp,i.gr,eq,by rw[D];lia,?_⟩);exact xwn Z Z i.hp (NC _ _ _ _ _) Z (xq1 Z ⟨p,dx,mem,v,g,G,Κ,N,b,r,m,n,l,e,Z,o,fin,cl,x,I,M,t,few,k⟩)
end
theorem CA(l:Nat):(2:Int)^(l+1)=2^l+2^l:=by rw[Z6];lia
def Gg(x y w h r:Int):Prop:=-r<=x/\-r<=y/\x+w<=r/\y+h<=r
instance(x y w h r:Int):Decidable (Gg x y w h r):=by unfold Gg;infer_instance
theorem aEv(x y w h r:Int):(decide (-r<=x) && (decide (-r<=y) && (decide (x+w<=r) && decide (y+h<=r))))=decide (Gg x y w h r):=by
 rw[S6];simp only[S1,A9g];exact Iff.rfl
structure Wid(G:Gv)(n f w:Nat):Prop where
ex:∃(q:Sq)(x y z v a b c d:Nat),IR G n f q x y z v/\G[a]?=n_ ⟨[(bareN n:Int),(bareN n:Int),(bareN n:Int),(x:Int)],(n:Int)+1⟩/\G[b]?=n_ ⟨[(bareN n:Int),(bareN n:Int),(y:Int),(bareN n:Int)],(n:Int)+1⟩ /\
 G[c]?=n_ ⟨[(bareN n:Int),(z:Int),(bareN n:Int),(bareN n:Int)],(n:Int)+1⟩/\G[d]?=n_ ⟨[(v:Int),(bareN n:Int),(bareN n:Int),(bareN n:Int)],(n:Int)+1⟩/\G[w]?=n_ ⟨[(a:Int),(b:Int),(c:Int),(d:Int)],(n:Int)+2⟩
theorem Wid.lev(h:Wid G n f w):Ao G w ((n+2:Nat):Int):=by
 exact xe5 h.ex λq x y z v e=>CM e λa b c d o j k l g=>xa g λm i=>⟨_,i,by show(n:Int)+2=_;lia⟩
theorem Wid.app{k n f w:Nat}(go:AJ G i k)(h:Wid G n f w):Wid i n f w:=by
 exact xe5 h.ex λq x y z v e=>CM e λa b c d r j l m g=>xa g λo p=>⟨q,x,y,z,v,a,b,c,d,r.app go,go.get j,go.get l,go.get m,go.get o,go.get p⟩
theorem ER(e:G=G0++r)(h:n<=48):Ao G (bareN n) (n:Int):=by
 rw[e];exact(aBB n h).app
theorem m6(h:l<=48):((DE 48).map V.int)[l]?=n_ (.int (bareN l:Int)):=by
 unfold DE;rw[C0,C0,T1 (D6 h A4)];rfl
section
variable{P:N_}{w:Q_}{K:O_}{mg:C_}{n8:T_}{a:Ad}
inductive aDV(vs:List V)(H:Hp)(Q:VK):Prop
|mk (t:R_) (x y w h r:Int) (_:vs=[.ref t,.int r]) (_:H t=n_ (.tup [.int x,.int y,.int w,.int h])) (_:Q (.bl (decide (Gg x y w h r))) H):aDV vs H Q
def Ru:Sp:=λvs H Q _=>aDV vs H Q
theorem aE7(F:Fun K "lies_within" "lies_within" Iv f fd)(T:Top K mg a):AM P w K mg n8 CX0 1 f fd QX Ru:=by
 refine F.ok PU D_9 λd A c s H vs Q E p h=>?_
 obtain⟨t,x,y,q,o,r,rfl,b,k⟩:=h;rw[<-aEv]at k;refine⟨_,(Ah (Au (Lx (DY Mv (EI CZ (pv 1)) (Aj Al (pv 0) Ac R_9) (AD _)) (Lx (DY Mv (EI CZ (pv 1)) (Aj Al (pv 0) Ac R_9) (AD _)) (Lx (DY Mv (AE AR (Aj Al (pv 0) Ac R_9) (Aj Al (pv 0) Ac R_9)) (pv 1) (AD _)) (MS (DY Mv (AE AR (Aj Al (pv 0) Ac R_9) (Aj Al (pv 0) Ac R_9)) (pv 1) (AD _)))))))),?_⟩;refine xw3 Z Z Z (xq4 Z Z (SqT.of b) (Ai (j:=0) Z) (xq2 Z Z (Pz (λ_ l e=>?_) k)));refine xw3 Z Z Z (xq4 Z Z (SqT.of b) (Ai (j:=1) Z) (xq2 Z Z (Pz (λ_ m g=>?_) e)));refine xwi Z Z Z (SqT.of b) (Ai (j:=0) Z) (xwi Z Z Z (SqT.of b) (Ai (j:=2) Z) (xq2 Z Z (xwb Z Z Z (Pz (λ_ n i=>?_) g))));exact xwi Z Z Z (SqT.of b) (Ai (j:=1) Z) (xwi Z Z Z (SqT.of b) (Ai (j:=3) Z) (xq2 Z Z (xwb Z Z Z i)))
inductive Yt(a:Ad)(vs:List V)(H:Hp)(Q:VK):Prop
|mk (g:GA) (G:Gv) (i n:Nat) (_:vs=[.ref g.p,.int i]) (_:AQ a H g G) (_:Ao G i ((n+1:Nat):Int)) (_:n<48) (_:Q (.int (2^n)) H):Yt a vs H Q
def Je(a:Ad):Sp:=λvs H Q _=>Yt a vs H Q
theorem aBv(F:Fun K "reach_of" "reach_of" MH f fd)(T:Top K mg a)(d:Co P w K mg n8 CX0 3 a.N1 "level_of" LP (Ng a)):AM P w K mg n8 CX0 4 f fd VQ (Je a):=by
 refine F.ok Ub D_9 λj A b s H vs Q E o h=>?_
 obtain⟨g,G,i,n,rfl,c,⟨q,e,l⟩,p,k⟩:=h;refine⟨_,(Ah (Au (AE Om Ac (AE Bq (AK (pv 0) d (rm o) Aq (Aa (pv 1) Ab)) Ac)))),?_⟩;have m:q.lev=(n:Int)+1:=by rw[l];lia
 refine xwn Z Z c.hp (Em g) Z ⟨g,G,i,q,Z,c,e,(xq2 Z Z (xq2 Z Z ⟨⟨by lia,by lia,by decide⟩,?_⟩))⟩;show Q (.int (1*2^(q.lev-1).toNat)) H;rw[Se n m];exact k
inductive YB(a:Ad)(vs:List V)(H:Hp)(Q:VK):Prop
|mk (g:GA) (G:Gv) (_:vs=[.ref g.p]) (_:Be a H g G) (_:Q (.int (bareN 1:Int)) H):YB a vs H Q
def Ph(a:Ad):Sp:=λvs H Q _=>YB a vs H Q
theorem aBl(F:Fun K "bare_field" "bare_field" Jm f fd)(T:Top K mg a):AM P w K mg n8 CX0 1 f fd SO (Ph a):=by
 refine F.ok QQ D_9 λd A b s H vs Q E e h=>?_
 obtain⟨g,G,rfl,c,k⟩:=h;exact⟨_,(Ah (Au (Aj Az (AF (pv 0) Z) (Cu Z T.g_) R_9))),(xwf Z Z c.at'.hp T.L0 T.Q3 (IO g) (xq4 Z Z (SqL.of c.br) (Ai (j:=1) (m6 A3)) k))⟩
inductive aDk(a:Ad)(vs:List V)(H:Hp)(Q:VK):Prop
|mk (g:GA) (G:Gv) (f n:Nat) (_:vs=[.ref g.p,.int f]) (_:Be a H g G) (_:Ao G f ((n+1:Nat):Int)) (_:n<47) (_:G.length<8900000) (_:∀(w:Nat)(G':Gv)(H':Hp),Fr g H H'->AQ a H' g G'->AJ G G' 5->Wid G' n f w->Q (.int w) H'):aDk a vs H Q
def WG(a:Ad):Sp:=λvs H Q _=>aDk a vs H Q
theorem aFN(F:Fun K "widened" "widened" Oc f fd)(T:Top K mg a)(a7:Co P w K mg n8 CX0 3 a.N1 "level_of" LP (Ng a))(N:Co P w K mg n8 CX0 2 a.N1 "linked" AZ (Ey a)):AM P w K mg n8 CX0 4 f fd LZ (WG a):=by
 refine F.ok Jf D_9 λan A am s H vs Q E M h=>?_
 obtain⟨g,G,f',n,rfl,d,hl,ao,few,k⟩:=h;refine xe5 (BI d.ok hl) λq x y z v u=>?_;have lq:=u.lev;refine xea d.at'.pt λts h3 h4=>xea (PairedM.get h4 u.g) λt et I=>?_;have I:H t=n_ (.tup [.int x,.int y,.int z,.int v]):=by
  have I:H t=n_ (.tup (q.parts.map V.int)):=I;rw[u.ps]at I;exact I
 obtain⟨r,e0⟩:=d.g0;have m:=ER e0 (n:=n) A3;refine⟨_,(Ae (Am (i:=2) Jf.nd Z O_9 (AK (pv 0) a7 (rm M) Aq (Aa (pv 1) Ab))) (Ae (AO (PW.pt (Nt (AA IZ (pv 2) (Cu Z T.g_) (AD _)) (Jv (AA CQ (pv 2) (Cu Z T.aAC) (AD _))))) (Ah Bp) AB) (Ae (Am (i:=3) Jf.nd Z O_9 (Aj Az (AF (pv 0) Z) (pv 1) R_9)) (Ae (Am (i:=4) Jf.nd Z O_9 (Aj Az (AF (pv 0) Z) (AE Bq (pv 2) Ac) R_9)) (Ah (Au (AK (pv 0) N (rm M) Aq (AV (Aa (AK (pv 0) N (rm M) Aq (AV (Aa (pv 4) (Aa (pv 4) (Aa (pv 4) (Aa (Aj Al (pv 3) Ac R_9) Ab)))) Ab)) (Aa (AK (pv 0) N (rm M) Aq (AV (Aa (pv 4) (Aa (pv 4) (Aa (Aj Al (pv 3) Ac R_9) (Aa (pv 4) Ab)))) Ab)) (Aa (AK (pv 0) N (rm M) Aq (AV (Aa (pv 4) (Aa (Aj Al (pv 3) Ac R_9) (Aa (pv 4) (Aa (pv 4) Ab)))) Ab)) (Aa (AK (pv 0) N (rm M) Aq (AV (Aa (Aj Al (pv 3) Ac R_9) (Aa (pv 4) (Aa (pv 4) (Aa (pv 4) Ab)))) Ab)) Ab)))) Ab)))))))),?_⟩;refine xq1 Z ⟨g.p,g.dx,(xq1 Z ⟨d.at'.hp,Em g,(xq1 Z ⟨g,G,f',q,Z,d.at',u.g,?_⟩)⟩)⟩;refine xwb Z Z Z (xq1 Z ?_);rw[A0f (by lia:¬q.lev<1)];refine Ba (xq1 Z ⟨Z,(xq1 Z ?_)⟩);rw[A0f (by intro z;injection z with z;lia)]
 refine Ba (xwf Z Z d.at'.hp T.L0 T.L4 (Cs g) (xwi Z Z Z (SqL.of h3) (Ai (by rw[C0,et];rfl)) ?_));refine xwf Z Z d.at'.hp T.L0 T.Q3 (IO g) (xwb Z Z Z (xq4 Z Z (SqL.of d.br) (by rw[show q.lev-1=(n:Int) by lia];exact Ai (m6 A3)) ?_));refine xq1 Z ⟨g.p,g.dx,(xq1 Z ⟨d.at'.hp,Cc g,?_⟩)⟩;refine xq1 Z ⟨g.p,g.dx,(xq1 Z ⟨d.at'.hp,Cc g,(xw3 Z Z Z (xwi Z Z Z (SqT.of I) (Ai (j:=0) Z) ⟨S_4,λt1 ah=>?_⟩))⟩)⟩;have s1:=AH (o:=.tup [.int (bareN n:Int),.int (bareN n:Int),.int (bareN n:Int),.int x]) ah;refine⟨g,G,t1,bareN n,bareN n,bareN n,x,(n:Int),Z,d.at'.same s1,d.ok,Af,⟨m,m,m,u.hx⟩,by lia,D3 few A4,λW G1 H1 aa R e e1=>?_⟩;have f1:=(Ay.fr s1).trans aa;have n1:=e.few;refine xwn Z Z R.hp (Cc g) Z (xwj Z Z Z Z (SqT.of (f1.tup d.at' I)) (Ai (j:=1) Z) (xq1 Z ⟨S_4,λt2 ai=>?_⟩));have s2:=AH (o:=.tup [.int (bareN n:Int),.int (bareN n:Int),.int y,.int (bareN n:Int)]) ai;refine⟨g,G1,t2,bareN n,bareN n,y,bareN n,(n:Int),Z,R.same s2,e.ok,Af,⟨e.lev m,e.lev m,e.lev u.hy,e.lev m⟩,by lia,by lia,λX G2 H2 ab S D e2=>?_⟩;have f2:=f1.trans ((Ay.fr s2).trans ab);have n2:=D.few;have b:=e.trans D;refine xwn Z Z S.hp (Cc g) Z (xwi Z Z Z (SqT.of (f2.tup d.at' I)) (Ai (j:=2) Z) (xw2 Z Z ⟨S_4,λt3 aj=>?_⟩));have s3:=AH (o:=.tup [.int (bareN n:Int),.int z,.int (bareN n:Int),.int (bareN n:Int)]) aj;refine⟨g,G2,t3,bareN n,z,bareN n,bareN n,(n:Int),Z,S.same s3,D.ok,Af,⟨b.lev m,b.lev u.hz,b.lev m,b.lev m⟩,by lia,by lia,λY G3 H3 ac U B e3=>?_⟩;have f3:=f2.trans ((Ay.fr s3).trans ac);have n3:=B.few;have c:=b.trans B;refine xwn Z Z U.hp (Cc g) Z (xq4 Z Z (SqT.of (f3.tup d.at' I)) (Ai (j:=3) Z) (xw3 Z Z Z ⟨S_4,λt4 ak=>?_⟩));have s4:=AH (o:=.tup [.int v,.int (bareN n:Int),.int (bareN n:Int),.int (bareN n:Int)]) ak;refine⟨g,G3,t4,v,bareN n,bareN n,bareN n,(n:Int),Z,U.same s4,B.ok,Af,⟨c.lev u.hw,c.lev m,c.lev m,c.lev m⟩,by lia,by lia,λa4 G4 H4 ad af l e4=>?_⟩;have f4:=f3.trans ((Ay.fr s4).trans ad);have n4:=l.few;have O:=c.trans l;refine⟨S_4,λt5 al=>?_⟩;have s5:=AH (o:=.tup [.int W,.int X,.int Y,.int a4]) al;have E1:=(D.trans (B.trans l)).get e1;have E2:=(B.trans l).get e2;have E3:=l.get e3;refine⟨g,G4,t5,W,X,Y,a4,(n:Int)+1,Z,af.same s5,l.ok,Af,⟨⟨_,E1,Z⟩,⟨_,E2,Z⟩,⟨_,E3,Z⟩,⟨_,e4,Z⟩⟩,by lia,by lia,λw' G5 H5 ae ag C e5=>?_⟩;have L:=O.trans C;exact k w' G5 H5 (f4.trans ((Ay.fr s5).trans ae)) ag L ⟨q,x,y,z,v,W,X,Y,a4,u.app L,C.get E1,C.get E2,C.get E3,C.get e4,by rw[e5,show(n:Int)+1+1=(n:Int)+2 by lia]⟩
end
structure Pd(G:Gv)(n i:Nat)(qs:L_)(ps:Nat->Nat->Nat):Prop where
node:∃q,IR G (n+1) i q (qs 0) (qs 1) (qs 2) (qs 3)
sub:∀k,k<4->∃q,IR G n (qs k) q (ps k 0) (ps k 1) (ps k 2) (ps k 3)
theorem Pd.app{k n i:Nat}{ps:Nat->Nat->Nat}(go:AJ G b k)(h:Pd G n i qs ps):Pd b n i qs ps:=by
 obtain⟨q,a⟩:=h.node;exact⟨⟨q,a.app go⟩,λk c=>by obtain⟨q,a⟩:=h.sub k c;exact⟨q,a.app go⟩⟩
def f4(x y z w:Nat)(k:Nat):Nat:=match k with|0=>x|1=>y|2=>z|_=>w
theorem aCO(ok:GOk G)(h:Ao G i ((n+2:Nat):Int)):∃qs ps,Pd G n i qs ps:=by
 refine xe5 (BI ok (n:=n+1) h) λq x y z w a=>xe5 (BI ok a.hx) λ_ l m o p nx=>xe5 (BI ok a.hy) λ_ r s t u c=>xe5 (BI ok a.hz) λ_ v A B C d=>xe5 (BI ok a.hw) λ_ e f g j nw=>⟨f4 x y z w,λk=>match k with|0=>f4 l m o p|1=>f4 r s t u|2=>f4 v A B C|_=>f4 e f g j,⟨q,a⟩,λk b=>?_⟩
 match k,b with
 |0,_=>exact⟨_,nx⟩
 |1,_=>exact⟨_,c⟩
 |2,_=>exact⟨_,d⟩
 |3,_=>exact⟨_,nw⟩
theorem IR.nat{q:Sq}{x y z w:Nat}(h:IR G n i q x y z w){j:Nat}(a:j<4):q.parts[j]?=n_ ((f4 x y z w j:Nat):Int)/\Ao G (f4 x y z w j) n:=by
 rw[h.ps]
 match j,a with
 |0,_=>exact⟨Z,h.hx⟩
 |1,_=>exact⟨Z,h.hy⟩
 |2,_=>exact⟨Z,h.hz⟩
 |3,_=>exact⟨Z,h.hw⟩
theorem LS(p:L_){j:Nat}(a:j<4):f4 (p 0) (p 1) (p 2) (p 3) j=p j:=by
 match j,a with
 |0,_=>rfl
 |1,_=>rfl
 |2,_=>rfl
 |3,_=>rfl
def BA(n:Nat)(ps:Nat->Nat->Nat):Prop:=∀k j,k<4->j<4->j+k≠3->ps k j=bareN n
def FX(G:Gv):Nat->Nat->Nat->Prop
|0,_,_=>False
|1,f,r=>r=f
|n+2,f,r=>∃qs ps,Pd G n f qs ps/\((¬BA n ps/\r=f)\/(BA n ps/\∃m,G[m]?=n_ ⟨[(ps 0 3:Int),(ps 1 2:Int),(ps 2 1:Int),(ps 3 0:Int)],(n:Int)+1⟩/\FX G (n+1) m r))
theorem FX.app{k:Nat}(go:AJ G a k):∀{n f r:Nat},FX G n f r->FX a n f r
|0,_,_,h=>h
|1,_,_,h=>h
|n+2,f,r,h=>by
 refine Cw h λqs ps d h=>⟨qs,ps,d.app go,?_⟩
 rcases h with h|⟨b,m,c,e⟩
 .exact .inl h
 .exact .inr ⟨b,m,go.get c,FX.app go e⟩
section
variable{P:N_}{w:Q_}{K:O_}{mg:C_}{n8:T_}{a:Ad}
theorem EJ{H:Hp}{g:GA}{G:Gv}(h:AQ a H g G){n i:Nat}{q:Sq}{x y z w:Nat}(d:IR G n i q x y z w):∃(c:H_)(t:R_),H g.pt=n_ (.lst (c.map V.ref))/\(c.map V.ref)[i]?=n_ (.ref t)/\H t=n_ (.tup [.int x,.int y,.int z,.int w]):=by
 refine xea h.pt λc f j=>xea (PairedM.get j d.g) λt e b=>⟨c,t,f,by rw[C0,e];rfl,?_⟩
 have b:H t=n_ (.tup (q.parts.map V.int)):=b;rw[d.ps]at b;exact b
inductive aDa(a:Ad)(vs:List V)(H:Hp)(Q:VK):Prop
|mk (g:GA) (G:Gv) (i n:Nat) (qs:L_) (ps:Nat->Nat->Nat) (_:vs=[.ref g.p,.int i]) (_:AQ a H g G) (_:GOk G) (_:Pd G n i qs ps) (_:n<47) (_:G.length<8900000) (_:∀(m:Nat)(G':Gv)(H':Hp),Fr g H H'->AQ a H' g G'->AJ G G' 1->G'[m]?=n_ ⟨[(ps 0 3:Int),(ps 1 2:Int),(ps 2 1:Int),(ps 3 0:Int)],(n:Int)+1⟩->Q (.int m) H'):aDa a vs H Q
def aEC(a:Ad):Sp:=λvs H Q _=>aDa a vs H Q
theorem aFC(F:Fun K "middle_of" "middle_of" Id f fd)(T:Top K mg a)(a6:Co P w K mg n8 CX0 2 a.N1 "linked" AZ (Ey a)):AM P w K mg n8 CX0 3 f fd LZ (aEC a):=by
 refine F.ok Nm D_9 λad A aa s H vs Q E hr h=>?_
 obtain⟨g,G,i,n,qs,ps,rfl,D,ok,B,ae,few,k⟩:=h;obtain⟨q,nd⟩:=B.node;refine AS (EJ D nd) λts t S et ht=>⟨_,(Ae (Eg (i:=2) Z Nm.nd Z Z (Bl.of (So:=Ak Id) (No:=ON) (N:=["quarter","grove"]) (k:=1) (cs:=[0]) Z Z A0) (SB (Aj Az (AF (pv 0) Z) (pv 1) R_9)) (λ_ _ _=>(AW (i:=0) A0 Z Z)) (λ_ _ _=>Bm) (λ_ _ _=>(Aj (UR (K:=K) Z) (SE (K:=K) Z (pv 1) Z) (pv 0) R_9))) (Ah (Au (AK (pv 0) a6 (rm hr) Aq (AV (Aa (Aj Al (Aj Az (pv 2) Ac R_9) Ac R_9) (Aa (Aj Al (Aj Az (pv 2) Ac R_9) Ac R_9) (Aa (Aj Al (Aj Az (pv 2) Ac R_9) Ac R_9) (Aa (Aj Al (Aj Az (pv 2) Ac R_9) Ac R_9) Ab)))) Ab))))),?_⟩
 refine xwf Z Z D.hp T.L0 T.L4 (Cs g) (xwi Z Z Z (SqL.of S) (Ai et) ⟨t,Z,⟨_,SqT.of ht⟩,?_⟩);have b:∀k,k<4->∃tk,(ts.map V.ref)[qs k]?=n_ (.ref tk)/\H tk=n_ (.tup [.int (ps k 0),.int (ps k 1),.int (ps k 2),.int (ps k 3)]):=λk hk=>by
  obtain⟨qk,Y⟩:=B.sub k hk;refine AS (EJ D Y) λaf tk C R W=>?_;rw[S]at C;exact⟨tk,by rw[(HO.lst.inj (A1f C))];exact R,W⟩
 refine xea (b 0 A4) λp e0 p0=>xea (b 1 A4) λr e1 p1=>xea (b 2 A4) λu e2 p2=>xea (b 3 A4) λx e3 p3=>?_;have all:∀(j:Nat)(v:V),[V.int (qs 0:Int),V.int (qs 1:Int),V.int (qs 2:Int),V.int (qs 3:Int)][j]?=n_ v->∃(k:Nat)(tk:R_),v=.int (k:Int)/\(ts.map V.ref)[k]?=n_ (.ref tk)/\[V.ref p,V.ref r,V.ref u,V.ref x][j]?=n_ (.ref tk):=λj v c=>by
  match j,c with
  |0,c=>cases c;exact⟨qs 0,p,Z,e0,Z⟩
  |1,c=>cases c;exact⟨qs 1,r,Z,e1,Z⟩
  |2,c=>cases c;exact⟨qs 2,u,Z,e2,Z⟩
  |3,c=>cases c;exact⟨qs 3,x,Z,e3,Z⟩
  |j+4,c=>simp at c
 refine Tq (xs:=[.int (qs 0:Int),.int (qs 1:Int),.int (qs 2:Int),.int (qs 3:Int)]) (λj l M=>H=M/\l=[V.ref p,V.ref r,V.ref u,V.ref x].take j) ⟨Z,Z⟩ (λj l M _ z=>z.1▸SqT.of ht) ?_ ?_
 .intro j v l M c ab;obtain⟨rfl,rfl⟩:=ab;refine AS (all j v c) λk' tk O ek el=>?_;subst O;refine⟨⟨[n_ (.int k')],Z,Z⟩,by rw[L7];exact DU (by show min j 4<10000000;lia),FY (xwf Z Z D.hp T.L0 T.L4 (Cs g) (xwi Z Z Z (SqL.of S) (Ai ek) ⟨Z,?_⟩))⟩;rw[F7,el];rfl
 .intro l M ac L hL;obtain⟨rfl,rfl⟩:=ac;have y:=AH (o:=.lst [V.ref p,V.ref r,V.ref u,V.ref x]) hL;have d:upd H L (.lst [V.ref p,V.ref r,V.ref u,V.ref x]) L=n_ (.lst [V.ref p,V.ref r,V.ref u,V.ref x]):=Af;rw[show(List.take [V.int (qs 0:Int),V.int (qs 1:Int),V.int (qs 2:Int),V.int (qs 3:Int)].length [V.ref p,V.ref r,V.ref u,V.ref x])=[V.ref p,V.ref r,V.ref u,V.ref x]from rfl];generalize upd H L (.lst [V.ref p,V.ref r,V.ref u,V.ref x])=H1 at y d⊢;have I:=D.same y;refine xwn Z Z I.hp (Cc g) Z (xq4 Z Z (SqL.of d) (Ai (j:=0) Z) (xq4 Z Z (SqT.of (y _ _ p0)) (Ai (j:=3) Z) (xwi Z Z Z (SqL.of d) (Ai (j:=1) Z) (xq4 Z Z (SqT.of (y _ _ p1)) (Ai (j:=2) Z) ?_))));refine xwi Z Z Z (SqL.of d) (Ai (j:=2) Z) (xq4 Z Z (SqT.of (y _ _ p2)) (Ai (j:=1) Z) (xwi Z Z Z (SqL.of d) (Ai (j:=3) Z) (xq4 Z Z (SqT.of (y _ _ p3)) (Ai (j:=0) Z) ⟨S_4,λt4 X=>?_⟩)));have s2:=AH (o:=.tup [.int (ps 0 3),.int (ps 1 2),.int (ps 2 1),.int (ps 3 0)]) X;obtain⟨_,n0⟩:=B.sub 0 A4;obtain⟨_,n1⟩:=B.sub 1 A4;obtain⟨_,n2⟩:=B.sub 2 A4;obtain⟨_,n3⟩:=B.sub 3 A4;exact⟨g,G,t4,ps 0 3,ps 1 2,ps 2 1,ps 3 0,(n:Int),Z,I.same s2,ok,Af,⟨n0.hw,n1.hz,n2.hy,n3.hx⟩,by lia,D3 few A4,λm G' H' fr U go e=>k m G' H' ((Ay.fr y).trans ((Ay.fr s2).trans fr)) U go e⟩
inductive aF6(a:Ad)(vs:List V)(H:Hp)(Q:VK):Prop
|mk (g:GA) (G:Gv) (i n:Nat) (qs:L_) (ps:Nat->Nat->Nat) (_:vs=[.ref g.p,.int i]) (_:Be a H g G) (_:Pd G n i qs ps) (_:n<47) (_:(BA n ps->∀H',Ay H H'->Q (.bl o4) H')) (_:(¬BA n ps->∀H',Ay H H'->Q (.bl o5) H')):aF6 a vs H Q
def aHZ(a:Ad):Sp:=λvs H Q _=>aF6 a vs H Q
theorem aGx(F:Fun K "is_bare_around" "is_bare_around" EZ f fd)(T:Top K mg a):AM P w K mg n8 CX0 1 f fd LZ (aHZ a):=by
 refine F.ok BZ D_9 λah A ac s H vs Q E hr h=>?_
 obtain⟨g,G,i,n,qs,ps,rfl,m,dp,ai,k1,k2⟩:=h;obtain⟨q,r⟩:=dp.node;have lq:=r.lev;refine AS (EJ m.at' r) λts t h3 et ht=>⟨_,(Ae (Am (i:=2) BZ.nd Z O_9 (Aj Az (AF (pv 0) Z) (AE Bq (Aj Az (AF (pv 0) Z) (pv 1) R_9) Ac) R_9)) (Ae (BX A1c Z (Pn o4 Z T.l_ (Aa (Aj Az (AF (pv 0) Z) (pv 1) R_9) Ab)) (Qg Z (DS (Bd (i:=3) BZ.nd Z O_9) (DS (Bd (i:=4) BZ.nd Z O_9) Ny))) (Ah (BX A1c Z (Pn o4 Z T.l_ (Aa (Aj Az (AF (pv 0) Z) (pv 4) R_9) Ab)) (Qg Z (DS (Bd (i:=5) BZ.nd Z O_9) (DS (Bd (i:=6) BZ.nd Z O_9) Ny))) (Ah (AO (PW.pt (MR (AA JV (pv 6) (pv 2) (AD _)) (Jw (AA JV (pv 5) (AE Bq Ac (pv 3)) (AD _))))) (Ah (Au OK)) AB))))) (Ah (Au OK)))),?_⟩
 refine xwf Z Z m.at'.hp T.L0 T.Q3 (IO g) (xwf Z Z m.at'.hp T.L0 T.Q2 (Fo g) (xwi Z Z Z (SqL.of m.at'.lv) (Ai (by rw[C0,r.g];rfl)) (xq2 Z Z (xq4 Z Z (SqL.of m.br) (by rw[show q.lev-2=(n:Int) by lia];exact Ai (m6 A3)) ?_))));refine xwf Z Z m.at'.hp T.L0 T.L4 (Cs g) (xwi Z Z Z (SqL.of h3) (Ai et) ⟨t,Z,⟨_,SqT.of ht⟩,?_⟩);refine NM (b:=o4) (xs:=[.int (qs 0:Int),.int (qs 1:Int),.int (qs 2:Int),.int (qs 3:Int)]) (λj σ D=>Ay H D/\(∃u3 u4 B C:Option V,σ=[n_ (.ref g.p),n_ (.int i),n_ (.int (bareN n:Int)),u3,u4,B,C])/\∀l d,l<j->l<4->d<4->d+l≠3->ps l d=bareN n) ⟨Ay.refl H,⟨o0,o0,o0,o0,Z⟩,λl d h=>absurd h (N3 _)⟩ (λj σ D _ z=>SqT.of (z.1 _ _ ht)) ?_ ?_
 .intro j v σ D T' c ad nT;obtain⟨sm,⟨u3,u4,B,C,rfl⟩,U⟩:=ad;have Y:=(B9.mp c).1;have x:v=.int (qs j:Int):=by
   match j,Y,c with
   |0,_,c=>cases c;rfl
   |1,_,c=>cases c;rfl
   |2,_,c=>cases c;rfl
   |3,_,c=>cases c;rfl
  subst x;obtain⟨qk,ab⟩:=dp.sub j Y;have S:=sm.trans (AH (o:=.tup [.int j,.int (qs j)]) nT);refine RJ Af ?_;generalize upd D T' (.tup [.int j,.int (qs j)])=H3 at S⊢;refine AS (EJ (m.at'.same S) ab) λaj t3 X W R=>xwf Z Z ((m.at'.same S).hp) T.L0 T.L4 (Cs g) (xwi Z Z Z (SqL.of X) (Ai W) ⟨t3,Z,⟨_,SqT.of R⟩,?_⟩);refine NM (b:=o4) (xs:=[.int (ps j 0:Int),.int (ps j 1:Int),.int (ps j 2:Int),.int (ps j 3:Int)]) (λk σ L=>Ay H3 L/\(∃B C:Option V,σ=[n_ (.ref g.p),n_ (.int i),n_ (.int (bareN n:Int)),n_ (.int j),n_ (.int (qs j)),B,C])/\∀d,d<k->d<4->d+j≠3->ps j d=bareN n) ⟨Ay.refl H3,⟨_,_,Z⟩,λd h=>absurd h (N3 _)⟩ (λk σ L _ z=>SqT.of (z.1 _ _ R)) ?_ ?_
  .intro k v σ L T2 c ae aa;obtain⟨y,⟨B,C,rfl⟩,u⟩:=ae;have O:=(B9.mp c).1;have x:v=.int (ps j k:Int):=by
    match k,O,c with
    |0,_,c=>cases c;rfl
    |1,_,c=>cases c;rfl
    |2,_,c=>cases c;rfl
    |3,_,c=>cases c;rfl
   subst x;have s4:=y.trans (AH (o:=.tup [.int k,.int (ps j k)]) aa);refine RJ Af ?_;generalize upd L T2 (.tup [.int k,.int (ps j k)])=H5 at s4⊢;refine xw2 Z Z ⟨Z,(xq1 Z ?_)⟩;refine ZK (b2:=!decide (V.int (k:Int)=V.int (3-(j:Int)))) (λ_ Q' q=>(xw2 Z Z (xq2 Z Z ⟨Z,(xq1 Z q)⟩))) (IN (λN=>?_) (λN=>?_))
   .refine k2 (λba=>?_) H5 (S.trans s4);rw[S1]at N;have c2:¬k+j=3:=λz=>by
     have:=N.2;rw[A0e (show V.int (k:Int)=V.int (3-(j:Int)) by congr 1;lia)]at this;cases this
    have c1:=N.1;rw[ba j k Y O c2,A0e rfl]at c1;cases c1
   .refine⟨s4,⟨_,_,Z⟩,λd I M e=>?_⟩;rcases S9.mp I with h|h
    .exact u d h M e
    .subst h;refine A1d λz=>N ?_;rw[A0f (show ¬V.int (ps j d:Int)=V.int (bareN n:Int) by intro q;injection q with q;exact z (A1b q)),A0f (show ¬V.int (d:Int)=V.int (3-(j:Int)) by intro q;injection q with q;lia)];rfl
  .intro σ L af;obtain⟨y,⟨B,C,rfl⟩,u⟩:=af;refine⟨S.trans y,⟨_,_,_,_,Z⟩,λl d I M e h4=>?_⟩;rcases S9.mp I with h|h
   .exact U l d h M e h4
   .subst h;exact u d e e h4
 .intro σ D ag;obtain⟨sm,⟨u3,u4,B,C,rfl⟩,U⟩:=ag;exact k1 (λl d I M e=>U l d I I M e) D sm
end
theorem FX.lev:∀{l f r:Nat},Ao G f (l:Int)->FX G l f r->∃n,n+1<=l/\Ao G r ((n+1:Nat):Int)
|0,_,_,_,h=>h.elim
|1,f,r,hl,h=>by
 have h:=h;subst h;exact⟨0,B8 _,hl⟩
|n+2,f,r,hl,h=>by
 refine Cw h λqs ps d h=>?_;rcases h with ⟨_,rfl⟩|⟨_,m,e,h⟩
 .exact⟨n+1,B8 _,hl⟩
 .obtain⟨k,a,b⟩:=FX.lev (l:=n+1) ⟨_,e,by show(n:Int)+1=_;lia⟩ h;exact⟨k,V2 a,b⟩
section
variable{P:N_}{w:Q_}{K:O_}{mg:C_}{n8:T_}{a:Ad}
inductive aAi(a:Ad)(vs:List V)(H:Hp)(Q:VK):Prop
|mk (g:GA) (G:Gv) (f n:Nat) (_:vs=[.ref g.p,.int f]) (_:Be a H g G) (_:Ao G f ((n+1:Nat):Int)) (_:G.length<8800000) (_:∀(r:Nat)(G':Gv)(H':Hp),Fr g H H'->Be a H' g G'->AJ G G' 48->FX G' (n+1) f r->Q (.int r) H'):aAi a vs H Q
def NV(a:Ad):Sp:=λvs H Q _=>aAi a vs H Q
theorem aCx(F:Fun K "trimmed" "trimmed" Od f fd)(T:Top K mg a)(a7:Co P w K mg n8 CX0 3 a.N1 "level_of" LP (Ng a))(bK:Cal P w K mg n8 CX0 1 "is_bare_around" LZ (aHZ a))(cO:Cal P w K mg n8 CX0 3 "middle_of" LZ (aEC a)):AM P w K mg n8 CX0 4 f fd LZ (NV a):=by
 refine F.ok ME (λvs H Q E h=>?_) (λaa A R s H vs Q E N h=>?_)
 .apply Br;intro y e;obtain⟨g,G,o,n,rfl,_⟩:=h;apply e;clear e y;rfl
 .apply Br;intro y e;obtain⟨g,G,o,n,rfl,C,W,few,k⟩:=h;refine xea (id W) λq eq lq=>?_;apply e;clear e y;have ac:n+1<=48:=by have:=(C.ok.lev eq).2;lia
  refine⟨_,(Ae (AO (AA IZ (AK (pv 0) a7 (rm N) Aq (Aa (pv 1) Ab)) (Cu Z T.g_) (AD _)) (Ah Bp) AB) (Ae (Am (i:=2) ME.nd Z O_9 (pv 1)) (Ae (Lq A1c (PW.pt (MR (AA Ql (Aj Az (AF (pv 0) Z) (pv 2) R_9) (Cu Z T.g_) (AD _)) (Jw (CP (Ar bK (rm N) Z Aq (Aa (pv 0) (Aa (pv 2) Ab))))))) (Ah (Am (i:=2) ME.nd Z O_9 (Ar cO (rm N) Z Aq (Aa (pv 0) (Aa (pv 2) Ab)))))) (Ah (Au (pv 2)))))),?_⟩;refine xq1 Z ⟨g.p,g.dx,(xq1 Z ⟨C.at'.hp,Em g,(xq1 Z ⟨g,G,o,q,Z,C.at',eq,(xq2 Z Z (xq1 Z ?_))⟩)⟩)⟩;rw[A0f (by lia:¬q.lev<1)];refine Ba (xq1 Z ?_);refine⟨λm σ D=>∃(j:Gv)(c:Nat),σ=[n_ (.ref g.p),n_ (.int o),n_ (.int c)]/\Fr g H D/\Be a D g j/\AJ G j (n-m)/\m<=n/\Ao j c ((m+1:Nat):Int)/\∀(r:Nat)(d:Gv)(k:Nat),AJ j d k->FX d (m+1) c r->FX d (n+1) o r,⟨n,G,o,Z,Fr.refl g H,C,(AJ.refl C.ok).mono (O6 _ _),B8 _,W,λ_ _ _ _ h=>h⟩,?_⟩;rintro m σ D S;apply Br;intro y e;obtain⟨j,c,rfl,fr,b,go,mn,X,tr⟩:=S;apply e;clear e y;have gf:=go.few;refine xea (id X) λY ec ab=>xwf Z Z b.at'.hp T.L0 T.Q2 (Fo g) (xwi Z Z Z (SqL.of b.at'.lv) (Ai (by rw[C0,ec];rfl)) (xq2 Z Z (xq1 Z ?_)));cases m with
  |zero =>
   rw[A0f (by lia:¬(1:Int)<Y.lev)];exact Ba (Ba (xq1 Z (k c j D fr b (go.mono A3) (tr c j 0 (AJ.refl b.ok) Z))))
  |succ m =>
   rw[A0e (by lia:(1:Int)<Y.lev)];refine xe2 (aCO b.ok X) λqs ps I=>BR (xw2 Z Z ⟨g,j,c,m,qs,ps,Z,b,I,by lia,λba U x=>⟨o4,Z,BR ?_⟩,λO U x=>⟨o5,Z,Ba ?_⟩⟩)
   .refine⟨fun σ' L=>∃(u:Gv)(v:Nat),σ'=[n_ (.ref g.p),n_ (.int o),n_ (.int v)]/\Fr g H L/\Be a L g u/\AJ G u (n-m)/\m<=n/\Ao u v ((m+1:Nat):Int)/\∀(r:Nat)(d:Gv)(k:Nat),AJ u d k->FX d (m+1) v r->FX d (n+1) o r,fun σ' L z=>⟨m,V3 _,z⟩,?_⟩;refine xw2 Z Z ⟨g,j,c,m,qs,ps,Z,b.at'.same x,b.ok,I,by lia,by lia,λv u H4 B M l V=>?_⟩;refine⟨u,v,Z,fr.trans ((Ay.fr x).trans B),((b.same x).fr B M l),(go.trans l).mono A3,by lia,⟨_,V,by show(m:Int)+1=_;lia⟩,λr d k' t t5=>?_⟩;exact tr r d _ (l.trans t) ⟨qs,ps,I.app (l.trans t),.inr ⟨ba,v,t.get V,t5⟩⟩
   .exact xq1 Z (k c j U (fr.trans (Ay.fr x)) (b.same x) (go.mono A3) (tr c j 0 (AJ.refl b.ok) ⟨qs,ps,I,.inl ⟨O,Z⟩⟩))
def OF(G:Gv)(n f:Nat):Nat->Nat->Prop
|0,w=>w=f
|k+1,w=>∃u,OF G n f k u/\Wid G (n+k) u w
theorem OF.app(go:AJ G b m):∀{k w:Nat},OF G n f k w->OF b n f k w
|0,_,h=>h
|k+1,w,h=>by
 exact xea h λu c d=>⟨u,OF.app go c,d.app go⟩
inductive aGT(a:Ad)(vs:List V)(H:Hp)(Q:VK):Prop
|mk (g:GA) (G:Gv) (f n:Nat) (t:R_) (x y wd ht:Int) (_:vs=[.ref g.p,.int f,.ref t]) (_:Be a H g G) (_:Ao G f ((n+1:Nat):Int)) (_:n<=40) (_:H t=n_ (.tup [.int x,.int y,.int wd,.int ht])) (_:Gg x y wd ht (2^40)) (_:G.length<8700000) (_:∀(k w:Nat)(G':Gv)(H':Hp),Fr g H H'->Be a H' g G'->AJ G G' (5*k)->n+k<=40->OF G' n f k w->Ao G' w ((n+k+1:Nat):Int)->Gg x y wd ht (2^(n+k))->(∀j,j<k->¬Gg x y wd ht (2^(n+j)))->Q (.int w) H'):aGT a vs H Q
def aFj(a:Ad):Sp:=λvs H Q _=>aGT a vs H Q
theorem aHN(F:Fun K "widened_over" "widened_over" Gr f fd)(T:Top K mg a)(aC:Cal P w K mg n8 CX0 1 "lies_within" QX Ru)(aD:Cal P w K mg n8 CX0 4 "reach_of" VQ (Je a))(bP:Cal P w K mg n8 CX0 4 "widened" LZ (WG a)):AM P w K mg n8 CX0 5 f fd EK (aFj a):=by
 refine F.ok FL (λvs H Q E h=>?_) (λab A aa s H vs Q E X h=>?_)
 .apply Br;intro N b;obtain⟨g,G,q,n,t,x,y,C,ht,rfl,_⟩:=h;apply b;clear b N;rfl
 .apply Br;intro N b;obtain⟨g,G,q,n,t,x,y,C,M,rfl,U,hl,ac,ht,li,few,k⟩:=h;apply b;clear b N;refine⟨_,(Ae (Am (i:=3) FL.nd Z O_9 (pv 1)) (Ae (Lq A1c (Dr (CP (Ar aC (rm X) Z Aq (Aa (pv 2) (Aa (Ar aD (rm X) Z Aq (Aa (pv 0) (Aa (pv 3) Ab))) Ab))))) (Ah (Am (i:=3) FL.nd Z O_9 (Ar bP (rm X) Z Aq (Aa (pv 0) (Aa (pv 3) Ab)))))) (Ah (Au (pv 3))))),?_⟩;refine xq1 Z ⟨λm σ L=>∃(e:Gv)(c j:Nat),σ=[n_ (.ref g.p),n_ (.int q),n_ (.ref t),n_ (.int c)]/\Fr g H L/\Be a L g e/\AJ G e (5*j)/\n+j+m=40/\Ao e c ((n+j+1:Nat):Int)/\OF e n q j c/\∀i,i<j->¬Gg x y C M (2^(n+i)),⟨40-n,G,q,0,Z,Fr.refl g H,U,AJ.refl U.ok,by lia,hl,Z,λi W=>absurd W (N3 _)⟩,?_⟩;rintro m σ L I;refine CV I λe c j S fr d go D=>xa3 D λR lc wn no=>?_;clear D;clear I;subst S;have gf:=go.few;have Y:=fr.tup U.at' ht;refine xq1 Z (xq1 Z (xq1 Z ⟨g,e,c,n+j,Z,d.at',lc,by lia,t,x,y,C,M,_,Z,Y,_,Z,?_⟩));by_cases r:Gg x y C M (2^(n+j))
  .rw[A0e r];exact Ba (xq1 Z (k j c e L fr d go A3 wn lc r no))
  .rw[A0f r];have m0:m≠0:=λz=>by
    subst z;have:n+j=40:=R;rw[this]at r;exact r li
   refine BR ⟨fun σ' O=>∃(o:Gv)(u B:Nat),σ'=[n_ (.ref g.p),n_ (.int q),n_ (.ref t),n_ (.int u)]/\Fr g H O/\Be a O g o/\AJ G o (5*B)/\n+B+(m-1)=40/\Ao o u ((n+B+1:Nat):Int)/\OF o n q B u/\∀i,i<B->¬Gg x y C M (2^(n+i)),fun σ' O z=>⟨m-1,by lia,z⟩,?_⟩;refine xw2 Z Z ⟨g,e,c,n+j,Z,d,lc,by lia,by lia,λu o H3 v V l wi=>?_⟩;refine⟨o,u,j+1,Z,fr.trans v,d.fr v V l,(go.trans l).mono (T0 A4 _),by lia,?_,⟨c,wn.app l,wi⟩,λi W=>?_⟩
   .have:=wi.lev;rw[show n+(j+1)+1=n+j+2 by lia];exact this
   .rcases S9.mp W with h|h
    .exact no i h
    .rw[h];exact r
end
def st4(x y z w k j:Nat)(i:Nat):Nat:=if i=k then j else f4 x y z w i
def quad(l x y:Nat):Nat:=x/2^l+2*(y/2^l)
theorem Cd(h:x<2^(l+1)):x/2^l<2:=by
 rw[X4 (Y6 A4),U4,<-L6];exact h
theorem Ca(a:x<2^(l+1))(b:y<2^(l+1)):quad l x y<4:=by
 have c:=Cd a;have d:=Cd b;unfold quad;lia
theorem FF(l:Nat):((2^l:Nat):Int)=(2:Int)^l:=N6 2 l
theorem aFZ(l x y:Nat):(x:Int)/2^l+2*((y:Int)/2^l)=((quad l x y:Nat):Int):=by
 unfold quad;rw[<-FF,O7,P2,V5,V5];rfl
theorem aDx(l x:Nat):(x:Int)%2^l=((x%2^l:Nat):Int):=by rw[<-FF,Int.natCast_emod]
theorem set4(x y z w j:Nat){k:Nat}(a:k<4):([V.int (x:Int),V.int (y:Int),V.int (z:Int),V.int (w:Int)].set k (.int j))=[V.int (st4 x y z w k j 0:Int),V.int (st4 x y z w k j 1:Int),V.int (st4 x y z w k j 2:Int),V.int (st4 x y z w k j 3:Int)]:=by
 match k,a with
 |0,_=>rfl
 |1,_=>rfl
 |2,_=>rfl
 |3,_=>rfl
def Rep(G:Gv)(s:Nat):Nat->Nat->Nat->Nat->Nat->Prop
|0,_,_,_,r=>r=s
|l+1,i,x,y,r=>∃(q:Sq)(a b c d j:Nat),IR G l i q a b c d/\Rep G s l (f4 a b c d (quad l x y)) (x%2^l) (y%2^l) j/\G[r]?=n_ ⟨[(st4 a b c d (quad l x y) j 0:Int),(st4 a b c d (quad l x y) j 1:Int),(st4 a b c d (quad l x y) j 2:Int),(st4 a b c d (quad l x y) j 3:Int)],(l:Int)+1⟩
theorem Rep.app(go:AJ G g m):∀{l i x y r:Nat},Rep G s l i x y r->Rep g s l i x y r
|0,_,_,_,_,h=>h
|l+1,i,x,y,r,h=>by
 exact xe5 h λq a b c d f=>AX f λj n k e=>⟨q,a,b,c,d,j,n.app go,Rep.app go k,go.get e⟩
theorem Rep.lev(ok:GOk G)(g:s<8):∀{l i x y r:Nat},Rep G s l i x y r->Ao G r (l:Int)
|0,_,_,_,r,h=>by
 have h:=h;subst h;exact⟨_,ok.leaf r g,Z⟩
|l+1,_,_,_,_,h=>by
 exact xe5 h λq a b c d f=>AX f λj m k e=>⟨_,e,by show(l:Int)+1=_;lia⟩
section
variable{P:N_}{w:Q_}{K:O_}{mg:C_}{n8:T_}{a:Ad}
inductive aDf(a:Ad)(n:Nat)(vs:List V)(H:Hp)(Q:VK):Prop
|mk (g:GA) (G:Gv) (i l x y s:Nat) (_:vs=[.ref g.p,.int i,.int x,.int y,.int s]) (_:AQ a H g G) (_:GOk G) (_:Ao G i (l:Int)) (_:l<n) (_:x<2^l) (_:y<2^l) (_:s<8) (_:G.length+l<8900000) (_:∀(r:Nat)(G':Gv)(H':Hp),Fr g H H'->AQ a H' g G'->AJ G G' l->Rep G' s l i x y r->Q (.int r) H'):aDf a n vs H Q
def WH(a:Ad)(n:Nat):Sp:=λvs H Q _=>aDf a n vs H Q
theorem aBw(F:Fun K "replaced" "replaced" MG f fd)(T:Top K mg a)(hm:mg "replaced" = n_ (.ref f))(Bi:CY K fd GG [])(aT:Co P w K mg n8 CX0 3 a.N1 "leaf" SV (Sj a))(a6:Co P w K mg n8 CX0 2 a.N1 "linked" AZ (Ey a)):∀n,AM P w K mg n8 CX0 (n+4) f fd GG (WH a n)
|0=>by
 refine F.ok Er (λvs H Q E h=>?_) (λab A O s H vs Q E W h=>?_)
 .obtain⟨g,G,i,l,x,y,s,rfl,_,_,_,h0,_⟩:=h;exact absurd h0 (N3 _)
 .obtain⟨g,G,i,l,x,y,s,rfl,_,_,_,h0,_⟩:=h;exact absurd h0 (N3 _)
|n+1=>by
 have bS:Cal P w K mg n8 CX0 (n+4) "replaced" GG (WH a n):=⟨f,fd,aBw F T hm Bi aT a6 n,hm,F.kp,Bi⟩
 refine F.ok Er (λvs H Q E h=>?_) (λab A O s H vs Q E W h=>?_)
 .obtain⟨g,G,i,l,x,y,s,rfl,_⟩:=h;rfl
 .obtain⟨g,G,i,l,x,y,st,rfl,B,ok,hl,ln,hx,hy,s8,few,k⟩:=h;refine xea (id hl) λq0 e0 l0=>⟨_,(Ae (Am (i:=5) Er.nd Z O_9 (Aj Az (AF (pv 0) Z) (pv 1) R_9)) (Ae (AO (AA CQ (pv 5) Ac (AD _)) (Ah (Au (AK (pv 0) aT (rm W) Aq (Aa (pv 4) Ab)))) AB) (Ae (Am (i:=6) Er.nd Z O_9 (AE Om Ac (AE Bq (pv 5) Ac))) (Ae (Am (i:=7) Er.nd Z O_9 (BK Tp Z T.aEP PyProof.Rows.boot_list (Aa (Aj Az (AF (pv 0) Z) (pv 1) R_9) Ab))) (Ae (Am (i:=8) Er.nd Z O_9 (AE AR (AE NB (pv 2) (pv 6)) (AE FT Ac (AE NB (pv 3) (pv 6))))) (Ae (aB6 (Ar bS (rm W) Z Aq (Aa (pv 0) (Aa (Aj Az (pv 7) (pv 8) R_9) (AT Bf (pv 2) (pv 6) (AT Bf (pv 3) (pv 6) (Aa (pv 4) Ab)))))) (aB4 (pv 7) (pv 8) Ua)) (Ah (Au (AK (pv 0) a6 (rm W) Aq (Aa (BK BU Z T.f_ A2f (Aa (pv 7) Ab)) Ab)))))))))),?_⟩
  refine⟨_,Z,g.p,_,g.dx,_,_,Z,B.hp,T.L0,T.Q2,Fo g,_,Z,g.lv,_,(i:Int),.int q0.lev,Z,Z,SqL.of B.lv,Ai (by rw[C0,e0];rfl),?_⟩;cases l with
  |zero =>
   rw[l0];exact xq1 Z ⟨Z,(xq1 Z (BR (xwn Z Z B.hp (WZ g) Z ⟨g.p,(st:Int),Z,O4 _,by lia,k st G H (Fr.refl g H) B (AJ.refl ok) Z⟩)))⟩
  |succ l =>
   have ag:q0.lev=(l:Int)+1:=by rw[l0];lia
   have ai:=(ok.lev e0).2;have C:=aC4 (l:=l) A3;have v:=Pl l;refine xe5 (BI ok hl) λq c d m u D=>AS (EJ B D) λts t h3 et ht=>xq1 Z ⟨Z,(xq1 Z ?_)⟩;rw[A0f (by intro z;injection z with z;lia)];refine Ba (xwb Z Z Z (xq2 Z Z ⟨⟨by lia,by lia,by decide⟩,?_⟩));rw[show(λ(i j:Int)=>V.int (i*2^j.toNat)) 1 (q0.lev-1)=V.int (2^l)from A2c V.int (Se l ag)];refine xwf Z Z B.hp T.L0 T.L4 (Cs g) (xwi Z Z Z (SqL.of h3) (Ai et) ⟨t,(xq1 Z ⟨.inr (SqT.of ht),λL hL=>?_⟩)⟩);have aL:=Ap.new B hL;have s1:=AH (o:=.lst [.int c,.int d,.int m,.int u]) hL;have M:upd H L (.lst [.int c,.int d,.int m,.int u]) L=n_ (.lst [.int c,.int d,.int m,.int u]):=Af;generalize upd H L (.lst [.int c,.int d,.int m,.int u])=H1 at s1 M⊢;have X:=Ca hx hy;refine xw2 Z Z (xq2 Z Z ⟨⟨v,C⟩,(xw2 Z Z (xq2 Z Z ⟨⟨v,C⟩,(xq2 Z Z ⟨.inl ⟨by decide,by decide⟩,(xq2 Z Z ?_)⟩)⟩))⟩);rw[show(λ(i j:Int)=>V.int (i+j)) ((x:Int)/2^l) (2*((y:Int)/2^l))=V.int ((quad l x y:Nat):Int)from A2c V.int (aFZ l x y)];have aa:[V.int (c:Int),V.int (d:Int),V.int (m:Int),V.int (u:Int)][quad l x y]?=n_ (.int (f4 c d m u (quad l x y):Int)):=by
    generalize quad l x y=kk at X⊢
    match kk,X with
    |0,_=>rfl
    |1,_=>rfl
    |2,_=>rfl
    |3,_=>rfl
   refine xw3 Z Z Z (xq4 Z Z (SqL.of M) (Ai aa) (xw2 Z Z (xq2 Z Z ⟨v,(xw2 Z Z (xq2 Z Z ⟨v,(xq1 Z ?_)⟩))⟩)));refine⟨g,G,f4 c d m u (quad l x y),l,x%2^l,y%2^l,st,by rw[<-aDx,<-aDx];rfl,(B.same s1),ok,((D.nat X).2),by lia,F9 _ (Y6 A4),F9 _ (Y6 A4),s8,by lia,λj G1 Y fr ad go rp=>?_⟩;have gf:=go.few;have S:=fr.get aL M;refine xw2 Z Z ⟨L,_,((quad l x y:Nat):Int),quad l x y,Z,Z,S,by unfold ixN;rw[A0g (O4 _),A0g (by show((quad l x y:Nat):Int)<((4:Nat):Int);lia),M4],?_⟩;rw[set4 c d m u j X];have N:=ad.put (o:=.lst [V.int (st4 c d m u (quad l x y) j 0:Int),V.int (st4 c d m u (quad l x y) j 1:Int),V.int (st4 c d m u (quad l x y) j 2:Int),V.int (st4 c d m u (quad l x y) j 3:Int)]) S aL.1 aL.2.1;have U:upd Y L (.lst [V.int (st4 c d m u (quad l x y) j 0:Int),V.int (st4 c d m u (quad l x y) j 1:Int),V.int (st4 c d m u (quad l x y) j 2:Int),V.int (st4 c d m u (quad l x y) j 3:Int)]) L=n_ (.lst [V.int (st4 c d m u (quad l x y) j 0:Int),V.int (st4 c d m u (quad l x y) j 1:Int),V.int (st4 c d m u (quad l x y) j 2:Int),V.int (st4 c d m u (quad l x y) j 3:Int)]):=Af;have R:Fr g H (upd Y L (.lst [V.int (st4 c d m u (quad l x y) j 0:Int),V.int (st4 c d m u (quad l x y) j 1:Int),V.int (st4 c d m u (quad l x y) j 2:Int),V.int (st4 c d m u (quad l x y) j 3:Int)])):=λb o e m1 m2 m3=>by
    rw[Ax (Av e hL)];exact fr _ _ (s1 _ _ e) m1 m2 m3
   generalize upd Y L (.lst [V.int (st4 c d m u (quad l x y) j 0:Int),V.int (st4 c d m u (quad l x y) j 1:Int),V.int (st4 c d m u (quad l x y) j 2:Int),V.int (st4 c d m u (quad l x y) j 3:Int)])=H3 at N U R⊢;refine xwn Z Z N.hp (Cc g) Z ⟨L,(xq1 Z (.inl ⟨SqL.of U,λt4 af=>?_⟩))⟩;have s4:=AH (o:=.tup [V.int (st4 c d m u (quad l x y) j 0:Int),V.int (st4 c d m u (quad l x y) j 1:Int),V.int (st4 c d m u (quad l x y) j 2:Int),V.int (st4 c d m u (quad l x y) j 3:Int)]) af;have ah:=D.app go;have lst:∀ii,ii<4->Ao G1 (st4 c d m u (quad l x y) j ii) (l:Int):=λii hi=>by
    unfold st4;split
    .exact(rp.lev go.ok s8)
    .exact(ah.nat hi).2
   refine⟨g,G1,t4,_,_,_,_,(l:Int),Z,N.same s4,go.ok,Af,⟨lst 0 A4,lst 1 A4,lst 2 A4,lst 3 A4⟩,by lia,by lia,λr G2 H4 ac ae I e4=>?_⟩;exact k r G2 H4 (R.trans ((Ay.fr s4).trans ac)) ae (go.trans I) ⟨q,c,d,m,u,j,D.app (go.trans I),rp.app I,e4⟩
structure Mo(G:Gv)(n f:Nat)(x y:Int)(s r:Nat)(k w i:Nat):Prop where
le:n+k<=40
wid:OF G n f k w
lw:Ao G w ((n+k+1:Nat):Int)
li:Gg x y 1 1 (2^(n+k))
no:∀j,j<k->¬Gg x y 1 1 (2^(n+j))
rep:Rep G s (n+k+1) w (x+2^(n+k)).toNat (y+2^(n+k)).toNat i
tr:FX G (n+k+1) i r
theorem Yh(h:Gg x y 1 1 (2^m)):(x+2^m).toNat<2^(m+1)/\(y+2^m).toNat<2^(m+1)/\0<=x+2^m/\0<=y+2^m:=by
 refine xa3 h λb c d f=>?_;have e:=FF (m+1);rw[CA]at e;have p:=Pl m;refine⟨?_,?_,by lia,by lia⟩<;>lia
inductive Yv(a:Ad)(vs:List V)(H:Hp)(Q:VK):Prop
|mk (g:GA) (G:Gv) (f n:Nat) (x y:Int) (s:Nat) (_:vs=[.ref g.p,.int f,.int x,.int y,.int s]) (_:Be a H g G) (_:Ao G f ((n+1:Nat):Int)) (_:n<=40) (_:Gg x y 1 1 (2^40)) (_:s<8) (_:G.length<8000000) (_:∀(r k w i:Nat)(G':Gv)(H':Hp),Fr g H H'->Be a H' g G'->AJ G G' 400->Mo G' n f x y s r k w i->Q (.int r) H'):Yv a vs H Q
def Sh(a:Ad):Sp:=λvs H Q _=>Yv a vs H Q
theorem aBt(F:Fun K "planted" "planted" Oe f fd)(T:Top K mg a)(Y:Cal P w K mg n8 CX0 1 "lies_within" QX Ru)(bJ:Cal P w K mg n8 CX0 2 "is_state" VS aFf)(aD:Cal P w K mg n8 CX0 4 "reach_of" VQ (Je a))(aR:Cal P w K mg n8 CX0 5 "widened_over" EK (aFj a))
 (bS:Cal P w K mg n8 CX0 54 "replaced" GG (WH a 50)) (aQ:Cal P w K mg n8 CX0 4 "trimmed" LZ (NV a)):AM P w K mg n8 CX0 55 f fd Ol (Sh a):=by
 refine F.ok Jg D_9 λaa A D s H vs Q E j h=>?_
 obtain⟨g,G,f',n,x,y,st,rfl,fu,hl,C,R,U,few,k⟩:=h;refine⟨_,(Ae (Am (i:=5) Jg.nd Z O_9 (BH (Aa (pv 2) (Aa (pv 3) (AG (AG Ab)))))) (Ae (AO (Dr (CP (Ar Y (rm j) Z Aq (Aa (pv 5) (Aa (Cu Z T.aAO) Ab))))) (Ah Bp) AB) (Ae (AO (Dr (CP (Ar bJ (rm j) Z Aq (Aa (pv 4) Ab)))) (Ah Bp) AB) (Ae (Am (i:=6) Jg.nd Z O_9 (Ar aR (rm j) Z Aq (Aa (pv 0) (Aa (pv 1) (Aa (pv 5) Ab))))) (Ae (Am (i:=7) Jg.nd Z O_9 (Ar aD (rm j) Z Aq (Aa (pv 0) (Aa (pv 6) Ab)))) (Ah (Au (Ar aQ (rm j) Z Aq (Aa (pv 0) (Aa (Ar bS (rm j) Z Aq (Aa (pv 0) (Aa (pv 6) (AT AR (pv 2) (pv 7) (AT AR (pv 3) (pv 7) (Aa (pv 4) Ab)))))) Ab)))))))))),?_⟩;refine xw2 Z Z ⟨S_4,λt ht=>?_⟩;have I:=AH (o:=.tup [.int x,.int y,.int 1,.int 1]) ht;have e:upd H t (.tup [.int x,.int y,.int 1,.int 1]) t=n_ (.tup [.int x,.int y,.int 1,.int 1]):=Af;generalize upd H t (.tup [.int x,.int y,.int 1,.int 1])=H1 at I e⊢;refine xq1 Z ⟨t,x,y,1,1,_,Z,e,_,Z,?_⟩;rw[A0e (show Gg x y 1 1 1099511627776 from R)];refine Ba (xq1 Z ⟨(st:Int),Z,O4 _,by lia,o4,Z,Ba ?_⟩);refine xw3 Z Z Z ⟨g,G,f',n,t,x,y,1,1,Z,(fu.same I),hl,C,e,R,D3 few A4,λkk L M H2 q c m le wn B O no=>?_⟩;have ab:=m.few;refine xw2 Z Z ⟨g,M,L,n+kk,Z,c.at',B,D6 le A4,?_⟩;refine xa3 (Yh O) λb1 b2 b3 b4=>xw3 Z Z Z (xw2 Z Z (xq2 Z Z (xw2 Z Z (xq2 Z Z (xq1 Z ?_)))));refine⟨g,M,L,n+kk+1,(x+2^(n+kk)).toNat,(y+2^(n+kk)).toNat,st,by rw[P7 b3,P7 b4];rfl,c.at',c.ok,B,by lia,b1,b2,U,by lia,λN V H3 l z d S=>?_⟩;have ac:=d.few;refine⟨g,V,N,n+kk,Z,(c.fr l z d),(S.lev d.ok U),by lia,λr W X u v p tr=>?_⟩;have b:=d.trans p;exact k r kk L N W X ((Ay.fr I).trans (q.trans (l.trans u))) v ((m.trans b).mono A3) ⟨le,wn.app b,b.lev B,O,no,S.app p,tr⟩
end
structure Cl where
x:Int
y:Int
s:Nat
def OH(H:Hp)(t:R_)(c:Cl):Prop:=H t=n_ (.tup [.int c.x,.int c.y,.int c.s])
structure Zx(c:Cl):Prop where
li:Gg c.x c.y 1 1 (2^40)
s:c.s<8
theorem Mo.app{s r k w i:Nat}(go:AJ G a m)(h:Mo G n f x y s r k w i):Mo a n f x y s r k w i:=⟨h.le,h.wid.app go,go.lev h.lw,h.li,h.no,h.rep.app go,h.tr.app go⟩
inductive Ty(G:Gv):List Cl->Nat->Nat->Prop
|nil:Ty G [] 0 (bareN 1)
|cons {cs:List Cl} {c:Cl} {n f r k w i m:Nat} (h:Ty G cs n f) (l:Ao G f ((n+1:Nat):Int)) (p:Mo G n f c.x c.y c.s r k w i) (l':Ao G r ((m+1:Nat):Int)):Ty G (c::cs) m r
theorem Ty.app(go:AJ G a m)(h:Ty G cs n f):Ty a cs n f:=by
 induction h with
 |nil=>exact .nil
 |cons _ l p c b=>exact .cons b (go.lev l) (p.app go) (go.lev c)
section
variable{P:N_}{w:Q_}{K:O_}{mg:C_}{n8:T_}{a:Ad}
inductive aAZ(a:Ad)(vs:List V)(H:Hp)(Q:VK):Prop
|mk (g:GA) (G:Gv) (L:R_) (ts:H_) (cs:List Cl) (_:vs=[.ref g.p,.ref L]) (_:Be a H g G) (_:H L=n_ (.lst (ts.map V.ref))) (_:L≠g.lv) (_:L≠g.pt) (_:Paired (OH H) ts cs) (_:(∀c∈cs,Zx c)) (_:G.length+400*cs.length<8000000) (_:∀(f n:Nat)(G':Gv)(H':Hp),Fr g H H'->Be a H' g G'->AJ G G' (400*cs.length)->n<=40->Ao G' f ((n+1:Nat):Int)->Ty G' cs.reverse n f->Q (.int f) H'):aAZ a vs H Q
def aD8(a:Ad):Sp:=λvs H Q _=>aAZ a vs H Q
theorem aE3(F:Fun K "field_of" "field_of" MN f fd)(T:Top K mg a)(aY:Cal P w K mg n8 CX0 1 "bare_field" SO (Ph a))(cZ:Cal P w K mg n8 CX0 55 "planted" Ol (Sh a)):AM P w K mg n8 CX0 56 f fd MW (aD8 a):=by
 refine F.ok Ic D_9 λab A aa s H vs Q E hr h=>?_
 obtain⟨g,G,L,ts,cs,rfl,C,X,n1,n2,pr,Y,few,k⟩:=h;obtain⟨r0,e0⟩:=C.g0;refine⟨_,(Ae (Am (i:=2) Ic.nd Z O_9 (Ar aY (rm hr) Z Aq (Aa (pv 0) Ab))) (Ae (BX A1c Z (Cb (pv 1)) (Bd (i:=3) Ic.nd Z O_9) (Ah (Am (i:=2) Ic.nd Z O_9 (Ar cZ (rm hr) Z Aq (Aa (pv 0) (Aa (pv 2) (Aa (Aj Al (pv 3) Ac R_9) (Aa (Aj Al (pv 3) Ac R_9) (Aa (Aj Al (pv 3) Ac R_9) Ab))))))))) (Ah (Au (pv 2))))),?_⟩;refine xq1 Z ⟨g,G,Z,C,?_⟩;refine xq1 Z ⟨L,Z,⟨_,SqL.of X⟩,?_⟩;refine NL (xs:=ts.map V.ref) (λj σ B=>∃(d:Gv)(f n:Nat)(u3:Option V),σ=[n_ (.ref g.p),n_ (.ref L),n_ (.int f),u3]/\Fr g H B/\Be a B g d/\AJ G d (400*j)/\n<=40/\Ao d f ((n+1:Nat):Int)/\Ty d (cs.take j).reverse n f) ⟨G,bareN 1,0,o0,Z,Fr.refl g H,C,AJ.refl C.ok,by lia,ER e0 A3,.nil⟩ (λj σ B _ ⟨_,_,_,_,_,fr,_⟩=>SqL.of (fr _ _ X n1 n2 (AI X C.at'.nm A6))) ?_ ?_
 .intro j v σ B ev M;refine CM M λd U n u3 l fr o go b=>xa2 b λz O D=>?_;clear b;clear M;subst l;rw[C0]at ev;refine xea (D5.mp ev) λt et R=>?_;subst R;refine xea (PairedM.getL pr et) λc S hc=>?_;have e:=Y c (D8 S);have hj:=(B9.mp S).1;have u:=fr.tup C.at' hc;have gf:=go.few;refine xw3 Z Z Z (xq4 Z Z (SqT.of u) (Ai (j:=0) Z) (xwi Z Z Z (SqT.of u) (Ai (j:=1) Z) (xwi Z Z Z (SqT.of u) (Ai (j:=2) Z) ?_)));refine⟨g,d,U,n,c.x,c.y,c.s,Z,o,O,z,e.li,e.s,by lia,λr kk w' i' G2 H3 W I q pl=>?_⟩;refine xea (FX.lev (pl.rep.lev I.ok e.s) pl.tr) λm lm lr=>?_;have le:=pl.le;refine⟨G2,r,m,(xq1 Z ⟨fr.trans W,I,(go.trans q).mono (T0 A4 _),by lia,lr,?_⟩)⟩;rw[F7,S,Q4,List.reverse_append];exact .cons (D.app q) (q.lev O) pl lr
 .intro σ B N;refine CM N λd U n u3 l fr o go b=>xa2 b λz O D=>?_;clear b;clear N;subst l;rw[B7,(A1e pr)]at go D;rw[J0]at D;exact xq1 Z (k U n d B fr o go z O D)
end
def Ld(G:Gv)(n f:Nat):Prop:=n=0\/∃m qs ps,n=m+1/\Pd G m f qs ps/\¬BA m ps
theorem Ld.app{k n f:Nat}(go:AJ G a k)(h:Ld G n f):Ld a n f:=by
 rcases h with h|⟨m,qs,ps,e,d,b⟩
 .exact .inl h
 .exact .inr ⟨m,qs,ps,e,d.app go,b⟩
end J
namespace J
open PySem L2
def CW(G:Gv):Nat->Nat->Nat->Nat->Nat
|0,i,_,_=>i
|n+1,i,x,y=>match G[i]? with
 |some q=>CW G n (q.parts.getD (quad n x y) 0).toNat (x%2^n) (y%2^n)
 |none=>0
theorem AL(n:Nat):0<2^n:=Y6 A4
theorem BM{q:Sq}{a b c d:Nat}(h:IR G n i q a b c d)(e:x<2^(n+1))(f:y<2^(n+1)):CW G (n+1) i x y=CW G n (f4 a b c d (quad n x y)) (x%2^n) (y%2^n):=by
 rw[show CW G (n+1) i x y=(match G[i]? with|some q=>CW G n (q.parts.getD (quad n x y) 0).toNat (x%2^n) (y%2^n)|none=>0)from rfl,h.g];show CW G n (q.parts.getD (quad n x y) 0).toNat _ _=_;have:=(h.nat (Ca e f)).1;rw[D7,this];rfl
theorem LU{k:Nat}(ok:GOk G)(go:AJ G f k):∀{n i x y:Nat},Ao G i (n:Int)->x<2^n->y<2^n->CW f n i x y=CW G n i x y
|0,_,_,_,_,_,_=>rfl
|n+1,i,x,y,h,hx,hy=>by
 refine xe5 (BI ok h) λq a b c d e=>?_;rw[BM e hx hy,BM (e.app go) hx hy];exact LU ok go (e.nat (Ca hx hy)).2 (F9 _ (AL n)) (F9 _ (AL n))
theorem DL(e:G=G0++r)(ok:GOk G):∀{n x y:Nat},n<=48->x<2^n->y<2^n->CW G n (bareN n) x y=0
|0,_,_,_,_,_=>rfl
|n+1,x,y,hn,hx,hy=>by
 refine xe5 (BI ok (ER e (n:=n+1) hn)) λq a b c d k=>?_;have l:a=bareN n/\b=bareN n/\c=bareN n/\d=bareN n:=by
  have g:=k.g;rw[show bareN (n+1)=8+n from rfl,aBC e n (Y7 hn)]at g;cases g;have s:=k.ps;injection s with s0 s
  injection s with s1 s
  injection s with s2 s
  injection s with s3 s
  exact⟨(A1b s0).symm,(A1b s1).symm,(A1b s2).symm,(A1b s3).symm⟩
 refine xa3 l λf h i j=>?_;clear l;subst f;subst h;subst i;subst j;rw[BM k hx hy];have:f4 (bareN n) (bareN n) (bareN n) (bareN n) (quad n x y)=bareN n:=by unfold f4;split<;>rfl
 rw[this];exact DL e ok A3 (F9 _ (AL n)) (F9 _ (AL n))
theorem Fn{n k x y:Nat}(c:k<4)(a:x<2^n)(b:y<2^n):(x+2^n*(k%2))<2^(n+1)/\(y+2^n*(k/2))<2^(n+1)/\quad n (x+2^n*(k%2)) (y+2^n*(k/2))=k/\(x+2^n*(k%2))%2^n=x/\(y+2^n*(k/2))%2^n=y:=by
 have p:=AL n;have e:2^(n+1)=2*2^n:=by rw[L6];lia
 unfold quad;rw[Q8 _ _ p,Q8 _ _ p,S4,S4,O2 a,O2 b,N8 a,N8 b,e];generalize 2^n=h at *
 match k,c with
 |0,_=>exact⟨by lia,by lia,Z,Z,Z⟩
 |1,_=>exact⟨by lia,by lia,Z,Z,Z⟩
 |2,_=>exact⟨by lia,by lia,Z,Z,Z⟩
 |3,_=>exact⟨by lia,by lia,Z,Z,Z⟩
theorem Mi(ok:GOk G):∀{n i j:Nat},Ao G i (n:Int)->Ao G j (n:Int)->(∀x y,x<2^n->y<2^n->CW G n i x y=CW G n j x y)->i=j
|0,i,j,_,_,h=>h 0 0 A4 A4
|n+1,i,j,hi,hj,h=>by
 refine xe5 (BI ok hi) λq a b c d l=>xe5 (BI ok hj) λF r s t d' f=>?_;have e:∀k,k<4->f4 a b c d k=f4 r s t d' k:=λk p=>by
  refine Mi ok (l.nat p).2 (f.nat p).2 λx y z A=>xa4 (Fn p z A) λm o u v w=>?_;have:=h _ _ m o;rw[BM l m o,BM f m o,u,v,w]at this;exact this
 have B:=e 0 A4;have C:=e 1 A4;have D:=e 2 A4;have E:=e 3 A4;subst B C D E;exact ok.one l.g f.g (l.ps.trans f.ps.symm)
theorem TW(a:x/2^n=X/2^n)(b:x%2^n=X%2^n):x=X:=by
 rw[<-O0 x (2^n),<-O0 X (2^n),a,b]
theorem Uk(ok:GOk G)(t:s<8):∀{n i X Y r x y:Nat},X<2^n->Y<2^n->x<2^n->y<2^n->Rep G s n i X Y r->CW G n r x y=if x=X/\y=Y then s else CW G n i x y
|0,i,X,Y,r,x,y,hX,hY,hx,hy,h=>by
 have h:=h;have v:=X8.mp hX;have w:=X8.mp hY;have E:=X8.mp hx;have F:=X8.mp hy;subst v w E F h;rfl
|n+1,i,X,Y,r,x,y,hX,hY,hx,hy,h=>by
 refine xe5 h λq a b c d o=>AX o λj u p e=>?_;have lst:∀l,l<4->Ao G (st4 a b c d (quad n X Y) j l) (n:Int):=λl K=>by
  unfold st4;split
  .exact(p.lev ok t)
  .exact(u.nat K).2
 have L:IR G n r _ (st4 a b c d (quad n X Y) j 0) (st4 a b c d (quad n X Y) j 1) (st4 a b c d (quad n X Y) j 2) (st4 a b c d (quad n X Y) j 3):=⟨e,Z,Z,lst 0 A4,lst 1 A4,lst 2 A4,lst 3 A4⟩
 have M:=Ca hx hy;rw[BM L hx hy,BM u hx hy,LS (st4 a b c d (quad n X Y) j) M];have m:=AL n;have P:=Cd hx;have Q:=Cd hy;have N:=Cd hX;have O:=Cd hY;unfold st4;by_cases g:quad n x y=quad n X Y
 .rw[A0g g,Uk ok t (F9 _ m) (F9 _ m) (F9 _ m) (F9 _ m) p,g];have k:x/2^n=X/2^n/\y/2^n=Y/2^n:=by
   unfold quad at g;generalize x/2^n=A at *
   generalize X/2^n=B at *
   generalize y/2^n=C at *
   generalize Y/2^n=D at *
   lia
  obtain⟨H,I⟩:=k;by_cases f:x=X/\y=Y
  .rw[A0g f,A0g ⟨by rw[f.1],by rw[f.2]⟩]
  .rw[A0d f,A0d λz=>f ⟨TW H z.1,TW I z.2⟩]
 .rw[A0d g,A0d λz=>g (by rw[z.1,z.2])]
def fieldF(G:Gv)(n f:Nat)(x y:Int):Nat:=if -(2^n)<=x/\x<2^n/\-(2^n)<=y/\y<2^n then CW G (n+1) f (x+2^n).toNat (y+2^n).toNat else 0
theorem FU(a:-(2^n)<=x)(b:x<2^n):(x+2^n).toNat<2^(n+1):=by
 have e:=FF (n+1);rw[CA]at e;lia
theorem Ev{k n f:Nat}(ok:GOk G)(go:AJ G a k)(h:Ao G f ((n+1:Nat):Int))(x y:Int):fieldF a n f x y=fieldF G n f x y:=by
 unfold fieldF;split
 .rename_i z;exact LU ok go h (FU z.1 z.2.1) (FU z.2.2.1 z.2.2.2)
 .rfl
theorem SZ(u:Nat)(a:h*u<=X)(b:X<h*(u+1)):X/h=u/\X%h=X-h*u:=by
 have e:=Nat.div_eq_of_lt_le (by rw[U4];exact a) (by rw[U4];exact b);exact⟨e,by have:=O0 X h;rw[e]at this;lia⟩
theorem EQ(x n:Nat):x%2^(n+1)%2^n=x%2^n:=Nat.mod_mod_of_dvd x ⟨2,by rw[L6]⟩
theorem OD{ps:Nat->Nat->Nat}(h:Pd G n i qs ps)(c:x<2^(n+2))(d:y<2^(n+2)):CW G (n+2) i x y=CW G n (ps (quad (n+1) x y) (quad n (x%2^(n+1)) (y%2^(n+1)))) (x%2^n) (y%2^n):=by
 obtain⟨q,f⟩:=h.node;have e:=Ca (l:=n+1) c d;have a:x%2^(n+1)<2^(n+1):=F9 _ (AL _);have b:y%2^(n+1)<2^(n+1):=F9 _ (AL _);obtain⟨g,nk⟩:=h.sub _ e;rw[BM f c d,LS qs e,BM nk a b,LS (ps _) (Ca a b),EQ,EQ]
theorem aGb(e:u<2*h):(u+h)/(2*h)=u/h/\(u+h)%(2*h)/h=1-u/h/\(u+h)%h=u%h/\u/h<2:=by
 have p:0<h:=by lia
 rcases Nat.lt_or_ge u h with z|z
 .have a:=O2 z;have b:(u+h)/(2*h)=0:=O2 A3;have c:(u+h)%(2*h)=u+h:=N8 A3;have d:(u+h)/h=1:=(SZ (X:=u+h) 1 A3 A3).1;exact⟨by rw[a,b],by rw[c,d,a],Nat.add_mod_right u h,by lia⟩
 .have a:u/h=1:=(SZ 1 A3 A3).1;have b:=SZ (h:=2*h) (X:=u+h) 1 A3 A3;have c:(u+h-2*h*1)/h=0:=O2 A3;exact⟨by rw[a,b.1],by rw[b.2,c,a],Nat.add_mod_right u h,by lia⟩
theorem Mu(n:Nat):2^(n+1)=2*2^n:=by rw[L6];lia
theorem aBb(ok:GOk G){ps:Nat->Nat->Nat}(h:Pd G n i qs ps)(B:G[m]?=n_ ⟨[(ps 0 3:Int),(ps 1 2:Int),(ps 2 1:Int),(ps 3 0:Int)],(n:Int)+1⟩)(b:u<2^(n+1))(d:v<2^(n+1)):CW G (n+2) i (u+2^n) (v+2^n)=CW G (n+1) m u v:=by
 have a:∀k j,k<4->j<4->Ao G (ps k j) (n:Int):=λk j C g=>by
  obtain⟨q,nk⟩:=h.sub k C;have:=(nk.nat g).2;rw[LS (ps k) g]at this;exact this
 have nm:IR G n m _ (ps 0 3) (ps 1 2) (ps 2 1) (ps 3 0):=⟨B,Z,Z,a 0 3 A4 A4,a 1 2 A4 A4,a 2 1 A4 A4,a 3 0 A4 A4⟩
 have f:=Mu n;have D:=Mu (n+1);have p:=AL n;rw[OD h A3 A3,BM nm b d];unfold quad;rw[f];rw[f]at b d;refine xa3 (aGb b) λo r s t=>xa3 (aGb d) λw b2 x y=>?_;rw[o,r,s,w,b2,x];have two:∀{A:Nat},A<2->A=0\/A=1:=λ{A} h=>by lia
 have c:=two t;have e:=two y;rcases c with z|z<;>rcases e with l|l<;>rw[z,l]<;>rfl
theorem aAS{m X Y:Nat}{x y:Int}(i:(X:Int)=x+2^(m+1))(j:(Y:Int)=y+2^(m+1))(n:X<2^(m+2))(o:Y<2^(m+2)):quad m (X%2^(m+1)) (Y%2^(m+1))+quad (m+1) X Y=3↔(-(2^m)<=x/\x<2^m/\-(2^m)<=y/\y<2^m):=by
 have p:=AL m;have b:=Mu m;have g:=FF (m+1);rw[b]at g;unfold quad;rw[b];rw[(Mu (m+1)),b]at n o;rw[<-g]at i j;rw[<-(FF m)];generalize 2^m=h at *
 have a:∀{X:Nat}{x:Int},(X:Int)=x+((2*h:Nat):Int)->X<2*(2*h)->(X%(2*h)/h+X/(2*h)=1 ↔ -(h:Int)<=x/\x<(h:Int))/\X%(2*h)/h<2/\X/(2*h)<2:=by
  intro X x e l;have k:0<2*h:=by lia
  have H:X/(2*h)<2:=by rw[X4 k];exact l
  have I:X%(2*h)<2*h:=F9 _ k;have G:X%(2*h)/h<2:=by rw[X4 p];exact I
  have w:=O0 X (2*h);have s:=O0 (X%(2*h)) h;have O:=F9 (X%(2*h)) p;refine⟨?_,G,H⟩;generalize X/(2*h)=u at *
  generalize X%(2*h)/h=v at *
  generalize X%(2*h)%h=t at *
  generalize X%(2*h)=P at *
  have E:u=0\/u=1:=by lia
  have F:v=0\/v=1:=by lia
  rcases E with rfl|rfl<;>rcases F with rfl|rfl<;>simp only[Nat.mul_zero,Nat.mul_one,N7]at s w<;>lia
 refine xa2 (a i n) λq Q R=>xa2 (a j o) λr S T=>?_;clear a;generalize X%(2*h)/h=A at *
 generalize X/(2*h)=B at *
 generalize Y%(2*h)/h=C at *
 generalize Y/(2*h)=D at *
 constructor
 .intro z;have d:=q.mp A3;have f:=r.mp A3;exact⟨d.1,d.2,f.1,f.2⟩
 .rintro c;refine xa3 c λK L M N=>?_;have d:=q.mpr ⟨K,L⟩;have f:=r.mpr ⟨M,N⟩;lia
theorem RA{G r:Gv}(l:G=G0++r)(ok:GOk G){n i m:Nat}(u:n<=46){qs:L_}{ps:Nat->Nat->Nat}(h:Pd G n i qs ps)(k:BA n ps)(o:G[m]?=n_ ⟨[(ps 0 3:Int),(ps 1 2:Int),(ps 2 1:Int),(ps 3 0:Int)],(n:Int)+1⟩)(x y:Int):fieldF G (n+1) i x y=fieldF G n m x y:=by
 have C:=CA n;have p:=Pl n;unfold fieldF;by_cases a:-(2^n)<=x/\x<2^n/\-(2^n)<=y/\y<2^n
 .refine xa3 a λe f g j=>?_;rw[A0g ⟨by lia,by lia,by lia,by lia⟩,A0g ⟨e,f,g,j⟩];have c:=FF n;have s:(x+2^(n+1)).toNat=(x+2^n).toNat+2^n:=by lia
  have t:(y+2^(n+1)).toNat=(y+2^n).toNat+2^n:=by lia
  rw[s,t];exact aBb ok h o (FU e f) (FU g j)
 .rw[A0d a];split
  .rename_i z;refine xa3 z λv w A B=>?_;have b:=FU v w;have d:=FU A B;rw[OD h b d];have ne:¬quad n ((x+2^(n+1)).toNat%2^(n+1)) ((y+2^(n+1)).toNat%2^(n+1))+quad (n+1) (x+2^(n+1)).toNat (y+2^(n+1)).toNat=3:=λq=>a ((aAS (P7 A3) (P7 A3) b d).mp q);rw[k _ _ (Ca b d) (Ca (F9 _ (AL _)) (F9 _ (AL _))) ne];exact DL l ok (C5 u A4) (F9 _ (AL _)) (F9 _ (AL _))
  .rfl
theorem Gp(a:G=G0++l)(ok:GOk G):∀{n f r:Nat},n<=47->Ao G f ((n+1:Nat):Int)->FX G (n+1) f r->∃m,m<=n/\Ao G r ((m+1:Nat):Int)/\Ld G m r/\∀x y,fieldF G m r x y=fieldF G n f x y
|0,f,r,_,hl,h=>by
 have h:=h;subst h;exact⟨0,B8 _,hl,.inl Z,λ_ _=>Z⟩
|n+1,f,r,hn,hl,h=>by
 refine Cw h λqs ps d h=>?_;rcases h with ⟨j,rfl⟩|⟨c,m,b,h⟩
 .exact⟨n+1,B8 _,hl,.inr ⟨n,qs,ps,Z,d,j⟩,λ_ _=>Z⟩
 .obtain⟨k,g,i,tk,e⟩:=Gp a ok A3 ⟨_,b,by show(n:Int)+1=_;lia⟩ h;refine⟨k,V2 g,i,tk,λx y=>?_⟩;rw[e x y,RA a ok A3 d c b x y]
theorem YF(u:G=G0++r)(ok:GOk G)(C:n<=46)(h:Wid G n f w)(x y:Int):fieldF G (n+1) w x y=fieldF G n f x y:=by
 refine xe5 h.ex λq a b c d s=>CM s λH I K L m v z A t=>xa t λB E=>?_;have i:=ER u (n:=n) (C5 C A4);have o:∀{p:Nat}{l:I_},G[p]?=n_ ⟨l,(n:Int)+1⟩->Ao G p ((n+1:Nat):Int):=λ{p l} e=>⟨_,e,by show(n:Int)+1=_;lia⟩
 have D:Pd G n w (f4 H I K L) (λk j=>if j+k=3 then f4 a b c d k else bareN n):=by
  refine⟨⟨_,E,Z,by show(n:Int)+2=_;lia,o v,o z,o A,o B⟩,λk F=>?_⟩
  match k,F with
  |0,_=>exact⟨_,v,Z,Z,i,i,i,m.hx⟩
  |1,_=>exact⟨_,z,Z,Z,i,i,m.hy,i⟩
  |2,_=>exact⟨_,A,Z,Z,i,m.hz,i,i⟩
  |3,_=>exact⟨_,B,Z,Z,m.hw,i,i,i⟩
 have l:=m.lev;have ps:=m.ps;refine RA u ok C D (λk j _ _ ne=>A0d ne) ?_ x y;rw[m.g];cases q with
 |mk N M=>cases ps;cases l;rfl
theorem Jd(a:G=G0++r)(ok:GOk G):∀{k w:Nat},n+k<=46->OF G n f k w->∀x y,fieldF G (n+k) w x y=fieldF G n f x y
|0,w,_,h,x,y=>by
 have h:=h;subst h;rfl
|k+1,w,hk,h,x,y=>by
 refine xea h λu b c=>?_;rw[show n+(k+1)=n+k+1 by lia,YF a ok A3 c x y];exact Jd a ok A3 b x y
theorem Us(c:G=G0++o)(ok:GOk G){n f s r k w i:Nat}(d:s<8)(h:Mo G n f X Y s r k w i):∃m,m<=40/\Ao G r ((m+1:Nat):Int)/\Ld G m r/\∀x y,fieldF G m r x y=if x=X/\y=Y then s else fieldF G n f x y:=by
 have le:=h.le;have b:=h.rep.lev ok d;refine Ec (Gp c ok (C5 le A4) b h.tr) λm j l p g=>⟨m,C5 j le,l,p,λx y=>?_⟩
 rw[g x y,<-Jd c ok (C5 le A4) h.wid x y];refine xa3 (Yh h.li) λe b2 B C=>xa3 h.li λD E F H=>?_;unfold fieldF;split
 .rename_i z;refine xa3 z λt u v A=>?_;rw[Uk ok d e b2 (FU t u) (FU v A) h.rep];by_cases a:x=X/\y=Y
  .rw[A0g a,A0g ⟨by rw[a.1],by rw[a.2]⟩]
  .rw[A0d a,A0d λq=>a ⟨by lia,by lia⟩]
 .rename_i z;rw[A0d λq=>z ⟨by lia,by lia,by lia,by lia⟩]
theorem UM{G r:Gv}(a:G=G0++r)(ok:GOk G){n i:Nat}(b:n<=48)(h:Ao G i (n:Int))(ne:i≠bareN n):∃x y,x<2^n/\y<2^n/\CW G n i x y≠0:=by
 refine A1d λz=>ne (Mi ok h (ER a b) λx y c d=>?_);rw[DL a ok b c d];exact A1d λq=>z ⟨x,y,c,d,q⟩
theorem TF{G r:Gv}(I:G=G0++r)(ok:GOk G){m f:Nat}(S:m<=46)(h:Ld G (m+1) f):∃x y:Int,¬(-(2^m)<=x/\x<2^m/\-(2^m)<=y/\y<2^m)/\fieldF G (m+1) f x y≠0:=by
 rcases h with h|⟨a,qs,ps,e,t,O⟩
 .lia
 .have:a=m:=by lia
  subst this;have:∃k j,k<4/\j<4/\j+k≠3/\ps k j≠bareN a:=by
   refine A1d λz=>O λk j g d ne=>A1d λq=>z ⟨k,j,g,d,ne,q⟩
  apply Br;intro w c;refine Ep this λk j g d ne b=>?_;obtain⟨T,nk⟩:=t.sub k g;apply c;clear c w;have N:Ao G (ps k j) (a:Int):=by
   have:=(nk.nat d).2;rw[LS (ps k) d]at this;exact this
  refine AS (UM I ok A3 N b) λu v L M K=>xa4 (Fn d L M) λA B o C D=>xa4 (Fn (n:=a+1) g A B) λp b2 s i l=>?_;generalize Q:u+2^a*(j%2)+2^(a+1)*(k%2)=X at *
  generalize R:v+2^a*(j/2)+2^(a+1)*(k/2)=Y at *
  have P:=FF (a+1);have E:=FF (a+2);rw[(CA (a+1))]at E;refine⟨(X:Int)-2^(a+1),(Y:Int)-2^(a+1),λz=>ne ?_,?_⟩
  .have:=(aAS (X:=X) (Y:=Y) A3 A3 p b2).mpr z;rw[s,i,l,o]at this;exact this
  .unfold fieldF;rw[A0g ⟨by lia,by lia,by lia,by lia⟩,show((X:Int)-2^(a+1)+2^(a+1)).toNat=X by lia,show((Y:Int)-2^(a+1)+2^(a+1)).toNat=Y by lia,OD t p b2,s,i,l,o];have F:X%2^a=u:=by rw[<-EQ,i,C]
   have H:Y%2^a=v:=by rw[<-EQ,l,D]
   rw[F,H];exact K
theorem QF(j:G=G0++r)(ok:GOk G)(p:n<=47)(g:m<=47)(s:Ao G f ((n+1:Nat):Int))(c:Ao G a ((m+1:Nat):Int))(t:Ld G n f)(t':Ld G m a)(h:∀x y,fieldF G n f x y=fieldF G m a x y):n=m/\f=a:=by
 have le:∀{n m f a:Nat},m<=47->Ld G m a->(∀x y,fieldF G n f x y=fieldF G m a x y)->m<=n:=by
  intro n m f a g t' h;refine N9 λz=>?_;obtain⟨k,rfl⟩:∃k,m=k+1:=⟨m-1,by lia⟩
  refine Cw (TF j ok A3 t') λx y d b=>?_;rw[<-h x y]at b;unfold fieldF at b;split at b
  .rename_i q;have:(2:Int)^n<=2^k:=by
    have:=O9 (show 0<2 by decide) (show n<=k by lia)
    exact_mod_cast this
   exact d ⟨by lia,by lia,by lia,by lia⟩
  .exact b Z
 have l:=le g t' h;have o:=le p t λx y=>(h x y).symm;have e:n=m:=W0 o l;subst e;refine⟨Z,Mi ok s c λx y v w=>?_⟩;have u:=FF n;have i:=FF (n+1);rw[(CA n)]at i;have:=h ((x:Int)-2^n) ((y:Int)-2^n);unfold fieldF at this;rw[A0g ⟨by lia,by lia,by lia,by lia⟩,A0g ⟨by lia,by lia,by lia,by lia⟩,show((x:Int)-2^n+2^n).toNat=x by lia,show((y:Int)-2^n+2^n).toNat=y by lia]at this;exact this
def Fix:HO->Prop
|.tup _=>True
|.ins _ _ _=>True
|_=>False
def Fx(l:H_)(H H':Hp):Prop:=∀b o,H b=n_ o->(b∈l->Fix o)->H' b=n_ o
theorem Fx.refl(l:H_)(H:Hp):Fx l H H:=λ_ _ e _=>e
theorem Fx.trans{a c d:Hp}(h:Fx l a c)(f:Fx l c d):Fx l a d:=λb o e n=>f b o (h b o e n) n
theorem Ay.fx{a c:Hp}(h:Ay a c):Fx l a c:=λb o e _=>h b o e
theorem Fx.mono{a c:Hp}(h:Fx l a c)(s:∀x∈l,x∈m):Fx m a c:=λb o e n=>h b o e λz=>n (s b z)
theorem Fx.get{a c:Hp}(h:Fx l a c)(n:b∉l)(e:a b=n_ o):c b=n_ o:=h b o e λz=>absurd z n
theorem Fx.tup{l:H_}{a c:Hp}(h:Fx l a c){b:R_}{xs:List V}(e:a b=n_ (.tup xs)):c b=n_ (.tup xs):=h b _ e λ_=>True.intro
theorem aBA(e:H x=n_ o)(n:¬Fix o):Fx [x] H (upd H x o'):=λb u a f=>by
 by_cases z:b=x
 .subst z;rw[e]at a;cases a;exact absurd (f (D4.mpr Z)) n
 .rw[Ax z];exact a
theorem Fr.fx{H c:Hp}(h:Fr g H c)(at':AQ a H g G):Fx [g.lv,g.pt,g.nm] H c:=λb o e f=>by
 refine xea at'.pt λi d _=>h b o e (λz=>?_) (λz=>?_) (λz=>?_)
 .subst z;rw[at'.lv]at e;cases e;exact f B0
 .subst z;rw[d]at e;cases e;exact f B0
 .subst z;rw[at'.nm]at e;cases e;exact f B0
theorem FrQ.fx{H c:Hp}(h:FrQ g H c)(d:Be a H g G):Fx [g.am,g.bx] H c:=λb o e f=>by
 refine xea d.am λks i _=>xea d.bx λk j _=>h b o e (λz=>?_) (λz=>?_)
 .subst z;rw[i]at e;cases e;exact f B0
 .subst z;rw[j]at e;cases e;exact f B0
def DV(g:GA):List Addr:=[g.lv,g.pt,g.nm,g.br,g.am,g.bx]
theorem Be.fx{H c:Hp}(h:Be a H g G)(f:Fx l H c)(n:∀x∈DV g,x∉l):Be a c g G:=by
 obtain⟨at',ok,w,k,⟨ks,y,A⟩,⟨d,B,j⟩,D,E,F⟩:=h;obtain⟨I,K,⟨P,L,M⟩,N,O⟩:=at';have m:∀x∈DV g,∀o,H x=n_ o->c x=n_ o:=λx C o e=>f.get (n x C) e;refine⟨⟨f _ _ I λ_=>True.intro,m _ (by simp[DV]) _ K,⟨P,m _ (by simp[DV]) _ L,PairedM.imp (λt q z=>f.tup z) M⟩,m _ (by simp[DV]) _ N,O⟩,ok,w,m _ (by simp[DV]) _ k,⟨ks,m _ (by simp[DV]) _ y,A⟩,⟨d,m _ (by simp[DV]) _ B,j.keys,λi v e=>?_⟩,D,E,F⟩;exact Go (j.val i v e) λl b t p r s u=>⟨l,b,t,p,r,s,f.tup u⟩
theorem Ay.noneOf(s:Ay H a)(n:a x=o0):H x=o0:=by
 cases e:H x with
 |none=>rfl
 |some o=>rw[s _ _ e]at n;cases n
structure Nw(H:Hp)(l:H_):Prop where
nd:l.Nodup
s:∀x∈l,∃o,H x=n_ o
theorem Be.nw(h:Be a H g G):Nw H (DV g):=by
 obtain⟨⟨_,f,⟨u,i,_⟩,b,m⟩,_,_,j,⟨ks,c,_⟩,⟨p,d,_⟩,q,r,s⟩:=h;have t:∀{x y:R_}{o o':HO},H x=n_ o->H y=n_ o'->o≠o'->x≠y:=λ{x y o o'} e l n=>AI e l n;refine⟨?_,λx k=>?_⟩
 .simp only[DV,N4,C1,D9,A2e,A7f,A6d,T3,and_true];exact⟨⟨m,t f b A6,A1a q,t f c A6,t f d A6⟩,⟨t i b A6,A1a r,t i c A6,t i d A6⟩,⟨t b j A6,t b c A6,t b d A6⟩,⟨t j c A6,t j d A6⟩,s⟩
 .simp only[DV,C1,D9,A2e]at k;rcases k with rfl|rfl|rfl|rfl|rfl|rfl
  .exact⟨_,f⟩
  .exact⟨_,i⟩
  .exact⟨_,b⟩
  .exact⟨_,j⟩
  .exact⟨_,c⟩
  .exact⟨_,d⟩
theorem Ea(h:upd H x o y=o0):H y=o0:=by
 by_cases e:y=x
 .subst e;rw[Af]at h;cases h
 .rw[Ax e]at h;exact h
theorem Vo.none{a:Ad}{H c:Hp}{x dx:R_}{o o':HO}{g:GA}{G:Gv}{B:I_}{d:List (Key×V)}(N:Vo a (upd (upd H dx o) x o') c g G B d):∀y∈DV g,H y=o0:=λy b=>by
 refine xa5 N.fresh λe f h f4 i j=>?_;simp only[DV,C1,D9,A2e]at b;rcases b with rfl|rfl|rfl|rfl|rfl|rfl
 .exact Ea (Ea e)
 .exact Ea (Ea f)
 .exact Ea (Ea h)
 .exact Ea (Ea f4)
 .exact Ea (Ea i)
 .exact Ea (Ea j)
theorem Ay.fxn{H a c:Hp}(s:Ay H a)(f:Fx m a c)(n:∀y∈m,H y=o0):Ay H c:=λb o e=>f.get (λz=>by rw[n b z]at e;cases e) (s _ _ e)
structure CU(L:Int->Int->Prop)(b:Bx):Prop where
inn:∀u v,L u v->b.l<=u/\u<b.l+b.w/\b.t<=v/\v<b.t+b.h
le:∃v,L b.l v
to:∃u,L u b.t
ri:∃v,L (b.l+b.w-1) v
bo:∃u,L u (b.t+b.h-1)
theorem CU.one{b c:Bx}(h:CU L b)(h':CU L c):b=c:=by
 obtain⟨t,a⟩:=h.le;obtain⟨u,d⟩:=h.to;obtain⟨v,e⟩:=h.ri;obtain⟨w,f⟩:=h.bo;obtain⟨x,g⟩:=h'.le;obtain⟨y,i⟩:=h'.to;obtain⟨z,j⟩:=h'.ri;obtain⟨A,k⟩:=h'.bo;have l:=h'.inn _ _ a;have m:=h'.inn _ _ d;have n:=h'.inn _ _ e;have o:=h'.inn _ _ f;have p:=h.inn _ _ g;have q:=h.inn _ _ i;have r:=h.inn _ _ j;have s:=h.inn _ _ k;cases b;cases c;simp only at *
 congr 1<;>lia
theorem CU.congr(e:∀u v,L u v↔M u v)(h:CU L b):CU M b:=by
 obtain⟨g,a⟩:=h.le;obtain⟨i,c⟩:=h.to;obtain⟨j,d⟩:=h.ri;obtain⟨k,f⟩:=h.bo;exact⟨λu v m=>h.inn u v ((e u v).mpr m),⟨g,(e _ _).mp a⟩,⟨i,(e _ _).mp c⟩,⟨j,(e _ _).mp d⟩,⟨k,(e _ _).mp f⟩⟩
theorem UH(h:l≠[]):mnL l∈l/\∀x∈l,mnL l<=x:=by
 unfold mnL;cases e:l.min? with
 |none=>exact absurd (List.min?_eq_none_iff.mp e) h
 |some m=>exact List.min?_eq_some_iff.mp e
theorem UF(h:l≠[]):mxL l∈l/\∀x∈l,x<=mxL l:=by
 unfold mxL;cases e:l.max? with
 |none=>exact absurd (List.max?_eq_none_iff.mp e) h
 |some m=>exact List.max?_eq_some_iff.mp e
theorem Rr{bs:List Bx}(ne:bs≠[])(a:∀b∈bs,∃M:Int->Int->Prop,CU M b/\∀u v,M u v->L u v)(H:∀u v,L u v->∃b∈bs,b.l<=u/\u<b.l+b.w/\b.t<=v/\v<b.t+b.h):CU L (QB bs):=by
 have P:bs.map (·.l)≠[]:=λz=>ne (P6.mp z);have Q:bs.map (·.t)≠[]:=λz=>ne (P6.mp z);have R:(bs.map λb=>b.l+b.w)≠[]:=λz=>ne (P6.mp z);have S:(bs.map λb=>b.t+b.h)≠[]:=λz=>ne (P6.mp z);obtain⟨I,m⟩:=UH P;obtain⟨K,n⟩:=UH Q;obtain⟨N,o⟩:=UF R;obtain⟨O,p⟩:=UF S;refine xea (D0.mp I) λr d F=>xea (D0.mp K) λb2 e G=>xea (D0.mp N) λy f j=>xea (D0.mp O) λA g k=>?_;unfold QB;refine⟨λu v q=>?_,?_,?_,?_,?_⟩
 .refine Ec (H u v q) λb c T U i=>xa i λV W=>?_;have B:=m _ (D0.mpr ⟨b,c,Z⟩);have C:=n _ (D0.mpr ⟨b,c,Z⟩);have D:=o _ (D0.mpr ⟨b,c,Z⟩);have E:=p _ (D0.mpr ⟨b,c,Z⟩);dsimp only at B C D E⊢;lia
 .refine xea (a r d) λM t s=>?_;obtain⟨v,x⟩:=t.le;exact⟨v,by rw[F]at x;exact s _ _ x⟩
 .refine xea (a b2 e) λM t s=>?_;obtain⟨v,x⟩:=t.to;exact⟨v,by rw[G]at x;exact s _ _ x⟩
 .refine xea (a y f) λM t s=>?_;obtain⟨v,x⟩:=t.ri;refine⟨v,?_⟩;dsimp only at j⊢;rw[j]at x;have:=s _ _ x;rw[show mnL (bs.map (·.l))+(mxL (bs.map λb=>b.l+b.w)-mnL (bs.map (·.l)))-1=mxL (bs.map λb=>b.l+b.w)-1 by lia];exact this
 .refine xea (a A g) λM t s=>?_;obtain⟨v,x⟩:=t.bo;refine⟨v,?_⟩;dsimp only at k⊢;rw[k]at x;have:=s _ _ x;rw[show mnL (bs.map (·.t))+(mxL (bs.map λb=>b.t+b.h)-mnL (bs.map (·.t)))-1=mxL (bs.map λb=>b.t+b.h)-1 by lia];exact this
theorem Qy:∀{a:List (Option Bx)}{k:Nat},b∈Ex half k a ↔ ∃(j:Nat)(c:Bx),a[j]?=n_ (n_ c)/\b=shB half (k+j) c
|[],k=>⟨(λh=>by cases h),(λh=>by refine Cw h λj c h _=>?_;simp at h)⟩
|none::r,k=>by
 rw[show Ex half k (o0::r)=Ex half (k+1) r from rfl,Qy];constructor
 .intro f;exact Cw f λj c h e=>⟨j+1,c,by simpa using h,by rw[e,show k+1+j=k+(j+1) by lia]⟩
 .intro g;refine Cw g λj c h e=>?_;cases j with
  |zero=>simp at h
  |succ j=>exact⟨j,c,by simpa using h,by rw[e,show k+1+j=k+(j+1) by lia]⟩
|some d::r,k=>by
 rw[show Ex half k (n_ d::r)=shB half k d::Ex half (k+1) r from rfl,C1,Qy];constructor
 .rintro(h|⟨j,c,h,e⟩)
  .exact⟨0,d,Z,h⟩
  .exact⟨j+1,c,by simpa using h,by rw[e,show k+1+j=k+(j+1) by lia]⟩
 .intro i;refine Cw i λj c h e=>?_;cases j with
  |zero =>
   have h:d=c:=by simpa using h
   subst h;exact .inl e
  |succ j=>exact .inr ⟨j,c,by simpa using h,by rw[e,show k+1+j=k+(j+1) by lia]⟩
def Lv(G:Gv)(n i:Nat)(u v:Int):Prop:=∃a b:Nat,u=a/\v=b/\a<2^n/\b<2^n/\CW G n i a b≠0
theorem Yf{q:Sq}{a b c d:Nat}(t:IR G n i q a b c d)(u v:Int):Lv G (n+1) i u v ↔ ∃k,k<4/\Lv G n (f4 a b c d k) (u-2^n*((k:Int)%2)) (v-2^n*((k:Int)/2)):=by
 have j:=FF n;constructor
 .intro h;refine Dx h λx y l m f g ne=>?_;clear h;subst l;subst m;rw[BM t f g]at ne;have H:=Cd f;have I:=Cd g;refine⟨quad n x y,Ca f g,x%2^n,y%2^n,?_,?_,F9 _ (AL n),F9 _ (AL n),ne⟩
  .have e:=O0 x (2^n);have o:((quad n x y:Nat):Int)%2=((x/2^n:Nat):Int):=by
    unfold quad;generalize x/2^n=A at *
    generalize y/2^n=B at *
    lia
   rw[o,<-j,<-P2];lia
  .have e:=O0 y (2^n);have o:((quad n x y:Nat):Int)/2=((y/2^n:Nat):Int):=by
    unfold quad;generalize x/2^n=A at *
    generalize y/2^n=B at *
    lia
   rw[o,<-j,<-P2];lia
 .intro p;obtain⟨k,D,x,y,E,F,f,g,ne⟩:=p;refine xa4 (Fn D f g) λr s w z C=>⟨x+2^n*(k%2),y+2^n*(k/2),?_,?_,r,s,?_⟩
  .rw[O7,P2,j,show((k%2:Nat):Int)=(k:Int)%2 from rfl];lia
  .rw[O7,P2,j,show((k/2:Nat):Int)=(k:Int)/2 from rfl];lia
  .rw[BM t r s,w,z,C];exact ne
theorem Rv{L:Int->Int->Prop}{b:Bx}{half:Int}{k:Nat}(h:CU L b):CU (λu v=>L (u-half*((k:Int)%2)) (v-half*((k:Int)/2))) (shB half k b):=by
 obtain⟨a,f⟩:=h.le;obtain⟨c,g⟩:=h.to;obtain⟨d,i⟩:=h.ri;obtain⟨e,j⟩:=h.bo;unfold shB;generalize half*((k:Int)%2)=p;generalize half*((k:Int)/2)=q;refine⟨λu v m=>?_,⟨a+q,?_⟩,⟨c+p,?_⟩,⟨d+q,?_⟩,⟨e+p,?_⟩⟩
 .have:=h.inn _ _ m;dsimp only;lia
 .show L (b.l+p-p) (a+q-q);rw[T7,T7];exact f
 .show L (c+p-p) (b.t+q-q);rw[T7,T7];exact g
 .show L (b.l+p+b.w-1-p) (d+q-q);rw[T7,show b.l+p+b.w-1-p=b.l+b.w-1 by lia];exact i
 .show L (e+p-p) (b.t+q+b.h-1-q);rw[T7,show b.t+q+b.h-1-q=b.t+b.h-1 by lia];exact j
theorem Mm(ok:GOk G):∀{n i:Nat}{b:Bx},Ao G i (n:Int)->Cj G n i=n_ b->CU (Lv G n i) b
|0,i,b,_,h=>by
 have h:(if i=0 then o0 else n_ (⟨0,0,1,1⟩:Bx))=n_ b:=h;by_cases z:i=0
 .rw[A0g z]at h;cases h
 .rw[A0d z]at h;cases h;have F:Lv G 0 i 0 0:=⟨0,0,Z,Z,by decide,by decide,z⟩
  refine⟨λu v m=>?_,⟨0,F⟩,⟨0,F⟩,⟨0,F⟩,⟨0,F⟩⟩;refine Dx m λx y H p s w _=>?_;clear m;subst H;subst p;have s:x<1:=s;have w:y<1:=w;dsimp only;lia
|n+1,i,b,l,h=>by
 refine xe5 (BI ok l) λq a B c d g=>?_;rw[Gn g]at h;have C:∀k,k<4->[Cj G n a,Cj G n B,Cj G n c,Cj G n d][k]?=n_ (Cj G n (f4 a B c d k)):=λk f=>by
  match k,f with
  |0,_=>rfl
  |1,_=>rfl
  |2,_=>rfl
  |3,_=>rfl
 have A:∀e,e∈Ex (2^n) 0 [Cj G n a,Cj G n B,Cj G n c,Cj G n d] ↔ ∃k o,k<4/\Cj G n (f4 a B c d k)=n_ o/\e=shB (2^n) k o:=λe=>by
  rw[Qy];constructor
  .intro D;refine Cw D λj P M p=>?_;clear D;subst p;have O:j<4:=(B9.mp M).1;rw[C j O]at M;exact⟨j,P,O,A1f M,by rw[N7]⟩
  .intro E;refine AS E λk o f I r=>?_;clear E;subst r;exact⟨k,o,by rw[C k f,I],by rw[N7]⟩
 unfold QU at h;cases L:Ex (2^n) 0 [Cj G n a,Cj G n B,Cj G n c,Cj G n d]with
 |nil=>rw[L]at h;cases h
 |cons S X =>
  rw[L]at h;have h:=A1f h;rw[L]at A;subst h;refine Rr B0 (λe R=>?_) λu v m=>?_
  .refine AS ((A e).mp R) λk o f I r=>?_;subst r;refine⟨_,Rv (Mm ok (g.nat f).2 I),λu v m=>(Yf g u v).mpr ⟨k,f,m⟩⟩
  .refine xea ((Yf g u v).mp m) λk f m=>?_;cases K:Cj G n (f4 a B c d k)with
   |none =>
    have Q:=(Mn ok n _ (g.nat f).2).mp K;exact Dx m λx y _ _ s w ne=>absurd (cell_none ok (g.nat f).2 Q s w) ne
   |some o =>
    have t:=Rv (half:=2^n) (k:=k) (Mm ok (g.nat f).2 K);exact⟨_,(A _).mpr ⟨k,o,f,K,Z⟩,t.inn u v m⟩
where cell_none {G:Gv} (ok:GOk G):∀{n i x y:Nat},Ao G i (n:Int)->Eo G n i=0->x<2^n->y<2^n->CW G n i x y=0
|0,i,x,y,_,h,_,_=>by
 have h:(if i=0 then(0:Int)else 1)=0:=h;show i=0;by_cases z:i=0
 .exact z
 .rw[A0d z]at h;lia
|n+1,i,x,y,l,h,s,w=>by
 refine xe5 (BI ok l) λq a b c d g=>?_;have e:=Mh g;have e:Eo G (n+1) i=Eo G n a+(Eo G n b+(Eo G n c+(Eo G n d+0))):=e;have T:=Gf G n a;have U:=Gf G n b;have V:=Gf G n c;have W:=Gf G n d;have N:=Ca s w;rw[BM g s w];refine cell_none ok (g.nat N).2 ?_ (F9 _ (AL n)) (F9 _ (AL n));generalize quad n x y=k at N
 match k,N with
 |0,_=>show Eo G n a=0;lia
 |1,_=>show Eo G n b=0;lia
 |2,_=>show Eo G n c=0;lia
 |3,_=>show Eo G n d=0;lia
seal L2.PA L2.PE L2.PS L2.PSs L2.PT L2.PW
theorem UL(x y:Int):Lv G (n+1) f (x+2^n) (y+2^n)↔fieldF G n f x y≠0:=by
 have c:=FF n;have e:=Mu n;constructor
 .intro a;refine Dx a λu v i j k l ne=>?_;unfold fieldF;rw[A0g ⟨by lia,by lia,by lia,by lia⟩,show(x+2^n).toNat=u by lia,show(y+2^n).toNat=v by lia];exact ne
 .intro ne;unfold fieldF at ne;split at ne
  .rename_i z;exact xa3 z λb d g h=>⟨(x+2^n).toNat,(y+2^n).toNat,by lia,by lia,FU b d,FU g h,ne⟩
  .exact absurd Z ne
def mvB(r:Int)(b:Bx):Bx:=⟨b.l+-r,b.t+-r,b.w,b.h⟩
theorem Ia(ok:GOk G)(l:Ao G f ((n+1:Nat):Int))(h:Cj G (n+1) f=n_ b):CU (λx y=>fieldF G n f x y≠0) (mvB (2^n) b):=by
 have t:=Mm ok l h;obtain⟨j,a⟩:=t.le;obtain⟨k,c⟩:=t.to;obtain⟨g,d⟩:=t.ri;obtain⟨i,e⟩:=t.bo;have go:∀{u v:Int},Lv G (n+1) f u v->fieldF G n f (u+-(2^n)) (v+-(2^n))≠0:=λ{u v} m=>(UL _ _).mp (by rw[show u+-(2^n)+2^n=u by lia,show v+-(2^n)+2^n=v by lia];exact m);unfold mvB;refine⟨λx y m=>?_,⟨_,go a⟩,⟨_,go c⟩,⟨g+-(2^n),?_⟩,⟨i+-(2^n),?_⟩⟩
 .have:=t.inn _ _ ((UL x y).mpr m);dsimp only;lia
 .have:=go d;rw[show b.l+b.w-1+-(2^n)=b.l+-(2^n)+b.w-1 by lia]at this;exact this
 .have:=go e;rw[show b.t+b.h-1+-(2^n)=b.t+-(2^n)+b.h-1 by lia]at this;exact this
theorem Qn(ok:GOk G)(l:Ao G f ((n+1:Nat):Int))(h:Cj G (n+1) f=o0)(x y:Int):fieldF G n f x y=0:=by
 unfold fieldF;split
 .rename_i z;exact Mm.cell_none ok l ((Mn ok _ _ l).mp h) (FU z.1 z.2.1) (FU z.2.2.1 z.2.2.2)
 .rfl
section
variable{P:N_}{w:Q_}{K:O_}{mg:C_}{n8:T_}{a:Ad}
inductive YA(a:Ad)(vs:List V)(H:Hp)(Q:VK):Prop
|mk (g:GA) (G:Gv) (f n:Nat) (_:vs=[.ref g.p,.int f]) (_:Be a H g G) (_:Ao G f ((n+1:Nat):Int)) (_:n<48) (_:G.length<8000000) (_:(Cj G (n+1) f=o0->∀H',FrQ g H H'->Be a H' g G->Q .non H')) (_:∀b,Cj G (n+1) f=n_ b->∀t H',FrQ g H H'->Be a H' g G->Rk H' t (mvB (2^n) b)->Q (.ref t) H'):YA a vs H Q
def Ni(a:Ad):Sp:=λvs H Q _=>YA a vs H Q
theorem aBn(F:Fun K "box_of" "box_of" Qb f fd)(T:Top K mg a)(B:Co P w K mg n8 CX0 101 a.N1 "span" LP (Vv a))(z:Cal P w K mg n8 CX0 4 "reach_of" VQ (Je a))(y:Cal P w K mg n8 CX0 1 "shifted_box" QV LW):AM P w K mg n8 CX0 102 f fd VQ (Ni a):=by
 refine F.ok NZ D_9 λC A m s H vs Q E e h=>?_
 obtain⟨g,G,r,n,rfl,u,v,k,few,M,N⟩:=h;refine⟨_,(Ae (Am (i:=2) NZ.nd Z O_9 (AK (pv 0) B (rm e) Aq (Aa (pv 1) Ab))) (Ae (AO (AA El (pv 2) Cg (AD _)) (Ah (Au Cg)) AB) (Ae (Am (i:=3) NZ.nd Z O_9 (Ar z (rm e) Z Aq (Aa (pv 0) (Aa (pv 1) Ab)))) (Ah (Au (Ar y (rm e) Z Aq (Aa (pv 2) (Aa (EI CZ (pv 3)) (Aa (EI CZ (pv 3)) Ab))))))))),?_⟩;refine xq1 Z ⟨g.p,g.dx,(xq1 Z ⟨u.at'.hp,aCg g,(xq1 Z ⟨g,G,r,n+1,Z,u,v,D3 few A4,λI q d c=>?_,λb D t q d c L=>?_⟩)⟩)⟩
 .exact xq1 Z ⟨Z,(xq1 Z (BR (M I q d c)))⟩
 .refine xq1 Z ⟨Z,(xq1 Z (Ba ?_))⟩;refine xw2 Z Z ⟨g,G,r,n,Z,c.at',v,k,?_⟩;refine xw3 Z Z Z (xw2 Z Z ⟨t,b,_,_,Z,L,λt' j=>?_⟩);have x:=AH (o:=.tup [.int (b.l+-(2^n)),.int (b.t+-(2^n)),.int b.w,.int b.h]) j;exact N b D t' _ (d.trans (Ay.frq x)) (c.same x) Af
end
end J
namespace J
open PySem L2
theorem aDp(ok:GOk G):∀{n i x y:Nat},Ao G i (n:Int)->x<2^n->y<2^n->cel G n i x y=CW G n i x y
|0,_,_,_,_,_,_=>rfl
|n+1,i,x,y,h,hx,hy=>by
 refine xe5 (BI ok h) λq a b c d f=>?_;rw[BM f hx hy];have p:=AL n;have j:x/2^n<2:=Nat.div_lt_of_lt_mul (by rw[L6]at hx;exact hx);have k:y/2^n<2:=Nat.div_lt_of_lt_mul (by rw[L6]at hy;exact hy);have e:qO G i ((x/2^n)%2+2*((y/2^n)%2))=f4 a b c d (quad n x y):=by
  have:=(f.nat (Ca hx hy)).1;unfold qO;rw[f.g,N8 j,N8 k];show(q.parts.getD (quad n x y) 0).toNat=_;rw[D7,this];rfl
 show cel G n (qO G i ((x/2^n)%2+2*((y/2^n)%2))) x y=_;rw[e,<-aDp ok (f.nat (Ca hx hy)).2 (F9 _ p) (F9 _ p)];have:=To G n (f4 a b c d (quad n x y)) (x%2^n) (y%2^n) (x/2^n) (y/2^n);rw[Nat.mod_add_div,Nat.mod_add_div]at this;exact this
theorem NN{α β:Type}(f:α->List β)(m:Nat):∀l:List α,(∀x∈l,(f x).length<=m)->(l.flatMap f).length<=l.length*m
|[],_=>by simp
|a::l,h=>by
 have:=NN f m l λx b=>h x (C9 _ b);have:=h a C8;rw[K9,C6,F0,K6];lia
structure ZS(a:Ad)(H:Hp)(g:GA)(G:Gv)(Κ:KTy)(N b:Nat)(p dx mem pr:R_)(r:AC)(m:MA):Prop where
jz:JZ a H g G Κ N b p dx mem pr r m
fu:Be a H g G
na:g.am∉m.ds
nb:g.bx∉m.ds
def FrZ(g:GA)(m:MA)(H H':Hp):Prop:=∀b o,H b=n_ o->b∉[g.lv,g.pt,g.nm,g.am,g.bx,m.kc]->b∉m.ds->H' b=n_ o
section
variable{a:Ad}{H H' H1 H2 H3:Hp}{g:GA}{G G':Gv}{Κ:KTy}{N b i:Nat}{p dx mem pr:R_}{r:AC}{m:MA}
theorem FrZ.trans(h:FrZ g m H1 H2)(k:FrZ g m H2 H3):FrZ g m H1 H3:=λb o e c d=>k b o (h b o e c d) c d
theorem Ay.z(s:Ay H H'):FrZ g m H H':=λb o e _ _=>s b o e
theorem Fr.z(f:Fr g H H'):FrZ g m H H':=λb o e c _=>f b o e (λz=>c (by simp[z])) (λz=>c (by simp[z])) (λz=>c (by simp[z]))
theorem FrQ.z(f:FrQ g H H'):FrZ g m H H':=λb o e c _=>f b o e (λz=>c (by simp[z])) (λz=>c (by simp[z]))
theorem FrJ.z(f:FrJ g m H H'):FrZ g m H H':=λb o e c d=>f b o e (λz=>c (by simp[z])) (λz=>c (by simp[z])) (λz=>c (by simp[z])) (λz=>c (by simp[z])) d
theorem ZS.same(h:ZS a H g G Κ N b p dx mem pr r m)(s:Ay H H'):ZS a H' g G Κ N b p dx mem pr r m:=⟨h.jz.same s,h.fu.same s,h.na,h.nb⟩
theorem ZS.mono{c:Nat}(h:ZS a H g G Κ N b p dx mem pr r m)(e:b<=c):ZS a H g G Κ N c p dx mem pr r m:=⟨h.jz.mono e,h.fu,h.na,h.nb⟩
theorem ZS.fr(h:ZS a H g G Κ N b p dx mem pr r m)(f:Fr g H H')(c:Be a H' g G')(go:AJ G G' i):ZS a H' g G' Κ N (b+i) p dx mem pr r m:=⟨h.jz.fr f c.at' go,c,h.na,h.nb⟩
theorem ZS.frQ(h:ZS a H g G Κ N b p dx mem pr r m)(f:FrQ g H H')(k:Be a H' g G):ZS a H' g G Κ N b p dx mem pr r m:=by
 have c:=h.jz.jw;have j:∀{x:R_}{o:HO},H x=n_ o->(∀ks,o≠.dK ks)->H' x=n_ o:=λ{x o} e n=>f _ _ e (h.fu.ne_am e n).1 (h.fu.ne_am e n).2;have v:∀d∈m.ds,∀o,H d=n_ o->H' d=n_ o:=λd u o e=>f _ _ e (λz=>h.na (z▸u)) (λz=>h.nb (z▸u));refine xea c.me.ce λB y _=>?_;have q:=c.me.kp c.ok (AJ.refl c.ok) λx o e w=>by
  rcases w with z|z|z|z
  .subst z;exact j e (by rw[c.me.tp]at e;cases e;intro ks z;cases z)
  .subst z;exact j e (by rw[c.me.l]at e;cases e;intro ks z;cases z)
  .exact v x z o e
  .subst z;exact j e (by rw[y]at e;cases e;intro ks z;cases z)
 obtain⟨A,t⟩:=h.jz.cn;refine⟨⟨⟨k.at',c.ok,c.bs,k.br,c.nbr,j c.hp (by intro ks z;cases z),c.ru.kp λx o e n=>j e (by intro ks z;rw[z]at n;cases n),c.rok,c.rest,q⟩,A,t.kp (i:=0) c.ok (AJ.refl c.ok) v λs e=>⟨s,j e (by intro ks z;cases z),B8 _⟩⟩,k,h.na,h.nb⟩
theorem ZS.aft(h:ZS a H g G Κ N b p dx mem pr r m)(f:FrJ g m H H')(k:JZ a H' g G' Κ N b p dx mem pr r m)(go:AJ G G' i):ZS a H' g G' Κ N b p dx mem pr r m:=by
 have B:=h.jz.jw;refine⟨k,?_,h.na,h.nb⟩;obtain⟨at',ok,⟨S,K⟩,E,⟨ks,L,M⟩,⟨s,O,A⟩,P,Q,R⟩:=h.fu;refine xea at'.pt λus C _=>xea B.me.ce λT w _=>?_;have u:∀{x:R_}{o:HO},H x=n_ o->(∀ks,o≠.dK ks)->x∉m.ds:=λ{x o} e n z=>by
  obtain⟨j,q⟩:=M5 z;refine xea (B.me.sq j x q) λU d _=>?_;rw[e]at d;cases d;exact n _ Z
 obtain⟨t,I⟩:=go.pre;have dk:∀{x:R_}{ks:List (Key×V)},H x=n_ (.dK ks)->x∉m.ds->H' x=n_ (.dK ks):=λ{x ks} e n=>f _ _ e (AI e at'.lv A6) (AI e C A6) (AI e at'.nm A6) (AI e w A6) n;refine⟨k.jw.gr,go.ok,⟨S++t,by rw[I,K,U1]⟩,k.jw.br,⟨ks,dk L h.na,M.app ok go⟩,⟨s,dk O h.nb,A.keys.app go.le,λi v e=>?_⟩,P,Q,R⟩;exact Go (A.val i v e) λl D t y d F c=>⟨l,D,t,go.lev y,by rw[Jb ok go l i y];exact d,F,f _ _ c (AI c at'.lv A6) (AI c C A6) (AI c at'.nm A6) (AI c w A6) (u c (by intro ks z;cases z))⟩
theorem ZS.keep(h:ZS a H g G Κ N b p dx mem pr r m)(f:FrZ g m H H')(e:H x=n_ o)(k:∀xs,o≠.lst xs)(l:∀ks,o≠.dK ks)(n:∀ks,o≠.dT ks):H' x=n_ o:=by
 have d:=h.jz.jw;refine xea h.fu.at'.pt λus u _=>xea d.me.ce λv s _=>?_;have q:=h.fu.ne_am e l;refine f _ _ e (λz=>?_) (λz=>?_)
 .simp only[C1,D9,A2e]at z;rcases z with z|z|z|z|z|z
  .exact AI e h.fu.at'.lv (k _) z
  .exact AI e u (k _) z
  .exact AI e h.fu.at'.nm (n _) z
  .exact q.1 z
  .exact q.2 z
  .exact AI e s (n _) z
 .obtain⟨j,c⟩:=M5 z;exact xea (d.me.sq j x c) λw t _=>AI e t (l _) Z
theorem ZS.new(h:ZS a H g G Κ N b p dx mem pr r m)(n:H x=o0):x∉[g.lv,g.pt,g.nm,g.am,g.bx,m.kc]/\x∉m.ds:=by
 have d:=h.jz.jw;refine xea h.fu.at'.pt λus o _=>xea d.me.ce λq e _=>xea h.fu.am λks k _=>xea h.fu.bx λs l _=>⟨λz=>?_,λz=>?_⟩
 .simp only[C1,D9,A2e]at z;rcases z with rfl|rfl|rfl|rfl|rfl|rfl
  .rw[h.fu.at'.lv]at n;cases n
  .rw[o]at n;cases n
  .rw[h.fu.at'.nm]at n;cases n
  .rw[k]at n;cases n
  .rw[l]at n;cases n
  .rw[e]at n;cases n
 .obtain⟨j,c⟩:=M5 z;refine xea (d.me.sq j x c) λt f _=>?_;rw[f]at n;cases n
end
theorem JW.putL{p dx mem i x:R_}(h:JW a H g G N M p dx mem i r m)(f:H x=n_ (.lst xs))(q:x≠g.lv)(s:x≠g.pt)(t:x≠g.br)(u:x≠m.l):JW a (upd H x o) g G N M p dx mem i r m:=by
 have c:∀{b v},H b=n_ v->(∀l,v≠.lst l)->upd H x o b=n_ v:=λ{b v} e n=>by rw[Ax (AI e f (n _))];exact e
 refine⟨h.gr.put f q s,h.ok,h.bs,by rw[Ax (A1a t)];exact h.br,h.nbr,c h.hp B1,h.ru.kp λb o e n=>c e λl z=>(by rw[z]at n;cases n),h.rok,h.rest,h.me.kp h.ok (AJ.refl h.ok) λb o e w=>?_⟩;rcases w with z|z|z|z
 .have d:=h.me.tp;rw[<-z,e]at d;cases d;exact c e B1
 .rw[z]at e⊢;rw[Ax (A1a u)];exact e
 .obtain⟨j,k⟩:=M5 z;refine xea (h.me.sq j b k) λA d _=>?_;rw[e]at d;cases d;exact c e B1
 .refine xea h.me.ce λy d _=>?_;rw[z]at e⊢;rw[e]at d;cases d;exact c e B1
structure ApZ(g:GA)(m:MA)(x:R_):Prop where
n0:x∉[g.lv,g.pt,g.nm,g.am,g.bx,m.kc]
n1:x∉m.ds
n2:x≠g.br
n3:x≠m.l
section
variable{a:Ad}{H H':Hp}{g:GA}{G G':Gv}{Κ:KTy}{N b i:Nat}{p dx mem pr:R_}{r:AC}{m:MA}
theorem ZS.ap(h:ZS a H g G Κ N b p dx mem pr r m)(n:H x=o0):ApZ g m x:=by
 obtain⟨c,d⟩:=h.new n;refine⟨c,d,λz=>?_,λz=>?_⟩
 .rw[z,h.fu.br]at n;cases n
 .rw[z,h.jz.jw.me.l]at n;cases n
theorem ZS.putL(h:ZS a H g G Κ N b p dx mem pr r m)(j:H x=n_ (.lst xs))(ap:ApZ g m x):ZS a (upd H x o) g G Κ N b p dx mem pr r m:=by
 have k:x≠g.lv:=λz=>ap.n0 (by simp[z]);have pt:x≠g.pt:=λz=>ap.n0 (by simp[z]);obtain⟨f,c⟩:=h.jz.cn;refine⟨⟨h.jz.jw.putL j k pt ap.n2 ap.n3,f,c.kp (i:=0) h.jz.jw.ok (AJ.refl h.jz.jw.ok) (λd l o' e=>?_) λn e=>⟨n,?_,B8 _⟩⟩,h.fu.put j k pt ap.n2,h.na,h.nb⟩
 .rw[Ax (λz:d=x=>ap.n1 (z▸l))];exact e
 .rw[Ax (AI e j A6)];exact e
end
theorem Th(ok:GOk G)(c:Ao G f ((n+1:Nat):Int))(a:x<2^(n+1))(b:y<2^(n+1)):CS G (n+1) f x y=(fieldF G n f ((x:Int)-2^n) ((y:Int)-2^n):Nat):=by
 unfold CS fieldF;have p:((2^(n+1):Nat):Int)=2^n+2^n:=by rw[N6];exact CA n
 rw[A0g A3,aDp ok c a b];congr 2<;>lia
seal L2.PA L2.PE L2.PS L2.PSs L2.PT L2.PW
section
variable{P:N_}{w:Q_}{K:O_}{mg:C_}{n8:T_}{a:Ad}
inductive aDX(a:Ad)(vs:List V)(H:Hp)(Q:VK):Prop
|mk (g:GA) (G:Gv) (f n e:Nat) (_:vs=[.ref g.p,.int f,.int e]) (_:AQ a H g G) (_:Ao G f ((n+1:Nat):Int)) (_:n<=40) (_:e<=40) (_:∀l:Nat,l<=41->n<=l->e<=l->2^n+2^e<=2^l->Q (.int ((l+2:Nat):Int)) H):aDX a vs H Q
def aEA(a:Ad):Sp:=λvs H Q _=>aDX a vs H Q
theorem aE9(F:Fun K "level_for" "level_for" Lj f fd)(T:Top K mg a)(I:Cal P w K mg n8 CX0 4 "reach_of" VQ (Je a)):AM P w K mg n8 CX0 5 f fd LA (aEA a):=by
 refine F.ok FZ D_9 λL A x s H vs Q E U h=>?_
 obtain⟨g,G,l,n,e,rfl,S,X,c,t,k⟩:=h;refine⟨_,(Ae (Am (i:=3) FZ.nd Z O_9 (AE AR (Ar I (rm U) Z Aq (Aa (pv 0) (Aa (pv 1) Ab))) (AE Om Ac (pv 2)))) (Ae (Am (i:=4) FZ.nd Z O_9 Ac) (Ae (Lq A1c (AA IZ (AE Om Ac (AE Bq (pv 4) Ac)) (pv 3) (AD _)) (Ah (Am (i:=4) FZ.nd Z O_9 (AE AR (pv 4) Ac)))) (Ah (Au (pv 4)))))),?_⟩;refine Bc ?_;intro r1 s1 k1 u E1;refine xw2 Z Z ⟨g,G,l,n,Z,S,X,D6 c A4,?_⟩;refine xwb Z Z Z ⟨⟨O4 _,by lia,by decide⟩,(xq2 Z Z ?_)⟩;have M:(2:Int)^n+1*2^(e:Int).toNat=((2^n+2^e:Nat):Int):=by
  rw[M4,Int.one_mul,O7,N6,N6];rfl
 have pn:2^n<=2^40:=O9 A4 c;have pe:2^e<=2^40:=O9 A4 t;have aa:=AL n;have Y:=AL e;rw[show(λi j:Int=>V.int (i+j)) (2^n) ((λi j:Int=>i*2^j.toNat) 1 (e:Int))=V.int ((2^n+2^e:Nat):Int)from A2c V.int M];generalize O:2^n+2^e=R at k;have D:R<=2^41:=by rw[<-O];lia
 refine u (Bc ?_);intro r2 s2 k2 v E2;refine v ⟨λm σ o=>∃j:Nat,σ=[n_ (.ref g.p),n_ (.int l),n_ (.int (e:Int)),n_ (.int (R:Int)),n_ (.int ((j+2:Nat):Int))]/\o=H/\j+m=41,⟨41,0,Z,Z,Z⟩,?_⟩;intro m σ o d;refine AX d λj q r W=>?_;clear d;subst q;subst r;refine xwb Z Z Z (xq2 Z Z ⟨⟨by lia,by lia,by decide⟩,(xwb Z Z Z (xq1 Z ?_))⟩);have B:(1:Int)*2^(((j+2:Nat):Int)-2).toNat=((2^j:Nat):Int):=by
  rw[show(((j+2:Nat):Int)-2).toNat=j by lia,Int.one_mul,N6];rfl
 refine IN (λb=>?_) (λb=>?_)
 .have b:=A2b b;have b:=b;rw[B]at b;have m0:m≠0:=λz=>by
   subst z;have:j=41:=W;subst this;lia
  refine⟨fun σ' y=>∃C:Nat,σ'=[n_ (.ref g.p),n_ (.int l),n_ (.int (e:Int)),n_ (.int (R:Int)),n_ (.int ((C+2:Nat):Int))]/\y=o/\C+(m-1)=41,fun σ' y z=>⟨m-1,by lia,z⟩,?_⟩;have N:((j+2:Nat):Int)+1=((j+1+2:Nat):Int):=by lia
  exact xwb Z Z Z ⟨j+1,A2c (λz:Int=>[n_ (V.ref g.p),n_ (V.int l),n_ (V.int (e:Int)),n_ (V.int (R:Int)),n_ (V.int z)]) N,Z,by lia⟩
 .have b:¬(1:Int)*2^(((j+2:Nat):Int)-2).toNat<(R:Int):=λz=>b (A0e z);rw[B]at b;have le:R<=2^j:=by lia
  refine xq1 Z (k j A3 ?_ ?_ le)
  .refine N9 λz=>?_;have:2^j<2^n:=X6 A4 z;lia
  .refine N9 λz=>?_;have:2^j<2^e:=X6 A4 z;lia
inductive aGU(a:Ad)(vs:List V)(H:Hp)(Q:VK):Prop
|mk (g:GA) (G:Gv) (f n k:Nat) (_:vs=[.ref g.p,.int f,.int ((n+k+1:Nat):Int)]) (_:Be a H g G) (_:Ao G f ((n+1:Nat):Int)) (_:n+k<=46) (_:G.length<8000000) (_:∀(v:Nat)(G':Gv)(H':Hp),Fr g H H'->Be a H' g G'->AJ G G' (5*k)->OF G' n f k v->Ao G' v ((n+k+1:Nat):Int)->Q (.int v) H'):aGU a vs H Q
def aHp(a:Ad):Sp:=λvs H Q _=>aGU a vs H Q
theorem aHO(F:Fun K "widened_to" "widened_to" Jh f fd)(T:Top K mg a)(U:Co P w K mg n8 CX0 3 a.N1 "level_of" LP (Ng a))(V:Cal P w K mg n8 CX0 4 "widened" LZ (WG a)):AM P w K mg n8 CX0 5 f fd Jy (aHp a):=by
 refine F.ok Io D_9 λW A M s H vs Q E O h=>?_
 obtain⟨g,G,r,n,kk,rfl,N,hl,aa,few,k⟩:=h;refine⟨_,(Ae (Am (i:=3) Io.nd Z O_9 (pv 1)) (Ae (Lq A1c (AA IZ (AK (pv 0) U (rm O) Aq (Aa (pv 3) Ab)) (pv 2) (AD _)) (Ah (Am (i:=3) Io.nd Z O_9 (Ar V (rm O) Z Aq (Aa (pv 0) (Aa (pv 3) Ab)))))) (Ah (Au (pv 3))))),?_⟩;refine xq1 Z ⟨λm σ y=>∃(d:Gv)(c j:Nat),σ=[n_ (.ref g.p),n_ (.int r),n_ (.int ((n+kk+1:Nat):Int)),n_ (.int c)]/\Fr g H y/\Be a y g d/\AJ G d (5*j)/\j+m=kk/\Ao d c ((n+j+1:Nat):Int)/\OF d n r j c,⟨kk,G,r,0,Z,Fr.refl g H,N,AJ.refl N.ok,by lia,hl,Z⟩,?_⟩;intro m σ y x;refine CV x λd c j D fr b go v=>xa2 v λX L S=>?_;clear v;clear x;subst D;have gf:=go.few;refine xea (id L) λq eq Y=>xq1 Z ⟨g.p,g.dx,(xq1 Z ⟨b.at'.hp,Em g,(xq1 Z ⟨g,d,c,q,Z,b.at',eq,?_⟩)⟩)⟩;rw[Y];refine xwb Z Z Z (xq1 Z (IN (λu=>?_) (λu=>?_)))
 .have u:=A2b u;refine⟨fun σ' C=>∃(l:Gv)(o B:Nat),σ'=[n_ (.ref g.p),n_ (.int r),n_ (.int ((n+kk+1:Nat):Int)),n_ (.int o)]/\Fr g H C/\Be a C g l/\AJ G l (5*B)/\B+(m-1)=kk/\Ao l o ((n+B+1:Nat):Int)/\OF l n r B o,fun σ' C z=>⟨m-1,by lia,z⟩,?_⟩;refine xw2 Z Z ⟨g,d,c,n+j,Z,b,L,by lia,by lia,λo l H3 t I e R=>?_⟩;refine⟨l,o,j+1,Z,fr.trans t,b.fr t I e,(go.trans e).mono (T0 A4 _),by lia,?_,⟨c,S.app e,R⟩⟩;have:=R.lev;rw[show n+(j+1)+1=n+j+2 by lia];exact this
 .have u:¬((n+j+1:Nat):Int)<((n+kk+1:Nat):Int):=λz=>u (A0e z);have:j=kk:=by lia
  subst this;exact xq1 Z (k c d y fr b go S L)
end
end J
namespace J
open PySem L2
def sF(r:AC)(φ:D_):Int->Int->Nat:=λx y=>(Cz r (φ x y:Nat) [((φ (x-1) (y-1):Nat):Int),((φ x (y-1):Nat):Int),((φ (x+1) (y-1):Nat):Int),((φ (x-1) y:Nat):Int),((φ (x+1) y:Nat):Int),((φ (x-1) (y+1):Nat):Int),((φ x (y+1):Nat):Int),((φ (x+1) (y+1):Nat):Int)]).toNat
def sFN(r:AC):Nat->(Int->Int->Nat)->Int->Int->Nat
|0,φ=>φ
|n+1,φ=>sF r (sFN r n φ)
theorem LY(r:AC)(φ:D_)(n:Nat):∀m,sFN r (m+n) φ=sFN r m (sFN r n φ)
|0=>by rw[N7];rfl
|m+1=>by
 rw[show m+1+n=(m+n)+1 by lia];show sF r (sFN r (m+n) φ)=sF r (sFN r m (sFN r n φ));rw[LY r φ n m]
theorem WQ(r:AC):∀(k:Nat)(x y:Int),(∀u v,x-k<=u->u<=x+k->y-k<=v->v<=y+k->φ u v=ψ (u+X) (v+Y))->sFN r k φ x y=sFN r k ψ (x+X) (y+Y)
|0,x,y,h=>h x y A3 A3 A3 A3
|k+1,x,y,h=>by
 have c:∀u v,x-1<=u->u<=x+1->y-1<=v->v<=y+1->sFN r k φ u v=sFN r k ψ (u+X) (v+Y):=λu v d e f g=>WQ r k u v λa b i j l m=>h a b A3 A3 A3 A3;show sF r (sFN r k φ) x y=sF r (sFN r k ψ) (x+X) (y+Y);unfold sF;rw[c x y A3 A3 A3 A3,c (x-1) (y-1) (P5 rfl) A3 (P5 rfl) A3,c x (y-1) A3 A3 (P5 rfl) A3,c (x+1) (y-1) A3 (P5 rfl) (P5 rfl) A3,c (x-1) y (P5 rfl) A3 A3 A3,c (x+1) y A3 (P5 rfl) A3 A3,c (x-1) (y+1) (P5 rfl) A3 A3 (P5 rfl),c x (y+1) A3 A3 A3 (P5 rfl),c (x+1) (y+1) A3 (P5 rfl) A3 (P5 rfl)];rw[show x-1+X=x+X-1 by lia,show y-1+Y=y+Y-1 by lia,show x+1+X=x+X+1 by lia,show y+1+Y=y+Y+1 by lia]
theorem Ll(h:Cz r 0 BF=0):∀k,sFN r k (λ_ _=>0)=λ_ _=>0
|0=>rfl
|k+1=>by
 show sF r (sFN r k λ_ _=>0)=_;rw[Ll h k]
 funext x y
 show(Cz r ((0:Nat):Int) BF).toNat=0;rw[show((0:Nat):Int)=0 from rfl,h];rfl
theorem Lm(h:Cz r 0 BF=0){k:Nat}(z:sFN r k φ x y≠0):∃u v,x-k<=u/\u<=x+k/\y-k<=v/\v<=y+k/\φ u v≠0:=by
 refine A1d λno=>z ?_;have:=WQ r (φ:=φ) (ψ:=λ_ _=>0) (X:=0) (Y:=0) k x y λu v a b c d=>A1d λq=>no ⟨u,v,a,b,c,d,q⟩;rw[this,Ll h]
theorem aAq(h:FJ r){cell:Int}(f:0<=cell)(a:I_):0<=Cz r cell a:=by
 cases e:La r cell a with
 |none=>rw[NU e];exact f
 |some i =>
  refine xea (NT e) λc b d=>?_;rw[d];exact(h.ok c (D8 b)).makes.1
theorem Pi{r:AC}(e:FJ r){c:Nat->Nat->Int}{φ:D_}{X Y:Int}:∀(k x y:Nat),k<=x->k<=y->(∀u v:Nat,x-k<=u->u<=x+k->y-k<=v->v<=y+k->c u v=(φ ((u:Int)+X) ((v:Int)+Y):Nat))->BB r k c x y=(sFN r k φ ((x:Int)+X) ((y:Int)+Y):Nat)
|0,x,y,_,_,h=>h x y A3 A3 A3 A3
|k+1,x,y,hx,hy,h=>by
 have d:∀u v:Nat,x-1<=u->u<=x+1->y-1<=v->v<=y+1->BB r k c u v=(sFN r k φ ((u:Int)+X) ((v:Int)+Y):Nat):=λu v f g i j=>Pi e k u v A3 A3 λa b l m n o=>h a b A3 A3 A3 A3;show Cz r (BB r k c x y) [BB r k c (x-1) (y-1),BB r k c x (y-1),BB r k c (x+1) (y-1),BB r k c (x-1) y,BB r k c (x+1) y,BB r k c (x-1) (y+1),BB r k c x (y+1),BB r k c (x+1) (y+1)]=((sF r (sFN r k φ) ((x:Int)+X) ((y:Int)+Y):Nat):Int)
 unfold sF;rw[P7 (aAq e (O4 _) _)];rw[d x y (R3 _ _) (F5 _ _) (R3 _ _) (F5 _ _),d (x-1) (y-1) (B8 _) A3 (B8 _) A3,d x (y-1) (R3 _ _) (F5 _ _) (B8 _) A3,d (x+1) (y-1) A3 (B8 _) (B8 _) A3,d (x-1) y (B8 _) A3 (R3 _ _) (F5 _ _),d (x+1) y A3 (B8 _) (R3 _ _) (F5 _ _),d (x-1) (y+1) (B8 _) A3 A3 (B8 _),d x (y+1) (R3 _ _) (F5 _ _) A3 (B8 _),d (x+1) (y+1) A3 (B8 _) A3 (B8 _)];rw[show((x-1:Nat):Int)+X=x+X-1 by lia,show((y-1:Nat):Int)+Y=y+Y-1 by lia,show((x+1:Nat):Int)+X=x+X+1 by lia,show((y+1:Nat):Int)+Y=y+Y+1 by lia]
theorem aEe{G:Gv}(ok:GOk G){r:AC}(H:FJ r)(F:Cz r 0 BF=0){l e f k:Nat}(g:Ao G f ((l+1+1:Nat):Int))(jr:JR r G e f k){φ:D_}(h:∀x y,fieldF G (l+1) f x y=φ x y)(b:∀x y,φ x y≠0->-(2^l)+2^e<=x/\x+2^e<2^l/\-(2^l)+2^e<=y/\y+2^e<2^l):Ao G k ((l+1:Nat):Int)/\∀x y,fieldF G l k x y=sFN r (2^e) φ x y:=by
 refine Ec jr λa n o d s=>?_;have m:a=l:=by
  have:=n.one g;lia
 subst m;have p:((2^(a+1):Nat):Int)=2^a+2^a:=by rw[N6];exact CA a
 have t:=N6 2 a;have M:=N6 2 e;have L:((2^(a+2):Nat):Int)=2^a+2^a+(2^a+2^a):=by
  rw[N6];show(2:Int)^(a+2)=_;rw[show(2:Int)^(a+2)=2^(a+1)+2^(a+1)from CA (a+1),CA]
 have le:2^e<=2^a:=O9 A4 o;refine⟨d,λx y=>?_⟩;by_cases z:-(2^a)<=x/\x<2^a/\-(2^a)<=y/\y<2^a
 .refine xa3 z λi I j b2=>?_;have at':(fieldF G a k x y:Int)=BB r (2^e) (CS G (a+2) f) ((x+2^a).toNat+2^a) ((y+2^a).toNat+2^a):=by
   rw[<-s _ _ A3 A3,Th ok d A3 A3];congr 2<;>lia
  have c:∀u:Int,-(2^a)<=u->((((u+2^a).toNat+2^a:Nat):Int)+-(2^(a+1)))=u:=λu K=>by
   rw[CA,O7,t];lia
  rw[Pi H (φ:=φ) (X:=-(2^(a+1))) (Y:=-(2^(a+1))) _ _ _ A3 A3 (λu v A B C D=>?_),c x i,c y j]at at'
  .exact A1b at'
  .rw[Th ok g A3 A3,h];rfl
 .unfold fieldF;rw[A0d z];refine(A1d λq=>?_);refine Dx (Lm F (λw=>q w.symm)) λu v A B C D E=>?_;have:=b u v E;lia
def Kg(r:AC)(F:List (Int->Int->Nat))(T:Nat):KTy:=λl e ψ=>l<47/\((∀x y,x<2^(l+2)->y<2^(l+2)->ψ x y=0)\/∃φ∈F,∃(t:Nat)(i j:Int),t+2^e<=T/\∀x y,x<2^(l+2)->y<2^(l+2)->ψ x y=(sFN r t φ ((x:Int)+2^l*i) ((y:Int)+2^l*j):Nat))
theorem aGs{r:AC}(A:FJ r)(M:Cz r 0 BF=0)(F:List (Int->Int->Nat))(T:Nat):ClK r (Kg r F T):=by
 have p:∀l,2^(l+1)=2^l*2:=λl=>L6 ..;have w:∀l:Nat,(2:Int)^(l+1)=2^l*2:=λl=>Z6 ..;have q:∀l,2^(l+2)=2^l*2*2:=λl=>by rw[L6,L6]
 have s:∀l,2^(l+1+2)=2^l*2*2*2:=λl=>by rw[L6,L6,L6]
 have nine:∀{l e g ψ},Kg r F T (l+1) e ψ->2^g<=2^e->∀i j,i<3->j<3->Kg r F T l g λx y=>ψ (x+2^(l+1)*i) (y+2^(l+1)*j):=λ{l e g ψ} h N i j k m=>by
  have E:2^(l+1)*i<=2^(l+1)*2:=M9 _ (O3 k);have b2:2^(l+1)*j<=2^(l+1)*2:=M9 _ (O3 m);have B:=p l;have C:=q l;have D:=s l;refine⟨by have:=h.1;lia,?_⟩;rcases h.2 with z|⟨φ,b,t,a,f,L,z⟩
  .exact .inl λx y n o=>z _ _ A3 A3
  .refine .inr ⟨φ,b,t,2*a+2*(i:Int),2*f+2*(j:Int),by lia,λx y n o=>?_⟩;show ψ _ _=_;rw[z _ _ A3 A3];have d:∀(x i:Nat)(a:Int),((x+2^(l+1)*i:Nat):Int)+2^(l+1)*a=(x:Int)+2^l*(2*a+2*(i:Int)):=λx i a=>by
    rw[O7,P2,N6];show(x:Int)+2^(l+1)*(i:Int)+2^(l+1)*a=_;rw[w,K1,K4,K4];lia
   rw[d,d]
 refine⟨λh _=>nine h (B8 _),λ{l φ} h=>nine h (by rw[p];exact O6 _ _),λ{l ψ} h i j k m=>?_⟩;have E:2^(l+1)*i<=2^(l+1)*1:=M9 _ (O3 k);have b2:2^(l+1)*j<=2^(l+1)*1:=M9 _ (O3 m);have B:=p l;have C:=q l;have D:=s l;refine⟨by have:=h.1;lia,?_⟩;rcases h.2 with z|⟨φ,b,t,a,f,L,z⟩
 .refine .inl λx y n o=>?_;have:=Pi A (c:=ψ) (φ:=λ_ _=>0) (X:=0) (Y:=0) (2^l) (x+(2^(l+1)*i+2^l)) (y+(2^(l+1)*j+2^l)) A3 A3 λu v G H I K=>z u v A3 A3;rw[Ll M]at this;exact this
 .refine .inr ⟨φ,b,t+2^l,2*a+(2*(i:Int)+1),2*f+(2*(j:Int)+1),by lia,λx y n o=>?_⟩;have:=Pi A (c:=ψ) (φ:=sFN r t φ) (X:=2^(l+1)*a) (Y:=2^(l+1)*f) (2^l) (x+(2^(l+1)*i+2^l)) (y+(2^(l+1)*j+2^l)) A3 A3 λu v G H I K=>z u v A3 A3;show BB r (2^l) ψ _ _=_;rw[this,<-LY,W5];have d:∀(x i:Nat)(a:Int),((x+(2^(l+1)*i+2^l):Nat):Int)+2^(l+1)*a=(x:Int)+2^l*(2*a+(2*(i:Int)+1)):=λx i a=>by
   rw[O7,O7,P2,N6,N6];show(x:Int)+(2^(l+1)*(i:Int)+2^l)+2^(l+1)*a=_;rw[w,K1,K1,K4,K4,Int.mul_one];lia
  rw[d,d]
def wl(W T l:Nat):Nat:=(W+2*T)/2^l+5
def sg(k T W D l:Nat):Nat:=1+k*(T*(wl W T l*wl D T l))
def mg(k T W D e:Nat):Nat:=if 2^e<=T then((List.range 47).map (sg k T W D)).sum else 47
def ng(k T W D:Nat):Nat:=s47 (mg k T W D)
def aDK(ψ:D_)(l:Nat)(i j:Int):Sht:=λx y=>(ψ ((x:Int)+2^l*i) ((y:Int)+2^l*j):Nat)
abbrev Fbx:=(Int->Int->Nat)×Int×Int
def ZB(r:AC)(T W D l:Nat)(q:Fbx):List (Nat×Sht):=(List.range T).flatMap λt=>(List.range (wl W T l*wl D T l)).map λd=>(l,aDK (sFN r t q.1) l ((q.2.1-T)/2^l-3+((d%wl W T l:Nat):Int)) ((q.2.2-T)/2^l-3+((d/wl W T l:Nat):Int)))
def Yg(r:AC)(T W D:Nat)(qs:List Fbx)(e:Nat):List (Nat×Sht):=(List.range 47).flatMap λl=>(l,λ_ _=>0)::if 2^e<=T then qs.flatMap (ZB r T W D l)else []
theorem UU{α β:Type}(f:α->List β)(m:α->Nat):∀l:List α,(∀x∈l,(f x).length<=m x)->(l.flatMap f).length<=(l.map m).sum
|[],_=>by simp
|a::l,h=>by
 have:=UU f m l λx b=>h x (C9 _ b);have:=h a C8;rw[K9,C6,F8,R7];lia
theorem Ze(r:AC)(T W D:Nat)(qs:List Fbx)(e:Nat):(Yg r T W D qs e).length<=mg qs.length T W D e:=by
 unfold Yg mg;by_cases h:2^e<=T
 .rw[A0g h];simp only[A0g h];refine UU _ _ _ λl _=>?_;rw[F0];have:=NN (ZB r T W D l) (T*(wl W T l*wl D T l)) qs λq _=>by
   unfold ZB;have:=NN (λt=>(List.range (wl W T l*wl D T l)).map λd=>(l,aDK (sFN r t q.1) l ((q.2.1-T)/2^l-3+((d%wl W T l:Nat):Int)) ((q.2.2-T)/2^l-3+((d/wl W T l:Nat):Int)))) (wl W T l*wl D T l) (List.range T) λt _=>by rw[B7,O8];exact B8 _
   rw[O8]at this;exact this
  unfold sg;lia
 .rw[A0d h];simp only[A0d h];have:=NN (λl=>[((l,λ_ _=>0):Nat×Sht)]) 1 (List.range 47) λl _=>B8 _;rw[O8]at this;exact this
theorem aEs(h:Kg r F T l e φ)(q:Zw l φ ψ):Kg r F T l e ψ:=by
 refine⟨h.1,?_⟩;rcases h.2 with c|⟨d,m,t,i,j,f,c⟩
 .exact .inl λx y a b=>(q x y a b).symm.trans (c x y a b)
 .exact .inr ⟨d,m,t,i,j,f,λx y a b=>(q x y a b).symm.trans (c x y a b)⟩
theorem ZC{l T W t:Nat}{x:Nat}{i X u:Int}(y:x<2^(l+2))(w:t<=T)(p:(x:Int)+2^l*i-t<=u)(r:u<=(x:Int)+2^l*i+t)(s:X<=u)(v:u<X+W):∃d,d<wl W T l/\i=(X-T)/2^l-3+((d:Nat):Int):=by
 have a:(0:Int)<2^l:=by have:=AL l;have e:=N6 2 l;lia
 have z:((2^(l+2):Nat):Int)=2^l*4:=by rw[N6];show(2:Int)^(l+2)=_;rw[Z6,Z6];lia
 have m:(((W+2*T)/2^l:Nat):Int)=((W:Int)+2*T)/2^l:=by rw[V5,N6];rfl
 generalize j:(2:Int)^l=P at *
 generalize eq:(X-T)/P=q;have f:=Int.emod_add_mul_ediv (X-T) P;have g:=P3 (X-T) (A0a a);have h:=O5 (X-T) a;rw[eq]at f;have n:=Int.emod_add_mul_ediv ((W:Int)+2*T) P;have o:=O5 ((W:Int)+2*T) a;generalize k:((W:Int)+2*T)/P=b at *
 have lo:P*(q-4)<P*i:=by rw[Int.mul_sub];lia
 have c:P*i<P*(q+b+2):=by rw[K1,K1];lia
 have lo:=Int.lt_of_mul_lt_mul_left lo (S8 a);have c:=Int.lt_of_mul_lt_mul_left c (S8 a);refine⟨(i-q+3).toNat,?_,by lia⟩;unfold wl;lia
def InBx(F:List (Int->Int->Nat))(W D:Nat)(qs:List Fbx):Prop:=∀φ∈F,∀u v,φ u v≠0->∃X Y,(φ,X,Y)∈qs/\X<=u/\u<X+W/\Y<=v/\v<Y+D
theorem aEt{r:AC}(P:Cz r 0 BF=0){F:List (Int->Int->Nat)}{T W D:Nat}{qs:List Fbx}(M:InBx F W D qs):Nd (Kg r F T) (ng qs.length T W D):=by
 refine⟨⟨mg qs.length T W D,B8 _,λe=>⟨Yg r T W D qs e,Ze r T W D qs e,λl ψ h=>?_⟩⟩,aEs⟩;obtain⟨o,d⟩:=h;have zero:(∀x y,x<2^(l+2)->y<2^(l+2)->ψ x y=0)->∃f,(l,f)∈Yg r T W D qs e/\Zw l ψ f:=λz=>⟨λ_ _=>0,U5.mpr ⟨l,M8.mpr o,C8⟩,z⟩
 rcases d with d|⟨φ,n,t,i,j,Q,d⟩
 .exact zero d
 .by_cases z:∀x y,x<2^(l+2)->y<2^(l+2)->ψ x y=0
  .exact zero z
  .obtain⟨x,z⟩:=Classical.not_forall.mp z;obtain⟨y,z⟩:=Classical.not_forall.mp z;obtain⟨g,z⟩:=Classical.not_imp.mp z;obtain⟨k,z⟩:=Classical.not_imp.mp z;rw[d x y g k]at z;have z:sFN r t φ ((x:Int)+2^l*i) ((y:Int)+2^l*j)≠0:=λq=>z (by rw[q];rfl);refine Dx (Lm P z) λu v s w A b2 c=>Dx (M φ n u v c) λX Y m H I K L=>?_;have R:=AL e;refine xea (ZC (T:=T) (W:=W) g A3 s w H I) λb p E=>xea (ZC (T:=T) (W:=D) k A3 A b2 K L) λa O G=>?_;have N:0<wl W T l:=by unfold wl;exact Nat.succ_pos _
   have C:(b+wl W T l*a)%wl W T l=b:=by rw[S4,N8 p]
   have B:(b+wl W T l*a)/wl W T l=a:=by rw[Q8 _ _ N,O2 p,N7]
   have lt:b+wl W T l*a<wl W T l*wl D T l:=by
    have:wl W T l*(a+1)<=wl W T l*wl D T l:=M9 _ O;rw[Nat.mul_add]at this;lia
   refine⟨aDK (sFN r t φ) l i j,U5.mpr ⟨l,M8.mpr o,C9 _ ?_⟩,λx y g k=>d x y g k⟩;rw[A0g A3];refine U5.mpr ⟨_,m,U5.mpr ⟨t,M8.mpr A3,D0.mpr ⟨b+wl W T l*a,M8.mpr lt,?_⟩⟩⟩;rw[C,B];show(l,aDK (sFN r t φ) l ((X-T)/2^l-3+((b:Nat):Int)) ((Y-T)/2^l-3+((a:Nat):Int)))=_;rw[<-E,<-G]
theorem aEf(ok:GOk G){T l f e t:Nat}(a:l<47)(g:Ao G f ((l+1+1:Nat):Int))(m:φ∈F)(b:t+2^e<=T)(h:∀x y,fieldF G (l+1) f x y=sFN r t φ x y):Kg r F T l e (CS G (l+2) f):=by
 refine⟨a,.inr ⟨φ,m,t,-2,-2,b,λx y c d=>?_⟩⟩;rw[Th ok g c d,h];have e:(2:Int)^(l+1)=2^l*2:=Z6 ..;rw[e];congr 2<;>lia
seal L2.PA L2.PE L2.PS L2.PSs L2.PT L2.PW
def Vp(φ:D_)(k:Nat):Prop:=∀x y,φ x y≠0->-(2^40)+(k:Int)<=x/\x+k<2^40/\-(2^40)+(k:Int)<=y/\y+k<2^40
theorem nb1{x l w:Int}{k:Nat}(c:-2^40<=l-k)(d:l-k+(w+2*k)<=2^40)(a:l<=x)(b:x<l+w):-(2^40)+(k:Int)<=x/\x+k<2^40:=by lia
theorem nb2{l:Int}{k:Nat}(h:-(2^40)+(k:Int)<=l):-2^40<=l-k:=by lia
theorem nb3{l w:Int}{k:Nat}(h:l+w-1+k<2^40):l-k+(w+2*k)<=2^40:=by lia
theorem aBg {φ:D_} {b:Bx} (t:CU (λx y=>φ x y≠0) b) (k:Nat):Gg (b.l-k) (b.t-k) (b.w+2*k) (b.h+2*k) (2^40)↔Vp φ k:=by
 constructor
 .intro f x y h;refine xa3 f λa c d e=>xa3 (t.inn x y h) λg i j m=>?_;have q:=nb1 a d g i;exact⟨q.1,q.2,nb1 c e j m⟩
 .intro h;obtain⟨n,a⟩:=t.le;obtain⟨o,c⟩:=t.to;obtain⟨p,d⟩:=t.ri;obtain⟨r,e⟩:=t.bo;exact⟨nb2 (h _ _ a).1,nb2 (h _ _ c).2.2.1,nb3 (h _ _ d).2.1,nb3 (h _ _ e).2.2.2⟩
section
variable{P:N_}{w:Q_}{K:O_}{mg:C_}{n8:T_}{a:Ad}
inductive aDO(a:Ad)(vs:List V)(H:Hp)(Q:VK):Prop
|mk (g:GA) (G:Gv) (f n k:Nat) (_:vs=[.ref g.p,.int f,.int (k:Int)]) (_:Be a H g G) (_:Ao G f ((n+1:Nat):Int)) (_:n<48) (_:G.length<8000000) (_:Vp (fieldF G n f) k) (_:∀H',FrQ g H H'->Be a H' g G->Q .non H'):aDO a vs H Q
def aD5(a:Ad):Sp:=λvs H Q _=>aDO a vs H Q
theorem aCn(F:Fun K "check_leap" "check_leap" Jl f fd)(T:Top K mg a)(N:Cal P w K mg n8 CX0 1 "is_whole" VS Vy)(O:Cal P w K mg n8 CX0 102 "box_of" VQ (Ni a))(M:Cal P w K mg n8 CX0 1 "lies_within" QX Ru):AM P w K mg n8 CX0 103 f fd JB (aD5 a):=by
 refine F.ok Mr D_9 λS A v s H vs Q E q h=>?_
 obtain⟨g,G,U,n,k,rfl,z,D,r,few,X,C⟩:=h;refine⟨_,(Ae (AO (PW.pt (Nt (Dr (CP (Ar N (rm q) Z Aq (Aa (pv 2) Ab)))) (Jv (AA IZ (pv 2) Ac (AD _))))) (Ah Bp) AB) (Ae (Am (i:=3) Mr.nd Z O_9 (Ar O (rm q) Z Aq (Aa (pv 0) (Aa (pv 1) Ab)))) (Ah (AO (PW.pt (MR (AA SG (pv 3) Cg (AD _)) (Jw (Dr (CP (Ar M (rm q) Z Aq (AV (AT Bq (Aj Al (pv 3) Ac R_9) (pv 2) (AT Bq (Aj Al (pv 3) Ac R_9) (pv 2) (AT AR (Aj Al (pv 3) Ac R_9) (AE FT Ac (pv 2)) (AT AR (Aj Al (pv 3) Ac R_9) (AE FT Ac (pv 2)) Ab)))) (Aa (Cu Z T.aAO) Ab)))))))) (Ah Bp) AB)))),?_⟩;refine Bc ?_;intro r1 s1 k1 p Y;refine xq1 Z ⟨(k:Int),Z,o4,Z,Ba ?_⟩;refine xwb Z Z Z (xq1 Z ?_);rw[A0f A3];refine Ba (p ?_);refine Bc ?_;intro r2 s2 k2 d E2;refine xw2 Z Z ⟨g,G,U,n,Z,z,D,r,few,λy m o b=>?_,λR y t m o b c=>?_⟩
 .refine d (xq1 Z ⟨Z,o5,Z,Ba ?_⟩);exact C m o b
 .refine d ?_;have I:=Ia z.ok D y;generalize mvB (2^n) R=B at c I;have c:=c;have W:=aBg I k;refine xq1 Z ⟨Z,o4,Z,BR ?_⟩;refine xwi Z Z Z (SqT.of c) (Ai (j:=0) Z) (xwb Z Z Z ?_);refine xwi Z Z Z (SqT.of c) (Ai (j:=1) Z) (xwb Z Z Z ?_);refine xwi Z Z Z (SqT.of c) (Ai (j:=2) Z) (xwb Z Z Z ⟨.inl ⟨by decide,by decide⟩,(xq2 Z Z ?_)⟩);refine xwi Z Z Z (SqT.of c) (Ai (j:=3) Z) (xwb Z Z Z ⟨.inl ⟨by decide,by decide⟩,(xq2 Z Z ?_)⟩);refine⟨by show 4<=sizeLine;decide,λu V=>?_⟩;refine⟨u,B.l-k,B.t-k,B.w+2*k,B.h+2*k,2^40,Z,Af,?_⟩;generalize x:upd m u _=L;have e:=x▸AH V;clear x;rw[A0e (W.mpr X)];exact⟨o4,Z,Ba (C L (o.trans (Ay.frq e)) (b.same e))⟩
end
theorem aDn(e:G=G0++r)(ok:GOk G):Ao G (bareN 1) ((0+1:Nat):Int)/\Ld G 0 (bareN 1)/\∀x y,fieldF G 0 (bareN 1) x y=0:=by
 refine⟨ER e (n:=1) A4,.inl Z,λx y=>?_⟩;unfold fieldF;by_cases z:-(2^0)<=x/\x<2^0/\-(2^0)<=y/\y<2^0
 .rw[A0g z];exact DL e ok (n:=1) A4 (by show _<2;have:(2:Int)^0=1:=rfl;lia) (by show _<2;have:(2:Int)^0=1:=rfl;lia)
 .rw[A0d z]
theorem nar{x a b c:Int}(h:-a<=x)(h':x<a)(e:a+c<=b):-b+c<=x/\x+c<b:=by lia
theorem aCe{k:Nat}(h:Vp φ k)(a:φ x y≠0):k<2^40:=by
 have:=h x y a;lia
theorem nr1{x u:Int}{t k:Nat}(tk:t<=k)(c:x-t<=u)(d:u<=x+t)(a:-(2^40)+(k:Int)<=u)(b:u+k<2^40):-(2^40)<=x/\x<2^40:=by lia
theorem Yb{r:AC}(m:Cz r 0 BF=0){φ:D_}{k t:Nat}(h:Vp φ k)(tk:t<=k){x y:Int}(l:sFN r t φ x y≠0):-(2^40)<=x/\x<2^40/\-(2^40)<=y/\y<2^40:=by
 refine Dx (Lm m l) λu v e f g i j=>xa3 (h u v j) λa b c d=>?_;have q:=nr1 tk e f a b;exact⟨q.1,q.2,nr1 tk g i c d⟩
theorem Ww(e:G=G0++r)(ok:GOk G)(c:n<=47)(t:Ld G n f)(h:∀x y,fieldF G n f x y≠0->-(2^40)<=x/\x<2^40/\-(2^40)<=y/\y<2^40):n<=40:=by
 refine N9 λz=>?_;obtain⟨m,rfl⟩:∃m,n=m+1:=⟨n-1,by lia⟩
 refine Cw (TF e ok A3 t) λx y b a=>?_;have:=h x y a;have p:2^40<=2^m:=O9 A4 (O3 z);have d:=N6 2 m;lia
def aCC(Κ:KTy)(r:AC)(φ:D_)(k:Nat):Prop:=∀(j l:Nat)(G:Gv)(f:Nat),k/2^j%2=1->j<=l->l<=41->GOk G->Ao G f ((l+1+1:Nat):Int)->(∀x y,fieldF G (l+1) f x y=sFN r (k%2^j) φ x y)->Κ l j (CS G (l+2) f)
theorem aEr{T k t:Nat}(m:φ∈F)(h:k+t<=T):aCC (Kg r F T) r (sFN r t φ) k:=λj l G f e g a ok c b=>by
 refine aEf (t:=k%2^j+t) ok (D6 a A4) c m ?_ λx y=>by rw[b,<-LY]
 have d:=O0 k (2^j);have p:2^j*1<=2^j*(k/2^j):=M9 _ A3;lia
def YC(H:Hp)(G:Gv)(ψ:D_)(ts:H_):Prop:=∃(t:R_)(sq e res l:Nat),ts.getLast?=n_ t/\H t=n_ (.tup [.int sq,.int e,.int res])/\l<=41/\Ao G res ((l+1:Nat):Int)/\∀x y,fieldF G l res x y=ψ x y
section
variable{P:N_}{w:Q_}{K:O_}{mg:C_}{n8:T_}{a:Ad}
inductive aDe(a:Ad)(vs:List V)(H:Hp)(Q:VK):Prop
|mk (p dx mem pr:R_) (g:GA) (G:Gv) (Κ:KTy) (φ:D_) (N b:Nat) (r:AC) (m:MA) (f n k:Nat) (_:vs=[.ref p,.int f,.int (k:Int)]) (_:ZS a H g G Κ N b p dx mem pr r m) (_:Nd Κ N) (_:ClK r Κ) (_:aCC Κ r φ k) (_:Ao G f ((n+1:Nat):Int)) (_:n<=40) (_:Ld G n f) (_:∀x y,fieldF G n f x y=φ x y) (_:Vp φ k) (_:b+12000+10*N<7900000) (_:∀(L:R_)(ts:H_)(G':Gv)(H':Hp)(i:Nat),FrZ g m H H'->ZS a H' g G' Κ N (b+12000) p dx mem pr r m->AJ G G' i->H L=o0->H' L=n_ (.lst (ts.map V.ref))->((ts=[]/\∀x y,sFN r k φ x y=φ x y)\/YC H' G' (sFN r k φ) ts)->Q (.ref L) H'):aDe a vs H Q
def ZY(a:Ad):Sp:=λvs H Q _=>aDe a vs H Q
theorem aFF(F:Fun K "road" "road" VE f fd)(T:Top K mg a)(cH:Cal P w K mg n8 CX0 103 "check_leap" JB (aD5 a))(aY:Cal P w K mg n8 CX0 1 "bare_field" SO (Ph a))(cP:Cal P w K mg n8 CX0 5 "level_for" LA (aEA a))(cF:Cal P w K mg n8 CX0 5 "widened_to" Jy (aHp a))(bZ:Co P w K mg n8 CX0 149 a.M3 "after" Rc (Im a 46))(aQ:Cal P w K mg n8 CX0 4 "trimmed" LZ (NV a)):AM P w K mg n8 CX0 150 f fd VJ (ZY a):=by
 refine F.ok Ez (λvs H Q E h=>?_) (λcq A cd s H vs Q E hr h=>?_)
 .apply Br;intro G_ M;obtain⟨p,dx,mem,pr,g,G,Κ,φ,N,b,r,m,f',n,k,rfl,_⟩:=h;apply M;clear M G_;rfl
 .apply Br;intro G_ M;obtain⟨p,dx,mem,pr,g,G,Κ,φ,N,b,r,m,f',n,k,rfl,zs,fin,cl,bc,lf,cb,tr,hf,nr,few,kn⟩:=h;apply M;clear M G_;refine⟨_,(Ae (Am (i:=3) Ez.nd Z O_9 (AF (pv 0) Z)) (Ae (BP (Ar cH (rm hr) Z Aq (Aa (pv 3) (Aa (pv 1) (Aa (pv 2) Ab))))) (Ae (Am (i:=4) Ez.nd Z O_9 (BO Ab)) (Ae (Am (i:=5) Ez.nd Z O_9 (pv 1)) (Ae (Am (i:=6) Ez.nd Z O_9 (pv 2)) (Ae (Am (i:=7) Ez.nd Z O_9 Ac) (Ae (Lq A1c (PW.pt (MR (AA Ql (pv 6) Ac (AD _)) (Jw (AA JV (pv 5) (Ar aY (rm hr) Z Aq (Aa (pv 3) Ab)) (AD _))))) (Ae (AO (AA CQ (AE Bf (pv 6) Ac) Ac (AD _)) (Ae (Am (i:=8) Ez.nd Z O_9 (Ar cF (rm hr) Z Aq (Aa (pv 3) (Aa (pv 5) (Aa (Ar cP (rm hr) Z Aq (Aa (pv 3) (Aa (pv 5) (Aa (pv 7) Ab)))) Ab))))) (Ae (Am (i:=9) Ez.nd Z O_9 (AK (pv 0) bZ (rm hr) Aq (Aa (pv 8) (Aa (pv 7) Ab)))) (Ae (BP (Du A1g A1h A2a BL (pv 4) (AV (Aa (pv 8) (Aa (pv 7) (Aa (pv 9) Ab))) Ab))) (Ah (Am (i:=5) Ez.nd Z O_9 (Ar aQ (rm hr) Z Aq (Aa (pv 3) (Aa (pv 9) Ab)))))))) AB) (Ae (Am (i:=6) Ez.nd Z O_9 (AE CF (pv 6) Ac)) (Ah (Am (i:=7) Ez.nd Z O_9 (AE AR (pv 7) Ac)))))) (Ah (Au (pv 4)))))))))),?_⟩;have sz:=zs.jz.sz fin;have re:=zs.jz.jw.rest;have ro:=zs.jz.jw.rok;refine Bc ?_;intro r1 s1 k1 bp E1;refine xwf Z Z zs.jz.jw.hp T.Q1 T.N2 (En _ _ _ _ _) (bp ?_);refine Bc ?_;intro r2 s2 k2 bq E2;refine xw3 Z Z Z ⟨g,G,f',n,k,Z,zs.fu,lf,by lia,by lia,(λx y h=>nr x y (by rw[<-hf];exact h)),λH1 fq bf=>?_⟩;have av:=zs.frQ fq bf;have bg:FrZ g m H H1:=FrQ.z fq;refine bq (Bc ?_);intro r3 s3 k3 br E3;refine⟨by show 0<=sizeLine;decide,λL nL=>?_⟩;generalize eH:upd H1 L _=H2;have a7:=eH▸AH nL;have bl:=eH▸Af;clear eH;have ck:=av.same a7;obtain⟨a6,cu⟩:=av.new nL;have O:=av.ap nL;refine br (Bc ?_);intro r4 s4 k4 bt E4;refine xq1 Z (bt ?_);refine Bc ?_;intro r5 s5 k5 bu E5;refine xq1 Z (bu ?_);refine Bc ?_;intro r6 s6 k6 bv E6;refine bv (Bc ?_);intro r7 s7 k7 bw E7;have ay:H L=o0:=by
   cases e:H L with
   |none=>rfl
   |some o =>
    have h1:=fq L o e (λz=>a6 (by simp[z])) (λz=>a6 (by simp[z]));rw[nL]at h1;cases h1
  have bh:=bg.trans (Ay.z a7);have bo:k/2^0=k:=by rw[Nat.pow_zero,Nat.div_one]
  have a3:k%2^0=0:=by rw[Nat.pow_zero,Nat.mod_one]
  refine⟨fun μ σ H3=>∃(j:Nat)(C:Gv)(B:H_)(h c:Nat)(u8 u9:Option V)(i:Nat),σ=[n_ (.ref p),n_ (.int f'),n_ (.int (k:Int)),n_ (.ref g.p),n_ (.ref L),n_ (.int h),n_ (.int ((k/2^j:Nat):Int)),n_ (.int (j:Int)),u8,u9]/\j+μ=41/\FrZ g m H H3/\ZS a H3 g C Κ N (b+270*B.length) p dx mem pr r m/\AJ G C i/\H3 L=n_ (.lst (B.map V.ref))/\B.length<=j/\(c<=40/\Ao C h ((c+1:Nat):Int)/\Ld C c h/\∀x y,fieldF C c h x y=sFN r (k%2^j) φ x y)/\((B=[]/\∀x y,sFN r (k%2^j) φ x y=φ x y)\/YC H3 C (sFN r (k%2^j) φ) B),⟨41,0,G,[],f',n,o0,o0,0,(by rw[bo];rfl),Z,bh,ck,AJ.refl zs.fu.ok,bl,B8 _,⟨cb,lf,tr,by rw[a3];exact hf⟩,.inl ⟨Z,by rw[a3];exact λ_ _=>Z⟩⟩,?_⟩;rintro μ σ H3 cj;apply Br;intro G_ M;obtain⟨j,C,B,h,c,u8,u9,i,rfl,jm,an,D,ao,aq,tl,⟨al,lh,th,fh⟩,la⟩:=cj;apply M;clear M G_;have c0:=D.jz.sz fin;obtain⟨cx,e3⟩:=D.fu.g0;have ak:(k/2^j=0\/h=bareN 1)->k7 [n_ (.ref p),n_ (.int f'),n_ (.int (k:Int)),n_ (.ref g.p),n_ (.ref L),n_ (.int h),n_ (.int ((k/2^j:Nat):Int)),n_ (.int (j:Int)),u8,u9] H3:=λex=>by
   have eq:sFN r k φ=sFN r (k%2^j) φ:=by
    rcases ex with ex|rfl
    .have:k%2^j=k:=by
      have:=O0 k (2^j);rw[ex,Nat.mul_zero,N7]at this;exact this
     rw[this]
    .refine xa2 (aDn e3 D.fu.ok) λb1 b2 b3=>?_;have n0:c=0:=by
      have:=lh.one b1;lia
     subst n0;have z:sFN r (k%2^j) φ=λ_ _=>0:=by
      funext x y
      rw[<-fh,b3]
     have:=LY r φ (k%2^j) (2^j*(k/2^j));rw[O0]at this;rw[this,z,Ll re]
   refine bw (xq1 Z (kn L B C H3 i an (D.mono A3) ao ay aq ?_));rw[eq];exact la
  refine xwb Z Z Z (xq1 Z (IN (λY=>?_) (λY=>?_)))
  .have Y:=A2b Y;have kj:k/2^j≠0:=by lia
   refine xw2 Z Z ⟨g,C,Z,D.fu,Z,(xq1 Z ?_)⟩;by_cases hb:h=bareN 1
   .subst hb;rw[A0e rfl];exact Ba (ak (.inr Z))
   .rw[A0f (λz=>hb (by injection z with z;exact A1b z))];refine BR ?_;obtain⟨x0,y0,h0⟩:∃x y,φ x y≠0:=by
     refine A1d λno=>hb ?_;have z:φ=λ_ _=>0:=by
      funext x y
      exact A1d λz=>no ⟨x,y,z⟩
     refine xa2 (aDn e3 D.fu.ok) λb1 b2 b3=>(QF e3 D.fu.ok A3 A4 lh b1 th b2 λx y=>?_).2;rw[b3,fh,z,Ll re]
    have b5:=aCe nr h0;have b0:j<40:=by
     refine Nat.lt_of_not_le λz=>kj (O2 (D3 b5 (O9 A4 z)))
    refine⟨fun σ' S=>∃(j:Nat)(C:Gv)(B:H_)(h c:Nat)(u8 u9:Option V)(i:Nat),σ'=[n_ (.ref p),n_ (.int f'),n_ (.int (k:Int)),n_ (.ref g.p),n_ (.ref L),n_ (.int h),n_ (.int ((k/2^j:Nat):Int)),n_ (.int (j:Int)),u8,u9]/\j+(μ-1)=41/\FrZ g m H S/\ZS a S g C Κ N (b+270*B.length) p dx mem pr r m/\AJ G C i/\S L=n_ (.lst (B.map V.ref))/\B.length<=j/\(c<=40/\Ao C h ((c+1:Nat):Int)/\Ld C c h/\∀x y,fieldF C c h x y=sFN r (k%2^j) φ x y)/\((B=[]/\∀x y,sFN r (k%2^j) φ x y=φ x y)\/YC S C (sFN r (k%2^j) φ) B),fun σ' S z=>⟨μ-1,by lia,z⟩,?_⟩;have dv:k/2^(j+1)=k/2^j/2:=by rw[L6,Nat.div_div_eq_div_mul]
    have md:k%2^(j+1)=k%2^j+2^j*(k/2^j%2):=Nat.mod_pow_succ;refine Bc ?_;intro r8 s8 k8 bx E8;apply RB (T:=k8) (fun σ' S=>∃(C:Gv)(B:H_)(h c:Nat)(u8 u9:Option V)(i:Nat),σ'=[n_ (.ref p),n_ (.int f'),n_ (.int (k:Int)),n_ (.ref g.p),n_ (.ref L),n_ (.int h),n_ (.int ((k/2^j:Nat):Int)),n_ (.int (j:Int)),u8,u9]/\FrZ g m H S/\ZS a S g C Κ N (b+270*B.length) p dx mem pr r m/\AJ G C i/\S L=n_ (.lst (B.map V.ref))/\B.length<=j+1/\(c<=40/\Ao C h ((c+1:Nat):Int)/\Ld C c h/\∀x y,fieldF C c h x y=sFN r (k%2^(j+1)) φ x y)/\((B=[]/\∀x y,sFN r (k%2^(j+1)) φ x y=φ x y)\/YC S C (sFN r (k%2^(j+1)) φ) B))
    .intro aa;refine xwb Z Z Z ⟨(by show(0:Int)<2;decide),Z,(xq1 Z (IN (λY=>?_) (λY=>?_)))⟩
     .have Y:((k/2^j:Nat):Int)%2=1:=by
       have:=A2b Y;injection this
      have od:k/2^j%2=1:=by lia
      have tk:2^j+k%2^j<=k:=by
       have d:=O0 k (2^j);have p:2^j*1<=2^j*(k/2^j):=M9 _ A3;lia
      refine Bc ?_;intro r9 s9 k9 as E9;refine xw3 Z Z Z (xw2 Z Z ⟨g,C,h,c,j,Z,D.fu.at',lh,al,Q7 b0,λl af nl jl le=>?_⟩);have el:c+(l+1-c)+1=l+2:=by lia
      refine⟨g,C,h,c,l+1-c,by rw[el];rfl,D.fu,lh,by lia,by lia,λv G2 S am U W wn lv=>?_⟩;have R:=D.fr am U W;have c1:=R.jz.sz fin;obtain⟨r4,e4⟩:=U.g0;have wf:∀x y,fieldF G2 (l+1) v x y=sFN r (k%2^j) φ x y:=λx y=>by
       have:=Jd e4 U.ok (k:=l+1-c) (w:=v) A3 wn x y;rw[show c+(l+1-c)=l+1 by lia]at this;rw[this,Ev D.fu.ok W lh,fh]
      have ag:Ao G2 v ((l+1+1:Nat):Int):=by rw[show l+1+1=c+(l+1-c)+1 by lia];exact lv
      have ax:=ao.trans W;refine as (Bc ?_);intro cv cy cr a1 co;refine xwn Z Z R.jz.jw.hp (YV _ _ _ _ _) Z (xq1 Z ⟨p,dx,mem,pr,g,G2,Κ,N,_,r,m,v,l,j,Z,R.jz,fin,cl,ag,D6 af A4,jl,bc j l G2 v od jl af U.ok ag wf,by lia,λI G3 H5 i5 fj b4 ad jr up=>?_⟩);have ai:=R.aft fj b4 ad;have c2:=ai.jz.sz fin;have ci:∀x y,fieldF G3 (l+1) v x y=sFN r (k%2^j) φ x y:=λx y=>by rw[Ev U.ok ad ag];exact wf x y
      obtain⟨lr,rs⟩:=aEe ai.fu.ok ro re (ad.lev ag) jr ci (λx y ae=>by
       rw[<-fh]at ae;have a5:(2:Int)^c+2^j<=2^l:=by exact_mod_cast le
       refine xa3 (A1d λz:¬(-(2^c)<=x/\x<2^c/\-(2^c)<=y/\y<2^c)=>ae (by unfold fieldF;rw[A0d z])) λh1 h2 h3 h4=>?_;have q:=nar h1 h2 a5;exact⟨q.1,q.2,nar h3 h4 a5⟩)
      have rs:∀x y,fieldF G3 l I x y=sFN r (k%2^(j+1)) φ x y:=λx y=>by rw[rs,<-LY,md,od,Nat.mul_one,W5]
      have az:=FrJ.z fj _ _ (Fr.z (m:=m) am _ _ aq O.n0 O.n1) O.n0 O.n1;refine a1 (Bc ?_);intro cw cz cs a2 cp;refine xq1 Z ⟨.inl ⟨Z,_,SqL.of az⟩,(xw3 Z Z Z ⟨by show 3<=sizeLine;decide,λt nt=>?_⟩)⟩;have ah:=AH (o:=.tup [.int (v:Int),.int (j:Int),.int (I:Int)]) nt;have au:upd H5 t (.tup [.int (v:Int),.int (j:Int),.int (I:Int)]) t=n_ (.tup [.int (v:Int),.int (j:Int),.int (I:Int)]):=Af;generalize upd H5 t (.tup [.int (v:Int),.int (j:Int),.int (I:Int)])=H6 at ah au⊢;have cm:=ai.same ah;have ar:=ah _ _ az;refine⟨L,(xq2 Z Z ⟨ar,by rw[B7];exact DU A3,?_⟩)⟩;have aj:=cm.putL (o:=.lst (B.map V.ref++[.ref t])) ar O;have a4:upd H6 L (.lst (B.map V.ref++[.ref t])) t=n_ (.tup [.int (v:Int),.int (j:Int),.int (I:Int)]):=by rw[Ax (AI au ar A6)];exact au
      have aw:FrZ g m H (upd H6 L (.lst (B.map V.ref++[.ref t]))):=λb' o e n1 n2=>by
       rw[Ax (Av e ay)];exact ah _ _ (((an.trans (Fr.z am)).trans (FrJ.z fj)) _ _ e n1 n2)
      have a0:upd H6 L (.lst (B.map V.ref++[.ref t])) L=n_ (.lst ((B++[t]).map V.ref)):=by rw[Af,C7];rfl
      generalize upd H6 L (.lst (B.map V.ref++[.ref t]))=H7 at aj a4 aw a0⊢;refine a2 (xw2 Z Z ⟨g,G3,I,l,Z,aj.fu,lr,by lia,λnw G8 H8 ab ac X cg=>?_⟩);have cn:=aj.fr ab ac X;obtain⟨r8,e8⟩:=ac.g0;refine Ec (Gp e8 ac.ok (C5 af A4) (X.lev lr) cg) λm8 ct b7 a8 be=>?_;have fa:∀x y,fieldF G8 l I x y=sFN r (k%2^(j+1)) φ x y:=λx y=>by rw[Ev ai.fu.ok X lr];exact rs x y
      have fe:∀x y,fieldF G8 m8 nw x y=sFN r (k%2^(j+1)) φ x y:=λx y=>by rw[be,fa]
      have ce:k%2^(j+1)<=k:=Nat.mod_le _ _;have b8:=Ww e8 ac.ok A3 a8 (λx y ae=>Yb re nr ce (by rw[<-fe];exact ae));have bz:=aj.keep (Fr.z ab) a4 (by intro xs z;cases z) (by intro xs z;cases z) (by intro xs z;cases z);have bn:=Fr.z (m:=m) ab _ _ a0 O.n0 O.n1;have bj:=(ax.trans ad).trans X;refine aa _ _ ⟨G8,B++[t],nw,m8,_,_,_,Z,aw.trans (Fr.z ab),cn.mono ?_,bj,bn,by rw[C6];show B.length+1<=_;exact U2 tl A4,⟨b8,b7,a8,fe⟩,.inr ⟨t,v,j,I,l,by rw[List.getLast?_append];rfl,bz,af,X.lev lr,fa⟩⟩;rw[C6];show _<=b+270*(B.length+1)
      lia
     .have Y:¬((k/2^j:Nat):Int)%2=1:=λz=>Y (A0e (A2c V.int z));have ev:k/2^j%2=0:=by lia
      have md:k%2^(j+1)=k%2^j:=by rw[md,ev,Nat.mul_zero,Nat.add_zero]
      exact aa _ _ ⟨C,B,h,c,u8,u9,i,Z,an,D,ao,aq,V2 tl,by rw[md];exact⟨al,lh,th,fh⟩,by rw[md];exact la⟩
    .rintro σ' S bb;refine xe5 bb λG2 ch h2 cc v8 a9=>Dx a9 λv9 i2 bd bi R W ba=>xa3 ba λbm cf b9 b6=>?_;clear a9 ba;clear bb;subst bd;refine bx (Bc ?_);intro r9 s9 k9 as E9;refine xwb Z Z Z ⟨⟨by decide,by decide⟩,?_⟩;refine as ?_;have ed:((k/2^j:Nat):Int)/2=((k/2^(j+1):Nat):Int):=by rw[dv];lia
     have ej:(j:Int)+1=((j+1:Nat):Int):=by lia
     refine xwb Z Z Z ⟨j+1,G2,ch,h2,cc,v8,v9,i2,?_,by lia,bi,R,W,bm,cf,b9,b6⟩;exact(A2c (λu:Int=>[n_ (V.ref p),n_ (V.int f'),n_ (V.int (k:Int)),n_ (V.ref g.p),n_ (V.ref L),n_ (V.int h2),n_ (V.int u),n_ (V.int ((j:Int)+1)),v8,v9]) ed).trans (A2c (λv:Int=>[n_ (V.ref p),n_ (V.int f'),n_ (V.int (k:Int)),n_ (V.ref g.p),n_ (V.ref L),n_ (V.int h2),n_ (V.int ((k/2^(j+1):Nat):Int)),n_ (V.int v),v8,v9]) ej)
  .have Y:¬((k/2^j:Nat):Int) > 0:=λz=>Y (A0e z);exact Ba (ak (.inl A3))
end
theorem ifT{b:Bool}{A B:Prop}(h:b=o4)(x:A):if b=o4 then A else B:=by rw[h];exact BR x
theorem ifF{b:Bool}{A B:Prop}(h:b=o5)(x:B):if b=o4 then A else B:=by rw[h];exact Ba x
structure Fv(G:Gv)(f:Nat)(φ:D_):Prop where
ex:∃n:Nat,n<=40/\Ao G f ((n+1:Nat):Int)/\Ld G n f/\∀x y,fieldF G n f x y=φ x y
theorem Fv.app{k f:Nat}(ok:GOk G)(go:AJ G a k)(h:Fv G f φ):Fv a f φ:=by
 exact Ec h.ex λn c b d e=>⟨n,c,go.lev b,d.app go,λx y=>by rw[Ev ok go b];exact e x y⟩
theorem Fv.to(h:Fv G f φ)(e:∀x y,φ x y=ψ x y):Fv G f ψ:=by
 exact Ec h.ex λn a b c d=>⟨n,a,b,c,λx y=>by rw[d,e]⟩
section
variable{P:N_}{w:Q_}{K:O_}{mg:C_}{n8:T_}{a:Ad}
inductive aDS(a:Ad)(vs:List V)(H:Hp)(Q:VK):Prop
|mk (p dx mem pr:R_) (g:GA) (G:Gv) (Κ:KTy) (φ:D_) (N b:Nat) (r:AC) (m:MA) (f k:Nat) (_:vs=[.ref p,.int f,.int (k:Int)]) (_:ZS a H g G Κ N b p dx mem pr r m) (_:Nd Κ N) (_:ClK r Κ) (_:aCC Κ r φ k) (_:Fv G f φ) (_:Vp φ k) (_:b+12000+10*N<7900000) (_:∀(d:Nat)(G':Gv)(H':Hp)(i:Nat),FrZ g m H H'->ZS a H' g G' Κ N (b+12048) p dx mem pr r m->AJ G G' i->Fv G' d (sFN r k φ)->Q (.int d) H'):aDS a vs H Q
def aD9(a:Ad):Sp:=λvs H Q _=>aDS a vs H Q
theorem aE4(F:Fun K "jump" "jump" VF f fd)(T:Top K mg a)(dO:Cal P w K mg n8 CX0 150 "road" VJ (ZY a))(aQ:Cal P w K mg n8 CX0 4 "trimmed" LZ (NV a)):AM P w K mg n8 CX0 151 f fd VJ (aD9 a):=by
 refine F.ok WO D_9 λag A ad s H vs Q E hr h=>?_
 obtain⟨p,dx,mem,pr,g,G,Κ,φ,N,b,r,m,f',k,rfl,zs,fin,cl,I,fv,nr,few,kn⟩:=h;refine Ec (id fv.ex) λn ac lf tr hf=>⟨_,(Ae (Am (i:=3) WO.nd Z O_9 (Ar dO (rm hr) Z Aq (Aa (pv 0) (Aa (pv 1) (Aa (pv 2) Ab))))) (Ae (AO (AA CQ (AN BJ Z T.j_ A2g (Aa (pv 3) Ab)) Ac (AD _)) (Ah (Au (pv 1))) AB) (Ah (Au (Ar aQ (rm hr) Z Aq (Aa (AF (pv 0) Z) (Aa (Aj Al (Aj Az (pv 3) (EI CZ Ac) R_9) Ac R_9) Ab))))))),?_⟩;refine Bc ?_;intro r1 s1 k1 R E1;refine xw3 Z Z Z (.mk p dx mem pr g G Κ φ N b r m f' n k Z zs fin cl I lf ac tr hf nr few (λL u G1 H1 i1 B c q nL hL ca=>?_));refine R (Bc ?_);intro r2 s2 k2 S E2;refine⟨_,Z,L,_,Z,.inl (SqL.of hL),Z,_,Z,?_⟩;rcases ca with ⟨rfl,ca⟩|⟨t,sq,e,C,l,X,ht,W,Y,rs⟩
 .exact ifT Z ⟨_,Z,kn f' G1 H1 i1 B (c.mono A3) q ((fv.app zs.fu.ok q).to λx y=>(ca x y).symm)⟩
 .have ne:u≠[]:=λz=>by rw[z]at X;cases X
  have tl:=W2.mpr ne;refine ifF (A0f (λz=>by injection z with z;rw[B7]at z;lia)) (S ?_);have li:atI (u.map V.ref) (-1)=n_ (.ref t):=by
   unfold atI;have:ixN (u.map V.ref).length (-1)=n_ (u.length-1):=by
    unfold ixN;rw[B7,A0d A4,A0g A3];congr 1;lia
   rw[this];show(u.map V.ref)[u.length-1]?=_;rw[C0,<-List.getLast?_eq_getElem?,X];rfl
  refine xwf Z Z c.jz.jw.hp T.Q1 T.N2 (En _ _ _ _ _) ⟨_,Z,1,Z,L,_,-1,.ref t,Z,Z,SqL.of hL,li,t,_,2,.int (C:Int),Z,Z,SqT.of ht,Ai (j:=2) Z,?_⟩;have ai:=c.jz.sz fin;refine⟨g,G1,C,l,Z,c.fu,Y,by lia,λnh G8 H8 v d o ae=>?_⟩;have af:=c.fr v d o;obtain⟨r8,e8⟩:=d.g0;refine Ec (Gp e8 d.ok (C5 W A4) (o.lev Y) ae) λm8 ah aa D M=>?_;have O:=q.trans o;have fe:∀x y,fieldF G8 m8 nh x y=sFN r k φ x y:=λx y=>by rw[M,Ev c.fu.ok o Y];exact rs x y
  have ab:=Ww e8 d.ok A3 D (λx y U=>Yb zs.jz.jw.rest nr (B8 k) (by rw[<-fe];exact U));exact kn nh G8 H8 _ (B.trans (Fr.z v)) (af.mono (B8 _)) O ⟨m8,ab,aa,D,fe⟩
end
end J
namespace J
open PySem L2
def stC:List Cl->Int->Int->Nat
|[],_,_=>0
|c::cs,x,y=>if x=c.x/\y=c.y then c.s else stC cs x y
theorem Zm(a:G=G0++v)(ok:GOk G)(h:Ty G cs n f):(∀c∈cs,c.s<8)->Ld G n f/\∀x y,fieldF G n f x y=stC cs x y:=by
 induction h with
 |nil =>
  intro _;refine⟨.inl Z,λx y=>?_⟩;unfold fieldF;split
  .rename_i z;exact DL a ok A4 (FU z.1 z.2.1) (FU z.2.2.1 z.2.2.2)
  .rfl
 |@cons cs c n f r k w i m h l p o j =>
  intro b;obtain⟨t,e⟩:=j λc g=>b c (C9 _ g);refine Ec (Us a ok (b c (C8 ..)) p) λu _ q A d=>?_;have:u=m:=by
   have:=A1b (q.uniq o);lia
  subst this;refine⟨A,λx y=>?_⟩;rw[d x y,e x y];rfl
def kvC(ds:List Cl):List (List Key×V):=ds.map λc=>(kOf [c.x,c.y],V.int (c.s:Int))
theorem NH:∀{ds:List Cl},(ds.map λc=>(c.x,c.y)).Nodup->∀{c:Cl},c∈ds->Bv (kvC ds) (kOf [c.x,c.y])=n_ (.int (c.s:Int))
|d::ds,nd,c,a=>by
 rw[F8,N4]at nd;show Bv ((kOf [d.x,d.y],V.int (d.s:Int))::kvC ds) (kOf [c.x,c.y])=_;rcases C1.mp a with rfl|a
 .exact BV Z
 .rw[Bz λz=>?_]
  .exact NH nd.2 a
  .have z:=JK z;injection z with z1 z
   injection z with z2 z
   exact nd.1 (D0.mpr ⟨c,a,by rw[z1,z2]⟩)
def Lp(ds:List Cl)(c:Cl):List Cl:=if ds.any (λd=>decide (d.x=c.x/\d.y=c.y))=o4 then ds.map (λd=>if d.x=c.x/\d.y=c.y then c else d)else ds++[c]
theorem UK{c d:Cl}:d∈Lp ds c↔d=c\/(d∈ds/\¬(d.x=c.x/\d.y=c.y)):=by
 unfold Lp;by_cases h:ds.any (λd=>decide (d.x=c.x/\d.y=c.y))=o4
 .rw[A0g h,D0];refine xea (U6.mp h) λz j i=>?_;constructor
  .intro b;refine xea b λe g f=>?_;clear b;subst f;by_cases q:e.x=c.x/\e.y=c.y
   .rw[A0g q];exact .inl Z
   .rw[A0d q];exact .inr ⟨g,q⟩
  .rintro(rfl|⟨a,q⟩)
   .exact⟨z,j,A0g (A2b i)⟩
   .exact⟨d,a,A0d q⟩
 .rw[A0d h,F6,D4];have no:∀e∈ds,¬(e.x=c.x/\e.y=c.y):=λe g q=>h (U6.mpr ⟨e,g,A0e q⟩);constructor
  .rintro(a|rfl)
   .exact .inr ⟨a,no d a⟩
   .exact .inl Z
  .rintro(rfl|⟨a,_⟩)
   .exact .inr Z
   .exact .inl a
theorem UP(ds:List Cl)(c:Cl):(Lp ds c).length<=ds.length+1:=by
 unfold Lp;split
 .rw[B7];exact F5 _ _
 .rw[C6];exact B8 _
theorem Yd  {c:Cl} (h:(ds.map λc=>(c.x,c.y)).Nodup):((Lp ds c).map λc=>(c.x,c.y)).Nodup:=by
 unfold Lp;by_cases q:ds.any (λd=>decide (d.x=c.x/\d.y=c.y))=o4
 .rw[A0g q,O1];have:((λc:Cl=>(c.x,c.y)) ∘ λd=>if d.x=c.x/\d.y=c.y then c else d)=λd=>(d.x,d.y):=by
   funext d
   show((if d.x=c.x/\d.y=c.y then c else d).x,(if d.x=c.x/\d.y=c.y then c else d).y)=(d.x,d.y)
   split
   .rename_i z;rw[z.1,z.2]
   .rfl
  rw[this];exact h
 .rw[A0d q,C7,T9];refine⟨h,by simp,λa i b g e=>q ?_⟩;refine xea (D0.mp i) λd j f=>?_;subst f;rw[F8,Z5,D4]at g;rw[g]at e;injection e with e1 e2
  exact U6.mpr ⟨d,j,A0e ⟨e1,e2⟩⟩
theorem aCX(ds:List Cl)(c:Cl):DR (kvC ds) (kOf [c.x,c.y]) (.int (c.s:Int))=kvC (Lp ds c):=by
 have a:∀d:Cl,(kOf [d.x,d.y]=kOf [c.x,c.y])↔(d.x=c.x/\d.y=c.y):=λd=>⟨λz=>by
  have z:=JK z;injection z with z1 z
  injection z with z2 z
  exact⟨z1,z2⟩,λz=>by rw[z.1,z.2]⟩
 unfold DR Lp kvC;rw[List.any_map];have:((λb:List Key×V=>decide (b.1=kOf [c.x,c.y])) ∘ λc:Cl=>(kOf [c.x,c.y],V.int (c.s:Int)))=λd=>decide (d.x=c.x/\d.y=c.y):=by
  funext d
  exact decide_eq_decide.mpr (a d)
 rw[this];split
 .rw[O1,O1];congr 1
  funext d
  show(if kOf [d.x,d.y]=kOf [c.x,c.y]then(kOf [d.x,d.y],V.int (c.s:Int))else(kOf [d.x,d.y],V.int (d.s:Int)))=(kOf [(if d.x=c.x/\d.y=c.y then c else d).x,(if d.x=c.x/\d.y=c.y then c else d).y],V.int ((if d.x=c.x/\d.y=c.y then c else d).s:Int))
  by_cases q:d.x=c.x/\d.y=c.y
  .rw[A0g ((a d).mpr q),A0g q,q.1,q.2]
  .rw[A0d λz=>q ((a d).mp z),A0d q]
 .rw[C7];rfl
theorem aGg{D t:R_}{c:Cl}(e:H D=n_ (.dT (kvC ds)))(b:H t=n_ (.tup [.int c.x,.int c.y]))(a:ds.length<1000):Mq H D (.ref t) (.int (c.s:Int)) (upd H D (.dT (kvC (Lp ds c)))):=by
 rw[<-aCX];exact Mq.t (k:=kOf [c.x,c.y]) e b (DU (by rw[show(kvC ds).length=ds.length from B7 _];exact D3 a A4))
structure JP(ds:List Cl)(φ:D_):Prop where
nd:(ds.map λc=>(c.x,c.y)).Nodup
mem:∀c:Cl,c∈ds↔(1<=c.s/\φ c.x c.y=c.s)
theorem aFl(h:JP ds φ)(x y:Int):stC ds.reverse x y=φ x y:=by
 have g:∀{a:List Cl},(∀c∈a,1<=c.s/\φ c.x c.y=c.s)->(∃c∈a,c.x=x/\c.y=y)->stC a x y=φ x y:=by
  intro a;induction a with
  |nil=>intro _ j;refine xea j λc b _=>?_;cases b
  |cons d a f =>
   intro e ⟨c,b,k,l⟩;show(if x=d.x/\y=d.y then d.s else stC a x y)=_;by_cases q:x=d.x/\y=d.y
   .rw[A0g q,q.1,q.2];exact(e d (C8 ..)).2.symm
   .rw[A0d q];refine f (λc b=>e c (C9 _ b)) ?_;rcases C1.mp b with rfl|b
    .exact absurd ⟨k.symm,l.symm⟩ q
    .exact⟨c,b,k,l⟩
 have i:∀{a:List Cl},(∀c∈a,¬(c.x=x/\c.y=y))->stC a x y=0:=by
  intro a;induction a with
  |nil=>intro _;rfl
  |cons d a f =>
   intro e;show(if x=d.x/\y=d.y then d.s else stC a x y)=_;rw[A0d λq=>e d (C8 ..) ⟨q.1.symm,q.2.symm⟩];exact f λc b=>e c (C9 _ b)
 by_cases z:φ x y=0
 .rw[z];refine i λc b q=>?_;obtain⟨n,m⟩:=(h.mem c).mp (Z0.mp b);rw[q.1,q.2,z]at m;lia
 .refine g (λc b=>(h.mem c).mp (Z0.mp b)) ⟨⟨x,y,φ x y⟩,Z0.mpr ((h.mem _).mpr ⟨by show 1<=φ x y;lia,Z⟩),Z,Z⟩
theorem Lf.new(c:AQ a H g G)(nl:H m.l=o0)(nk:H m.kc=o0)(j:b m.tp=n_ (.tup [.ref m.l,.ref m.kc]))(k:b m.l=n_ (.lst (m.ds.map V.ref)))(o:b m.kc=n_ (.dT []))(q:∀d∈m.ds,b d=n_ (.dK []))(s:m.ds.length=47)(t:m.ds.Nodup):Lf b g G N M r m:=by
 obtain⟨w,i,_⟩:=c.pt;exact⟨j,k,⟨A1a (Av c.lv nl),A1a (Av i nl),A1a (Av c.nm nk)⟩,s,t,λe d h=>⟨[],q d (D8 h),M7 _,λp u=>(nomatch u),λn v f=>by cases f⟩,⟨[],o,M7 _,λks v f=>by cases f⟩⟩
def zL(g:GA)(m:MA):List Addr:=[g.lv,g.pt,g.nm,g.am,g.bx,m.kc]++m.ds
section
variable{a:Ad}{H H':Hp}{g:GA}{G G':Gv}{Κ:KTy}{N b i:Nat}{p dx mem pr:R_}{r:AC}{m:MA}
theorem FrZ.fx(h:ZS a H g G Κ N b p dx mem pr r m)(f:FrZ g m H H'):Fx (zL g m) H H':=λx o e z=>by
 obtain⟨A,q,_⟩:=h.fu.at'.pt;obtain⟨t,d,_⟩:=h.fu.am;obtain⟨u,k,_⟩:=h.fu.bx;obtain⟨v,l,_⟩:=h.jz.jw.me.ce;refine f x o e (λy=>?_) (λy=>?_)
 .have c:=z (F6.mpr (.inl y));clear z;simp only[C1,D9,A2e]at y;rcases y with y|y|y|y|y|y<;>subst y
  .rw[h.fu.at'.lv]at e;cases e;exact c
  .rw[q]at e;cases e;exact c
  .rw[h.fu.at'.nm]at e;cases e;exact c
  .rw[d]at e;cases e;exact c
  .rw[k]at e;cases e;exact c
  .rw[l]at e;cases e;exact c
 .have c:=z (F6.mpr (.inr y));obtain⟨j,s⟩:=M5 y;obtain⟨w,n,_⟩:=h.jz.jw.me.sq j x s;rw[n]at e;cases e;exact c
theorem ZS.fx(h:ZS a H g G Κ N b p dx mem pr r m)(f:Fx l H H')(n:∀x∈[g.br,m.l]++zL g m,x∉l):ZS a H' g G Κ N b p dx mem pr r m:=by
 have k:∀x∈zL g m,x∉l:=λx v=>n x (F6.mpr (.inr v));have j:g.br∉l:=n _ B0;have A:m.l∉l:=n _ B0;have q:=h.fu.fx f λx v=>by
  simp only[DV,C1,D9,A2e]at v;rcases v with z|z|z|z|z|z<;>subst z
  .exact k _ (by simp[zL])
  .exact k _ (by simp[zL])
  .exact k _ (by simp[zL])
  .exact j
  .exact k _ (by simp[zL])
  .exact k _ (by simp[zL])
 have c:=h.jz.jw;obtain⟨y,F,_⟩:=c.me.ce;have s:∀d∈m.ds,∀o,H d=n_ o->H' d=n_ o:=λd D o e=>f.get (k d (F6.mpr (.inr D))) e;have t:∀o,H m.kc=n_ o->H' m.kc=n_ o:=λo e=>f.get (k _ (by simp[zL])) e;have u:Lf H' g G N (b+10*N) r m:=c.me.kp c.ok (AJ.refl c.ok) λx o e w=>by
  rcases w with rfl|rfl|w|rfl
  .rw[c.me.tp]at e;cases e;exact f.tup c.me.tp
  .exact f.get A e
  .exact s x w o e
  .exact t o e
 obtain⟨C,B⟩:=h.jz.cn;refine⟨⟨⟨q.at',c.ok,c.bs,f.get j c.br,c.nbr,f _ _ c.hp λ_=>True.intro,c.ru.kp λx o e E=>f _ _ e λ_=>?_,c.rok,c.rest,u⟩,C,B.kp (i:=0) c.ok (AJ.refl c.ok) s λy e=>⟨y,t _ e,B8 _⟩⟩,q,h.na,h.nb⟩;cases E<;>exact True.intro
theorem jnew{c:Hp}(v:Be a c g G)(ro:FJ r)(rz:Cz r 0 BF=0)(V:Df a c pr (Et r) r)(W:c p=o0)(P:c dx=o0)(S:dx≠p)(few:G.length<=b)(k:∀(n:Hp)(mem:R_)(m:MA),Ay c n->ZS a n g G Κ N b p dx mem pr r m->(∀y∈m.l::m.kc::m.ds,c y=o0)->n mem=n_ (.dK (mK [(Et r,m)]))->c mem=o0->mem∉m.ds->Q .non n):Tw a [.ref p,.ref g.p,.ref pr] (upd (upd c dx (.own p)) p (.ins a.M3 dx [])) Q:=by
 have nq:upd c dx (.own p) p=o0:=by rw[Ax (A1a S)];exact W
 have U:Ay c (upd (upd c dx (.own p)) p (.ins a.M3 dx [])):=(show Ay c _ from As P).trans (As nq);refine⟨p,dx,g.p,pr,Et r,r,Z,Af,V.same U,λn mem m F D K q f L hl B A O R T=>?_⟩;have s:Ay c n:=λb o e=>F b o (U b o e) (Av e W);have t:∀{y:R_},upd (upd c dx (.own p)) p (.ins a.M3 dx []) y=o0->c y=o0:=λ{y} e=>Ay.noneN U e;have d:=v.same s;have hw:Lf n g G N (b+10*N) r m:=(Lf.new (N:=0) (M:=0) v.at' (t f.2.1) (t f.2.2.1) L hl B A O R).mono (M7 _) (M7 _);have h:∀u∈m.ds,c u=o0:=λu I=>t (f.2.2.2 u I);obtain⟨aa,X⟩:=v.g0;have E:Bs G:=λj hj=>by
  have:=NJ j hj;rw[X];exact Mb this
 obtain⟨ka,w,_⟩:=v.am;obtain⟨kb,x,_⟩:=v.bx;refine k n mem m s ⟨⟨⟨d.at',d.ok,E,d.br,⟨d.n1,d.n2⟩,K,V.same s,ro,rz,hw⟩,λ_=>0,λe u Y=>⟨[],A u (D8 Y),Z,T3,λk hk=>nomatch hk⟩,C5 few (F5 _ _),[],B,M7 _⟩,d,λz=>?_,λz=>?_⟩ (λy C=>?_) q (t D) (λz=>T mem z Z)
 .rw[h _ z]at w;cases w
 .rw[h _ z]at x;cases x
 .rcases C1.mp C with rfl|C
  .exact t f.2.1
  .rcases C1.mp C with rfl|C
   .exact t f.2.2.1
   .exact h y C
end
structure Fd(G:Gv)(n f:Nat):Prop where
lev:Ao G f ((n+1:Nat):Int)
tr:Ld G n f
le:n<=40
theorem Fd.app{G a:Gv}{k n f:Nat}(go:AJ G a k)(h:Fd G n f):Fd a n f:=⟨go.lev h.lev,h.tr.app go,h.le⟩
theorem aEV{x y z w a b c d:Nat}(e:[(x:Int),(y:Int),(z:Int),(w:Int)]=[(a:Int),(b:Int),(c:Int),(d:Int)]):x=a/\y=b/\z=c/\w=d:=by
 injection e with e1 e
 injection e with e2 e
 injection e with e3 e
 injection e with e4 e
 exact⟨A1b e1,A1b e2,A1b e3,A1b e4⟩
theorem Fx.fresh{H a c:Hp}(s:Ay H a)(f:Fx (x::l) a c)(n:H x=o0):Fx l H c:=λb o e z=>f b o (s _ _ e) λm=>by
 rcases C1.mp m with rfl|m
 .rw[n]at e;cases e
 .exact z m
def frM(g:GA)(kn:R_):List Addr:=[g.lv,g.pt,g.nm,kn]
theorem aGt{T:St->Hp->Prop}{C:Prop}(P:St->Hp->Prop)(h:(∀σ H,P σ H->T σ H)->C)(k:∀σ H,P σ H->T σ H):C:=h k
structure Sc where
Φ:Nat->Nat->Nat
R:Nat
D:Nat
M:Nat
cl:Nat->Nat->Nat->Nat
def NE(Φ:Nat->Nat->Nat)(n i j:Nat):Prop:=∃x y,x<2^(n+1)/\y<2^(n+1)/\Φ (i*2^n+x) (j*2^n+y)≠0
structure Wq(c:Sc):Prop where
lt:∀n i j,n<=48->NE c.Φ n i j->c.cl n i j<c.M
same:∀n i j i' j',n<=48->NE c.Φ n i j->NE c.Φ n i' j'->c.cl n i j=c.cl n i' j'->∀x y,x<2^(n+1)->y<2^(n+1)->c.Φ (i*2^n+x) (j*2^n+y)=c.Φ (i'*2^n+x) (j'*2^n+y)
def mk1(R n x:Nat):Prop:=R%2^n≠0\/x<2^n
structure Ag(G:Gv)(c:Sc)(n i j:Nat)(q:L_):Prop where
lev:∀k,k<4->Ao G (q k) (n:Int)
ag:∀x y,x<2^(n+1)->y<2^(n+1)->mk1 c.R n x->mk1 c.D n y->CW G n (q (quad n x y)) (x%2^n) (y%2^n)=c.Φ (i*2^n+x) (j*2^n+y)
structure QAt(G:Gv)(c:Sc)(n i j:Nat)(q:L_):Prop where
a:Ag G c n i j q
off:∀x y,x<2^(n+1)->y<2^(n+1)->¬(mk1 c.R n x/\mk1 c.D n y)->CW G n (q (quad n x y)) (x%2^n) (y%2^n)=0
structure Rs(G:Gv)(c:Sc)(n i j m:Nat):Prop where
lev:Ao G m (n:Int)
cell:∀x y,x<2^n->y<2^n->CW G n m x y=c.Φ (i*2^n+c.R%2^n+x) (j*2^n+c.D%2^n+y)
theorem Ag.app{G a:Gv}{k:Nat}{c:Sc}{n i j:Nat}{q:L_}(ok:GOk G)(go:AJ G a k)(h:Ag G c n i j q):Ag a c n i j q:=⟨λk e=>go.lev (h.lev k e),λx y b d f g=>by rw[LU ok go (h.lev _ (Ca b d)) (F9 _ (AL n)) (F9 _ (AL n))];exact h.ag x y b d f g⟩
theorem QAt.app{G b:Gv}{k:Nat}{c:Sc}{n i j:Nat}{q:L_}(ok:GOk G)(go:AJ G b k)(h:QAt G c n i j q):QAt b c n i j q:=⟨h.a.app ok go,λx y d e m=>by rw[LU ok go (h.a.lev _ (Ca d e)) (F9 _ (AL n)) (F9 _ (AL n))];exact h.off x y d e m⟩
theorem Rs.app{G a:Gv}{k:Nat}{c:Sc}{n i j m:Nat}(ok:GOk G)(go:AJ G a k)(h:Rs G c n i j m):Rs a c n i j m:=⟨go.lev h.lev,λx y b d=>by rw[LU ok go h.lev b d];exact h.cell x y b d⟩
def wuQ(R D n:Nat)(q:L_)(k:Nat):Nat:=if R%2^n=0 then(if k%2=1 then bareN n else q k)else if D%2^n=0 then(if k/2=1 then bareN n else q k)else q k
theorem GD{n x y:Nat}(a:x<2^(n+1))(b:y<2^(n+1)):quad n x y%2=x/2^n/\quad n x y/2=y/2^n:=by
 have c:=Cd a;have d:=Cd b;unfold quad;lia
theorem NP{n x:Nat}(a:x<2^(n+1)):(x/2^n=1 ↔ ¬x<2^n):=by
 have b:=Cd a;have c:x/2^n=0↔x<2^n:=by rw[Nat.div_eq_zero_iff];have:=AL n;lia
 lia
theorem Ag.wu{G r:Gv}(g:G=G0++r)(ok:GOk G){c:Sc}{n i j:Nat}{q:L_}(l:n<=48)(h:Ag G c n i j q)(w:¬(c.R%2^n=0/\c.D%2^n=0)):QAt G c n i j (wuQ c.R c.D n q):=by
 have f:=ER g (n:=n) l;have p:=λx=>F9 x (AL n);unfold wuQ;refine⟨⟨λk d=>?_,λx y a b m o=>?_⟩,λx y a b k=>?_⟩
 .split
  .split
   .exact f
   .exact h.lev k d
  .split
   .split
    .exact f
    .exact h.lev k d
   .exact h.lev k d
 .obtain⟨u,v⟩:=GD a b;have s:=NP a;have t:=NP b;have e:(if c.R%2^n=0 then(if quad n x y%2=1 then bareN n else q (quad n x y))else if c.D%2^n=0 then(if quad n x y/2=1 then bareN n else q (quad n x y))else q (quad n x y))=q (quad n x y):=by
   unfold mk1 at m o;split
   .rw[A0d A3]
   .split
    .rw[A0d A3]
    .rfl
  rw[e];exact h.ag x y a b m o
 .obtain⟨u,v⟩:=GD a b;have s:=NP a;have t:=NP b;have e:(if c.R%2^n=0 then(if quad n x y%2=1 then bareN n else q (quad n x y))else if c.D%2^n=0 then(if quad n x y/2=1 then bareN n else q (quad n x y))else q (quad n x y))=bareN n:=by
   unfold mk1 at k;split
   .rw[A0g A3]
   .split
    .rw[A0g A3]
    .lia
  rw[e];exact DL g ok l (p x) (p y)
theorem Pu{R n x:Nat}(a:x<2^n):R%2^n+x<2^(n+1)/\mk1 R n (R%2^n+x):=by
 have:=F9 R (AL n);have:=Mu n;refine⟨by lia,?_⟩;unfold mk1;by_cases z:R%2^n=0
 .exact .inr A3
 .exact .inl z
theorem Ag.first{G:Gv}{c:Sc}{n i j:Nat}{q:L_}(h:Ag G c n i j q)(g:c.R%2^n=0)(k:c.D%2^n=0):Rs G c n i j (q 0):=by
 refine⟨h.lev 0 A4,λx y b d=>?_⟩;have e:=Mu n;have a:=h.ag x y A3 A3 (.inr b) (.inr d);have f:quad n x y=0:=by
  unfold quad;rw[O2 b,O2 d]
 rw[f,N8 b,N8 d]at a;rw[a,g,k];rfl
theorem QAt.see{G:Gv}{c:Sc}{n i j:Nat}{q:L_}(h:QAt G c n i j q){x y:Nat}(f:x<2^n)(g:y<2^n):c.Φ (i*2^n+c.R%2^n+x) (j*2^n+c.D%2^n+y)=CW G n (q (quad n (c.R%2^n+x) (c.D%2^n+y))) ((c.R%2^n+x)%2^n) ((c.D%2^n+y)%2^n):=by
 obtain⟨b,d⟩:=Pu (R:=c.R) f;obtain⟨e,b2⟩:=Pu (R:=c.D) g;rw[h.a.ag _ _ b e d b2,Nat.add_assoc,Nat.add_assoc]
theorem QAt.bare{G r:Gv}(a:G=G0++r)(ok:GOk G){c:Sc}{n i j:Nat}{q:L_}(d:n<=48)(h:QAt G c n i j q)(b:∀k,k<4->q k=bareN n):Rs G c n i j (bareN n):=by
 refine⟨ER a d,λx y e f=>?_⟩;rw[h.see e f,b _ (Ca (Pu e).1 (Pu f).1),DL a ok d e f,DL a ok d (F9 _ (AL n)) (F9 _ (AL n))]
theorem QAt.hit{G:Gv}{c:Sc}{n i j d e m:Nat}{q:L_}(h:QAt G c n i j q)(h':QAt G c n d e q)(r:Rs G c n d e m):Rs G c n i j m:=⟨r.lev,λx y a b=>by rw[r.cell x y a b,h'.see a b,h.see a b]⟩
def gq(sub:Nat->Nat->Nat)(r c:Nat):Nat:=sub (c/2+2*(r/2)) (c%2+2*(r%2))
structure Zv(G:Gv)(n:Nat)(q:L_)(sub:Nat->Nat->Nat):Prop where
nd:∀k,k<4->∃s,IR G n (q k) s (sub k 0) (sub k 1) (sub k 2) (sub k 3)
theorem aDE{G:Gv}(ok:GOk G){n:Nat}{q:L_}(h:∀k,k<4->Ao G (q k) ((n+1:Nat):Int)):∃a,Zv G n q a:=by
 obtain⟨z,b,f,j,p,v⟩:=BI ok (h 0 A4);obtain⟨A,c,g,l,r,w⟩:=BI ok (h 1 A4);obtain⟨B,d,b2,m,s,x⟩:=BI ok (h 2 A4);obtain⟨C,e,i,o,t,y⟩:=BI ok (h 3 A4);refine⟨λk=>match k with|0=>f4 b f j p|1=>f4 c g l r|2=>f4 d b2 m s|_=>f4 e i o t,⟨λk u=>?_⟩⟩
 match k,u with
 |0,_=>exact⟨_,v⟩
 |1,_=>exact⟨_,w⟩
 |2,_=>exact⟨_,x⟩
 |3,_=>exact⟨_,y⟩
theorem Zv.lev{G:Gv}{n:Nat}{q:L_}{a:Nat->Nat->Nat}(h:Zv G n q a){k l:Nat}(d:k<4)(b:l<4):Ao G (a k l) (n:Int):=by
 obtain⟨s,c⟩:=h.nd k d;have:=(c.nat b).2;rw[LS (a k) b]at this;exact this
theorem aEj{G:Gv}{n:Nat}{q:L_}{a:Nat->Nat->Nat}(h:Zv G n q a){r c:Nat}(d:r<4)(b:c<4):Ao G (gq a r c) (n:Int):=h.lev A3 A3
def Tc(sub:Nat->Nat->Nat)(r c k:Nat):Nat:=gq sub (r+k/2) (c+k%2)
theorem Ik{n x c:Nat}:(c*2^n+x)/2^n=c+x/2^n/\(c*2^n+x)%2^n=x%2^n:=by
 have p:=AL n;constructor
 .rw[W5,Nat.add_mul_div_right _ _ p,W5]
 .rw[W5,Nat.add_mul_mod_self_right]
theorem Mf{n X:Nat}:X/2^(n+1)=X/2^n/2/\X%2^(n+1)/2^n=X/2^n%2:=by
 rw[L6];constructor
 .rw[Nat.div_div_eq_div_mul]
 .rw[Nat.mod_mul_right_div_self]
theorem QAt.inner{G:Gv}{c:Sc}{n i j:Nat}{q:L_}(h:QAt G c (n+1) i j q){d:Nat->Nat->Nat}(r:Zv G n q d){p:Nat}(U:p<4):Ag G c n (2*i+(c.R%2^(n+1)/2^n+p%2)) (2*j+(c.D%2^(n+1)/2^n+p/2)) (Tc d (c.D%2^(n+1)/2^n+p/2) (c.R%2^(n+1)/2^n+p%2)):=by
 have e:=Mu n;have N:=Mu (n+1);have M:c.R%2^(n+1)/2^n<2:=Cd (F9 _ (AL _));have W:c.D%2^(n+1)/2^n<2:=Cd (F9 _ (AL _));refine⟨λk T=>aEj r A3 A3,λx y l t E F=>?_⟩;have f:∀{R x b:Nat},x<2^(n+1)->mk1 R n x->b<2->(R%2^(n+1)/2^n+b)*2^n+x<2^(n+2)/\mk1 R (n+1) ((R%2^(n+1)/2^n+b)*2^n+x):=λ{R x b} l k P=>by
  have O:R%2^(n+1)/2^n<2:=Cd (F9 _ (AL _));have V:(R%2^(n+1)/2^n+b)*2^n<=2*2^n:=X7 _ A3;refine⟨by lia,?_⟩;by_cases z:R%2^(n+1)=0
  .refine .inr ?_;have L:R%2^n=0:=by rw[<-EQ R n,z,Nat.zero_mod]
   have B:=k.resolve_left (λq=>q L);rw[z,Nat.zero_div,N7];have:b*2^n<=1*2^n:=X7 _ A3;lia
  .exact .inl z
 obtain⟨m,v⟩:=f (b:=p%2) l E A3;obtain⟨o,w⟩:=f (b:=p/2) t F A3;have a:=h.a.ag _ _ m o v w;generalize Q:c.R%2^(n+1)/2^n+p%2=C at *
 generalize S:c.D%2^(n+1)/2^n+p/2=g at *
 obtain⟨s,u⟩:=r.nd _ (Ca m o);rw[BM u (F9 _ (AL _)) (F9 _ (AL _)),EQ,EQ,Ik.2,Ik.2]at a;have K:quad n ((C*2^n+x)%2^(n+1)) ((g*2^n+y)%2^(n+1))<4:=Ca (F9 _ (AL _)) (F9 _ (AL _));rw[LS _ K]at a;have A:d (quad (n+1) (C*2^n+x) (g*2^n+y)) (quad n ((C*2^n+x)%2^(n+1)) ((g*2^n+y)%2^(n+1)))=Tc d g C (quad n x y):=by
  obtain⟨H,I⟩:=GD l t;unfold Tc gq;rw[H,I];congr 1
  .unfold quad;rw[Mf.1,Mf.1,Ik.1,Ik.1]
  .unfold quad;rw[Mf.2,Mf.2,Ik.1,Ik.1]
 rw[A]at a;rw[a];congr 1
 .rw[L6]
  grind
 .rw[L6]
  grind
theorem Rs.join{G:Gv}{c:Sc}{n i j m:Nat}{a:L_}(h:∀p,p<4->Rs G c n (2*i+(c.R%2^(n+1)/2^n+p%2)) (2*j+(c.D%2^(n+1)/2^n+p/2)) (a p))(f:G[m]?=n_ ⟨[(a 0:Int),(a 1:Int),(a 2:Int),(a 3:Int)],(n:Int)+1⟩):Rs G c (n+1) i j m:=by
 have nm:IR G n m _ (a 0) (a 1) (a 2) (a 3):=⟨f,Z,Z,(h 0 A4).lev,(h 1 A4).lev,(h 2 A4).lev,(h 3 A4).lev⟩
 refine⟨⟨_,f,by show(n:Int)+1=_;lia⟩,λx y b d=>?_⟩;have g:=Ca b d;rw[BM nm b d,LS a g,(h _ g).cell _ _ (F9 _ (AL n)) (F9 _ (AL n))];obtain⟨k,l⟩:=GD b d;rw[k,l];have e:∀(R x:Nat),R%2^(n+1)/2^n*2^n+R%2^n=R%2^(n+1):=λR x=>by
  have:=O0 (R%2^(n+1)) (2^n);rw[EQ]at this;rw[U4];exact this
 have dx:∀x:Nat,x/2^n*2^n+x%2^n=x:=λx=>by
  rw[U4];exact O0 _ _
 have o:=e c.R x;have q:=e c.D y;have r:=dx x;have s:=dx y;congr 1
 .rw[show i*2^(n+1)=2*i*2^n by rw[L6];grind,X9,X9];lia
 .rw[show j*2^(n+1)=2*j*2^n by rw[L6];grind,X9,X9];lia
theorem QAt.one{G:Gv}(ok:GOk G){c:Sc}{n i j l s:Nat}{q t:L_}(h:QAt G c n i j q)(h':QAt G c n l s t)(e:∀x y,x<2^(n+1)->y<2^(n+1)->c.Φ (i*2^n+x) (j*2^n+y)=c.Φ (l*2^n+x) (s*2^n+y)){k:Nat}(g:k<4):q k=t k:=by
 refine Mi ok (h.a.lev k g) (h'.a.lev k g) λx y u v=>?_;obtain⟨d,f,o,p,r⟩:=Fn g u v;by_cases m:mk1 c.R n (x+2^n*(k%2))/\mk1 c.D n (y+2^n*(k/2))
 .have a:=h.a.ag _ _ d f m.1 m.2;have b:=h'.a.ag _ _ d f m.1 m.2;rw[o,p,r]at a b;rw[a,b,e _ _ d f]
 .have a:=h.off _ _ d f m;have b:=h'.off _ _ d f m;rw[o,p,r]at a b;rw[a,b]
theorem QAt.ne{G r:Gv}(s:G=G0++r)(ok:GOk G){c:Sc}{n i j:Nat}{q:L_}(t:n<=48)(h:QAt G c n i j q){k:Nat}(f:k<4)(b:q k≠bareN n):NE c.Φ n i j:=by
 obtain⟨x,y,u,v,l⟩:=UM s ok t (h.a.lev k f) b;obtain⟨d,e,g,o,p⟩:=Fn f u v;refine⟨_,_,d,e,?_⟩;by_cases m:mk1 c.R n (x+2^n*(k%2))/\mk1 c.D n (y+2^n*(k/2))
 .have a:=h.a.ag _ _ d e m.1 m.2;rw[g,o,p]at a;rw[<-a];exact l
 .have a:=h.off _ _ d e m;rw[g,o,p]at a;exact absurd a l
seal L2.PA L2.PE L2.PS L2.PSs L2.PT L2.PW
def kQ(q:L_):List Key:=kOf [(q 0:Int),(q 1:Int),(q 2:Int),(q 3:Int)]
theorem aBO{q a:L_}(e:kQ q=kQ a):∀k,k<4->q k=a k:=by
 have e:=JK e;injection e with e0 e
 injection e with e1 e
 injection e with e2 e
 injection e with e3 _
 intro k b
 match k,b with
 |0,_=>exact A1b e0
 |1,_=>exact A1b e1
 |2,_=>exact A1b e2
 |3,_=>exact A1b e3
theorem aBN{q a:L_}(e:∀k,k<4->q k=a k):kQ q=kQ a:=by
 unfold kQ;rw[e 0 A4,e 1 A4,e 2 A4,e 3 A4]
structure aF4(G:Gv)(c:Sc)(p:List Key×V)(n i j:Nat)(q:L_)(m:Nat):Prop where
e:p=(kQ q,.int m)
at':QAt G c n i j q
rs:Rs G c n i j m
nb:∃k,k<4/\q k≠bareN n
le:n<=48
structure SOk(G:Gv)(c:Sc)(kvs:List (List Key×V)):Prop where
nd:(kvs.map (·.1)).Nodup
val:∀p∈kvs,∃n i j q m,aF4 G c p n i j q m
theorem sok0(G:Gv)(c:Sc):SOk G c []:=⟨T3,λp a=>by simp at a⟩
theorem SOk.go{G a:Gv}{k:Nat}{c:Sc}{kvs:List (List Key×V)}(ok:GOk G)(go:AJ G a k)(h:SOk G c kvs):SOk a c kvs:=⟨h.nd,λp b=>by
 obtain⟨n,i,j,q,m,e⟩:=h.val p b;exact⟨n,i,j,q,m,e.e,e.at'.app ok go,e.rs.app ok go,e.nb,e.le⟩⟩
theorem SOk.put{G:Gv}{c:Sc}{kvs:List (List Key×V)}{n i j m:Nat}{q:L_}(h:SOk G c kvs)(b:aF4 G c (kQ q,.int m) n i j q m)(no:Bv kvs (kQ q)=o0):SOk G c (DR kvs (kQ q) (.int m))/\(DR kvs (kQ q) (.int m)).length=kvs.length+1:=by
 have a:=aCd (.int m) h.nd no;rw[GF _ no]at a⊢;refine⟨⟨a,λp d=>?_⟩,by rw[C6];rfl⟩;rcases F6.mp d with z|z
 .exact h.val p z
 .rw[D4]at z;subst z;exact⟨n,i,j,q,m,b⟩
theorem TB{k:List Key}{v:V}:∀{l:List (List Key×V)},Bv l k=n_ v->(k,v)∈l
|[],h=>by cases h
|p::r,h=>by
 by_cases e:p.1=k
 .rw[BV e]at h;cases h;rw[<-e];exact C8
 .rw[Bz e]at h;exact C9 _ (TB h)
def KCo(G:Gv)(c:Sc)(k:List Key)(x:Nat):Prop:=∃n i j q,k=kQ q/\QAt G c n i j q/\(∃k,k<4/\q k≠bareN n)/\n<=48/\x=n*c.M+c.cl n i j
theorem SOk.len{G r:Gv}(w:G=G0++r)(ok:GOk G){c:Sc}(u:Wq c){kvs:List (List Key×V)}(h:SOk G c kvs):kvs.length<=49*c.M:=by
 classical
 have:=Md (49*c.M) ((kvs.map (·.1)).map (λk=>if z:∃x,KCo G c k x then Classical.choose z else 0)) (by
  rw[U3,S7];refine List.Pairwise.imp_of_mem (λ{x y} F H B z=>B ?_) (U3.mp h.nd);obtain⟨p,C,rfl⟩:=D0.mp F;obtain⟨p',D,rfl⟩:=D0.mp H;obtain⟨n,i,j,q,m,e⟩:=h.val p C;obtain⟨n',i',j',t,m',o⟩:=h.val p' D;have A:=e.e;have e2:=o.e;subst A e2;have g:∃x,KCo G c (kQ q) x:=⟨_,n,i,j,q,Z,e.at',e.nb,e.le,Z⟩
  have X:∃x,KCo G c (kQ t) x:=⟨_,n',i',j',t,Z,o.at',o.nb,o.le,Z⟩
  have z:(if z:∃x,KCo G c (kQ q) x then Classical.choose z else 0)=(if z:∃x,KCo G c (kQ t) x then Classical.choose z else 0):=z;rw[dif_pos g,dif_pos X]at z;obtain⟨a,I,K,q1,U,l,v,f,N⟩:=A8b g;obtain⟨s,S,T,q2,k2,Q,b2,W,y2⟩:=A8b X;rw[N,y2]at z;obtain⟨w1,b,d⟩:=v;obtain⟨w2,E,L⟩:=b2;have O:=l.ne w ok f b d;have P:=Q.ne w ok W E L;have R:=u.lt _ _ _ f O;have Y:=u.lt _ _ _ W P;have en:a=s:=by
   have d1:(a*c.M+c.cl a I K)/c.M=a:=by rw[U4,Nat.mul_add_div A3,O2 R,Nat.add_zero]
   have d2:(s*c.M+c.cl s S T)/c.M=s:=by rw[U4,Nat.mul_add_div A3,O2 Y,Nat.add_zero]
   rw[<-d1,z,d2]
  subst en;have ec:c.cl a I K=c.cl a S T:=by lia
  show kQ q=kQ t;rw[U,k2];exact aBN λk hk=>l.one ok Q (u.same _ _ _ _ _ f O P ec) hk) (λx F=>by
  obtain⟨y,H,rfl⟩:=D0.mp F;obtain⟨p,C,rfl⟩:=D0.mp H;obtain⟨n,i,j,q,m,e⟩:=h.val p C;have A:=e.e;subst A;have g:∃x,KCo G c (kQ q) x:=⟨_,n,i,j,q,Z,e.at',e.nb,e.le,Z⟩
  show(if z:∃x,KCo G c (kQ q) x then Classical.choose z else 0)<_;rw[dif_pos g];obtain⟨a,I,K,q1,U,l,v,f,N⟩:=A8b g;obtain⟨w1,b,d⟩:=v;have R:=u.lt _ _ _ f (l.ne w ok f b d);rw[N];have:a*c.M+c.M<=49*c.M:=by
   rw[<-K6];exact X7 _ A3
  lia)
 rw[B7,B7]at this;exact this
def UnS(G:Gv)(N:Nat)(kvs kvs':List (List Key×V)):Prop:=∀(q:L_)(N':Nat),Ao G (q 0) (N':Int)->N<N'->Bv kvs (kQ q)=o0->Bv kvs' (kQ q)=o0
theorem UnS.refl(G:Gv)(N:Nat)(kvs:List (List Key×V)):UnS G N kvs kvs:=λ_ _ _ _ h=>h
theorem UnS.trans{G d:Gv}{k N:Nat}{a b c:List (List Key×V)}(go:AJ G d k)(h:UnS G N a b)(i:UnS d N b c):UnS G N a c:=λq e f g z=>i q e (go.lev f) g (h q e f g z)
section
variable{P:N_}{w:Q_}{K:O_}{mg:C_}{n8:T_}{a:Ad}
def Ck(q:L_):List V:=[.int (q 0:Int),.int (q 1:Int),.int (q 2:Int),.int (q 3:Int)]
inductive aGW(vs:List V)(H:Hp)(Q:VK):Prop
|mk (t:R_) (q:L_) (R D n:Nat) (_:vs=[.ref t,.int ((R%2^n:Nat):Int),.int ((D%2^n:Nat):Int),.int (bareN n:Int)]) (_:H t=n_ (.tup (Ck q))) (_:∀(t':R_)(H':Hp),Ay H H'->H' t'=n_ (.tup (Ck (wuQ R D n q)))->Q (.ref t') H'):aGW vs H Q
def aFk:Sp:=λvs H Q _=>aGW vs H Q
theorem aCc{n:Nat}:decide (V.int (n:Int)=V.int 0)=decide (n=0):=by
 by_cases z:n=0
 .subst z;rw[A0e (rfl:(0:Nat)=0)];exact A0e Z
 .rw[A0f z,A0f];intro q;injection q with q
  lia
theorem aHP(F:Fun K "without_unseen" "without_unseen" EX f fd)(T:Top K mg a):AM P w K mg n8 CX0 1 f fd Oq aFk:=by
 refine F.ok Nj D_9 λl A g s H vs Q E m h=>?_
 obtain⟨t,q,R,D,n,rfl,d,k⟩:=h;refine⟨_,(Ae (AO (AA CQ (pv 1) Ac (AD _)) (Ah (Au (BH (Aa (Aj Al (pv 0) Ac R_9) (Aa (pv 3) (Aa (Aj Al (pv 0) Ac R_9) (Aa (pv 3) Ab))))))) AB) (Ae (AO (AA CQ (pv 2) Ac (AD _)) (Ah (Au (BH (Aa (Aj Al (pv 0) Ac R_9) (Aa (Aj Al (pv 0) Ac R_9) (Aa (pv 3) (Aa (pv 3) Ab))))))) AB) (Ah (Au (pv 0))))),?_⟩;have o:∀{i:Hp},Ay H i->i t=n_ (.tup (Ck q)):=λs=>s _ _ d;refine xq1 Z ⟨Z,(xq1 Z ?_)⟩;rw[aCc];by_cases b:R%2^n=0
 .rw[A0e b];refine BR (xwi Z Z Z (SqT.of d) (Ai (j:=0) Z) (xwj Z Z Z Z (SqT.of d) (Ai (j:=2) Z) (xq1 Z ⟨S_4,λp e=>k p _ (AH e) ?_⟩)));rw[Af];show n_ (HO.tup [V.int (q 0:Int),V.int (bareN n:Int),V.int (q 2:Int),V.int (bareN n:Int)])=_;unfold Ck wuQ;rw[A0g b,A0g b,A0g b,A0g b];rfl
 rw[A0f b];refine Ba (xq1 Z ⟨Z,(xq1 Z ?_)⟩);rw[aCc];by_cases c:D%2^n=0
 .rw[A0e c];refine BR (xwi Z Z Z (SqT.of d) (Ai (j:=0) Z) (xwi Z Z Z (SqT.of d) (Ai (j:=1) Z) (xw2 Z Z ⟨S_4,λp e=>k p _ (AH e) ?_⟩)));rw[Af];show n_ (HO.tup [V.int (q 0:Int),V.int (q 1:Int),V.int (bareN n:Int),V.int (bareN n:Int)])=_;unfold Ck wuQ;rw[A0d b,A0d b,A0d b,A0d b,A0g c,A0g c,A0g c,A0g c];rfl
 rw[A0f c];refine Ba (xq1 Z (k t H (Ay.refl H) ?_));rw[d];unfold Ck wuQ;rw[A0d b,A0d b,A0d b,A0d b,A0d c,A0d c,A0d c,A0d c]
inductive aGO(a:Ad)(vs:List V)(H:Hp)(Q:VK):Prop
|mk (g:GA) (G:Gv) (t:R_) (q:L_) (n:Nat) (sub:Nat->Nat->Nat) (_:vs=[.ref g.p,.ref t]) (_:Be a H g G) (_:H t=n_ (.tup (Ck q))) (_:Zv G n q sub) (_:∀(L r0 r1 r2 r3:R_)(H':Hp),Ay H H'->H L=o0->H' L=n_ (.lst [.ref r0,.ref r1,.ref r2,.ref r3])->H' r0=n_ (.tup (Ck (gq sub 0)))->H' r1=n_ (.tup (Ck (gq sub 1)))->H' r2=n_ (.tup (Ck (gq sub 2)))->H' r3=n_ (.tup (Ck (gq sub 3)))->Q (.ref L) H'):aGO a vs H Q
def aFi(a:Ad):Sp:=λvs H Q _=>aGO a vs H Q
theorem aHD(F:Fun K "rows_of_quarters" "rows_of_quarters" Ee f fd)(T:Top K mg a):AM P w K mg n8 CX0 1 f fd Dc (aFi a):=by
 refine F.ok Ch D_9 λab A S s H vs Q E hr h=>?_
 obtain⟨g,G,t,q,n,b,rfl,m,N,M,k⟩:=h;refine⟨_,(Ae (Am (i:=2) Ch.nd Z O_9 (Aj Az (AF (pv 0) Z) (Aj Al (pv 1) Ac R_9) R_9)) (Ae (Am (i:=3) Ch.nd Z O_9 (Aj Az (AF (pv 0) Z) (Aj Al (pv 1) Ac R_9) R_9)) (Ae (Am (i:=4) Ch.nd Z O_9 (Aj Az (AF (pv 0) Z) (Aj Al (pv 1) Ac R_9) R_9)) (Ae (Am (i:=5) Ch.nd Z O_9 (Aj Az (AF (pv 0) Z) (Aj Al (pv 1) Ac R_9) R_9)) (Ah (Au (BO (AV (Aa (Aj Al (pv 2) Ac R_9) (Aa (Aj Al (pv 2) Ac R_9) (Aa (Aj Al (pv 3) Ac R_9) (Aa (Aj Al (pv 3) Ac R_9) Ab)))) (AV (Aa (Aj Al (pv 2) Ac R_9) (Aa (Aj Al (pv 2) Ac R_9) (Aa (Aj Al (pv 3) Ac R_9) (Aa (Aj Al (pv 3) Ac R_9) Ab)))) (AV (Aa (Aj Al (pv 4) Ac R_9) (Aa (Aj Al (pv 4) Ac R_9) (Aa (Aj Al (pv 5) Ac R_9) (Aa (Aj Al (pv 5) Ac R_9) Ab)))) (AV (Aa (Aj Al (pv 4) Ac R_9) (Aa (Aj Al (pv 4) Ac R_9) (Aa (Aj Al (pv 5) Ac R_9) (Aa (Aj Al (pv 5) Ac R_9) Ab)))) Ab))))))))))),?_⟩;obtain⟨s0,n0⟩:=M.nd 0 A4;obtain⟨s1,n1⟩:=M.nd 1 A4;obtain⟨s2,n2⟩:=M.nd 2 A4;obtain⟨s3,n3⟩:=M.nd 3 A4;obtain⟨ts,ta,h3,ea,B⟩:=EJ m.at' n0;obtain⟨ac,tb,O,eb,C⟩:=EJ m.at' n1;obtain⟨aa,tc,r,ec,D⟩:=EJ m.at' n2;obtain⟨V,td,p,ed,I⟩:=EJ m.at' n3;refine xwf Z Z m.at'.hp T.L0 T.L4 (Cs g) (xwi Z Z Z (SqT.of N) (Ai (j:=0) Z) (xq4 Z Z (SqL.of h3) (Ai ea) ?_));refine xwf Z Z m.at'.hp T.L0 T.L4 (Cs g) (xwi Z Z Z (SqT.of N) (Ai (j:=1) Z) (xq4 Z Z (SqL.of O) (Ai eb) ?_));refine xwf Z Z m.at'.hp T.L0 T.L4 (Cs g) (xwi Z Z Z (SqT.of N) (Ai (j:=2) Z) (xq4 Z Z (SqL.of r) (Ai ec) ?_));refine xwf Z Z m.at'.hp T.L0 T.L4 (Cs g) (xwi Z Z Z (SqT.of N) (Ai (j:=3) Z) (xq4 Z Z (SqL.of p) (Ai ed) ?_));have c:=Ay.refl H;refine xwi Z Z Z (SqT.of (c _ _ B)) (Ai (j:=0) Z) (xwi Z Z Z (SqT.of (c _ _ B)) (Ai (j:=1) Z) (xwi Z Z Z (SqT.of (c _ _ C)) (Ai (j:=0) Z) (xwi Z Z Z (SqT.of (c _ _ C)) (Ai (j:=1) Z) ⟨S_4,λX R=>?_⟩)));have d:=c.trans (AH (o:=.tup (Ck (gq b 0))) R);refine xwi Z Z Z (SqT.of (d _ _ B)) (Ai (j:=2) Z) (xwi Z Z Z (SqT.of (d _ _ B)) (Ai (j:=3) Z) (xwi Z Z Z (SqT.of (d _ _ C)) (Ai (j:=2) Z) (xwi Z Z Z (SqT.of (d _ _ C)) (Ai (j:=3) Z) ⟨S_4,λY u=>?_⟩)));have e:=d.trans (AH (o:=.tup (Ck (gq b 1))) u);refine xwi Z Z Z (SqT.of (e _ _ D)) (Ai (j:=0) Z) (xwi Z Z Z (SqT.of (e _ _ D)) (Ai (j:=1) Z) (xwi Z Z Z (SqT.of (e _ _ I)) (Ai (j:=0) Z) (xwi Z Z Z (SqT.of (e _ _ I)) (Ai (j:=1) Z) ⟨S_4,λp2 v=>?_⟩)));have l:=e.trans (AH (o:=.tup (Ck (gq b 2))) v);refine xwi Z Z Z (SqT.of (l _ _ D)) (Ai (j:=2) Z) (xwi Z Z Z (SqT.of (l _ _ D)) (Ai (j:=3) Z) (xwi Z Z Z (SqT.of (l _ _ I)) (Ai (j:=2) Z) (xwi Z Z Z (SqT.of (l _ _ I)) (Ai (j:=3) Z) ⟨S_4,λp3 x=>?_⟩)));have y:=l.trans (AH (o:=.tup (Ck (gq b 3))) x);refine⟨S_4,λL W=>?_⟩;have t0:=AH (o:=.tup (Ck (gq b 1))) u;have t1:=AH (o:=.tup (Ck (gq b 2))) v;have U:=AH (o:=.tup (Ck (gq b 3))) x;have z:=AH (o:=.lst [.ref X,.ref Y,.ref p2,.ref p3]) W;exact k L X Y p2 p3 _ (y.trans z) (Ay.noneOf y W) Af (z _ _ (U _ _ (t1 _ _ (t0 _ _ Af)))) (z _ _ (U _ _ (t1 _ _ Af))) (z _ _ (U _ _ Af)) (z _ _ Af)
end
theorem Pj(q:L_){k:Nat}(a:k<4):(Ck q)[k]?=n_ (.int (q k:Int)):=by
 match k,a with
 |0,_=>rfl
 |1,_=>rfl
 |2,_=>rfl
 |3,_=>rfl
section
variable{P:N_}{w:Q_}{K:O_}{mg:C_}{n8:T_}{a:Ad}
inductive aGP(a:Ad)(n:Nat)(vs:List V)(H:Hp)(Q:VK):Prop
|mk (g:GA) (G:Gv) (c:Sc) (kn tf:R_) (kvs:List (List Key×V)) (q:L_) (i j N:Nat) (_:vs=[.ref g.p,.ref tf,.int ((c.R%2^N:Nat):Int),.int ((c.D%2^N:Nat):Int),.ref kn]) (_:Be a H g G) (_:H kn=n_ (.dT kvs)) (_:kn∉DV g) (_:H tf=n_ (.tup (Ck q))) (_:Ag G c N i j q) (_:SOk G c kvs) (_:Wq c) (_:N<n) (_:N<=47) (_:G.length+49*c.M<8000000+kvs.length/\49*c.M<4000000) (_:∀(m:Nat)(G':Gv)(kvs':List (List Key×V))(H':Hp),Fx (frM g kn) H H'->Be a H' g G'->H' kn=n_ (.dT kvs')->SOk G' c kvs'->kvs.length<=kvs'.length->AJ G G' (kvs'.length-kvs.length)->UnS G N kvs kvs'->Rs G' c N i j m->Q (.int m) H'):aGP a n vs H Q
def ZW(a:Ad)(n:Nat):Sp:=λvs H Q _=>aGP a n vs H Q
inductive aGQ(a:Ad)(n:Nat)(vs:List V)(H:Hp)(Q:VK):Prop
|mk (g:GA) (G:Gv) (c:Sc) (kn tf:R_) (kvs:List (List Key×V)) (q:L_) (i j N:Nat) (_:vs=[.ref g.p,.ref tf,.int ((c.R%2^(N+1):Nat):Int),.int ((c.D%2^(N+1):Nat):Int),.ref kn]) (_:Be a H g G) (_:H kn=n_ (.dT kvs)) (_:kn∉DV g) (_:H tf=n_ (.tup (Ck q))) (_:QAt G c (N+1) i j q) (_:SOk G c kvs) (_:Wq c) (_:N<n) (_:N<=46) (_:G.length+49*c.M<8000000+kvs.length/\49*c.M<4000000) (_:∀(m:Nat)(G':Gv)(kvs':List (List Key×V))(H':Hp),Fx (frM g kn) H H'->Be a H' g G'->H' kn=n_ (.dT kvs')->SOk G' c kvs'->kvs.length<=kvs'.length->AJ G G' (kvs'.length-kvs.length+1)->UnS G N kvs kvs'->Rs G' c (N+1) i j m->Q (.int m) H'):aGQ a n vs H Q
def aHn(a:Ad)(n:Nat):Sp:=λvs H Q _=>aGQ a n vs H Q
theorem aHI{n d:Nat}(hd:2<=d)(F:Fun K "seen_quarters" "seen_quarters" DX f fd)(T:Top K mg a)(aM:Cal P w K mg n8 CX0 1 "rows_of_quarters" Dc (aFi a))(a6:Co P w K mg n8 CX0 2 a.N1 "linked" AZ (Ey a))(cD:Cal P w K mg n8 CX0 d "seen_at" Gi (ZW a n)):AM P w K mg n8 CX0 (d+1) f fd Gi (aHn a n):=by
 refine F.ok BC (λvs H Q E h=>?_) (λbp A bi s H vs Q E hr h=>?_)
 .apply Br;intro G_ u;obtain⟨g,G,c,X,tf,kvs,q,i,j,N,rfl,_⟩:=h;apply u;clear u G_;rfl
 .apply Br;intro G_ u;obtain⟨g,G,c,X,tf,kvs,q,i,j,N,rfl,W,hk,nk,az,qa,bj,sc,Nn,a5,⟨few,au⟩,k⟩:=h;apply u;clear u G_;refine⟨_,(Ae (Am (i:=5) BC.nd Z O_9 (AE Om Ac (AE Bq (Aj Az (AF (pv 0) Z) (Aj Al (pv 1) Ac R_9) R_9) Ac))) (Ae (Am (i:=6) BC.nd Z O_9 (Ar aM (rm hr) Z Aq (Aa (pv 0) (Aa (pv 1) Ab)))) (Ae (Am (i:=7) BC.nd Z O_9 (BO Ab)) (Ae (BX A1c Z (Cm Z T.U_ (AG Ab)) (Bd (i:=8) BC.nd Z O_9) (Ae (Am (i:=9) BC.nd Z O_9 (AE AR (AE NB (pv 2) (pv 5)) (AE Bf (pv 8) Ac))) (Ae (Am (i:=10) BC.nd Z O_9 (AE AR (AE NB (pv 3) (pv 5)) (AE CF (pv 8) Ac))) (Ae (Am (i:=11) BC.nd Z O_9 (BH (Aa (Aj Al (Aj Az (pv 6) (pv 10) R_9) (pv 9) R_9) (Aa (Aj Al (Aj Az (pv 6) (pv 10) R_9) (AE AR (pv 9) Ac) R_9) (Aa (Aj Al (Aj Az (pv 6) (AE AR (pv 10) Ac) R_9) (pv 9) R_9) (Aa (Aj Al (Aj Az (pv 6) (AE AR (pv 10) Ac) R_9) (AE AR (pv 9) Ac) R_9) Ab)))))) (Ah (BP (Du A1g A1h A2a BL (pv 7) (Aa (Ar cD (rm hr) Z Aq (Aa (pv 0) (Aa (pv 11) (AT Bf (pv 2) (pv 5) (AT Bf (pv 3) (pv 5) (Aa (pv 4) Ab)))))) Ab)))))))) (Ah (Au (AK (pv 0) a6 (rm hr) Aq (Aa (BK BU Z T.f_ A2f (Aa (pv 7) Ab)) Ab)))))))),?_⟩;obtain⟨b,hs⟩:=aDE W.ok qa.a.lev;obtain⟨q0,a7,af⟩:=id (qa.a.lev 0 A4);have bb:(1:Int)*2^(q0.lev-1).toNat=((2^N:Nat):Int):=by
   rw[af,show(((N+1:Nat):Int)-1).toNat=N by lia,Int.one_mul,FF]
  refine xwf Z Z W.at'.hp T.L0 T.Q2 (Fo g) (xwi Z Z Z (SqT.of az) (Ai (j:=0) Z) (xq4 Z Z (SqL.of W.at'.lv) (Ai (by rw[C0,a7];rfl)) (xq2 Z Z (xq2 Z Z ⟨⟨by rw[af];lia,by rw[af];lia,by decide⟩,?_⟩))));rw[show(λ(i j:Int)=>V.int (i*2^j.toNat)) 1 ((λ(i j:Int)=>i-j) q0.lev 1)=V.int ((2^N:Nat):Int)from A2c V.int bb];refine xw2 Z Z ⟨g,G,tf,q,N,b,Z,W,az,hs,λL r0 r1 r2 r3 H2 s2 nL hL h0 h1 h2 h3=>?_⟩;refine⟨S_0,λI ac=>?_⟩;have s3:=AH (o:=.lst []) ac;have aw:upd H2 I (.lst []) I=n_ (.lst []):=Af;show(Vu _ _) _ _ (upd H2 I (.lst []));generalize upd H2 I (.lst [])=H3 at s3 aw⊢;have al:=s2.trans s3;have ak:H I=o0:=Ay.noneOf s2 ac;have rows:∀{r:Nat},r<4->∃x,[V.ref r0,V.ref r1,V.ref r2,V.ref r3][r]?=n_ (.ref x)/\H3 x=n_ (.tup (Ck (gq b r))):=λ{r} hr=>by
   match r,hr with
   |0,_=>exact⟨r0,Z,s3 _ _ h0⟩
   |1,_=>exact⟨r1,Z,s3 _ _ h1⟩
   |2,_=>exact⟨r2,Z,s3 _ _ h2⟩
   |3,_=>exact⟨r3,Z,s3 _ _ h3⟩
  have ba:=s3 _ _ hL;have a8:=W.same al;have bd:=al _ _ hk;have aa:I∉DV g:=λz=>by
   obtain⟨oo,e⟩:=(W.same s2).nw.s I z;rw[ac]at e;cases e
  have a0:I≠X:=λz=>by
   rw[z,hk]at ak;cases ak
  have mF:I∉frM g X:=λz=>by
   simp only[frM,C1,D9,A2e]at z;rcases z with z|z|z|z
   .exact aa (by rw[z];simp[DV])
   .exact aa (by rw[z];simp[DV])
   .exact aa (by rw[z];simp[DV])
   .exact a0 z
  have LF:L∉I::frM g X:=λz=>by
   rcases C1.mp z with z|z
   .rw[z]at hL;rw[ac]at hL;cases hL
   .simp only[frM,C1,D9,A2e]at z;have ex:∃o,H L=n_ o:=by
     rcases z with z|z|z|z
     .exact W.nw.s L (by rw[z];simp[DV])
     .exact W.nw.s L (by rw[z];simp[DV])
     .exact W.nw.s L (by rw[z];simp[DV])
     .exact⟨_,by rw[z];exact hk⟩
    obtain⟨o,e⟩:=ex;rw[nL]at e;cases e
  clear h0 h1 h2 h3 hL s2 s3;have c2:c.R%2^(N+1)/2^N<2:=Cd (F9 _ (AL _));have d2:c.D%2^(N+1)/2^N<2:=Cd (F9 _ (AL _));have pN:0<2^N:=AL N;have pI:(0:Int)<((2^N:Nat):Int):=by lia
  have a3:((2^N:Nat):Int)<2^64:=by
   have:2^N<=2^46:=O9 A4 a5;lia
  have aq:∀R:Nat,((R%2^(N+1):Nat):Int)%((2^N:Nat):Int)=((R%2^N:Nat):Int):=λR=>by rw[<-Int.natCast_emod,EQ]
  refine⟨4,Z,by decide,by decide,?_⟩;refine Ce (n:=4) (λp σ H4=>∃(G4:Gv)(l:List (List Key×V))(B:L_)(u8 u9 am an:Option V),σ=[n_ (.ref g.p),n_ (.ref tf),n_ (.int ((c.R%2^(N+1):Nat):Int)),n_ (.int ((c.D%2^(N+1):Nat):Int)),n_ (.ref X),n_ (.int ((2^N:Nat):Int)),n_ (.ref L),n_ (.ref I),u8,u9,am,an]/\Fx (I::frM g X) H3 H4/\H4 I=n_ (.lst ((List.range p).map λx=>V.int (B x:Nat)))/\Be a H4 g G4/\H4 X=n_ (.dT l)/\SOk G4 c l/\kvs.length<=l.length/\AJ G G4 (l.length-kvs.length)/\UnS G N kvs l/\∀x,x<p->Rs G4 c N (2*i+(c.R%2^(N+1)/2^N+x%2)) (2*j+(c.D%2^(N+1)/2^N+x/2)) (B x)) ⟨G,kvs,λ_=>0,o0,o0,o0,o0,Z,Fx.refl _ H3,aw,a8,bd,bj,B8 _,(AJ.refl W.ok).mono A3,UnS.refl _ _ _,λx hx=>absurd hx (N3 _)⟩ ?_ ?_
  .rintro p σ H4 hp bo;apply Br;intro G_ u;obtain⟨G4,l,B,u8,u9,am,an,rfl,x4,aj,t,ai,U,a2,M,ao,S⟩:=bo;apply u;clear u G_;have eC:((c.R%2^(N+1):Nat):Int)/((2^N:Nat):Int)+(0+(p:Int))%2=((c.R%2^(N+1)/2^N+p%2:Nat):Int):=by rw[<-V5];lia
   have eD:((c.D%2^(N+1):Nat):Int)/((2^N:Nat):Int)+(0+(p:Int))/2=((c.D%2^(N+1)/2^N+p/2:Nat):Int):=by rw[<-V5];lia
   have ag:=(qa.inner hs hp).app W.ok M;have C2:c.R%2^(N+1)/2^N+p%2<3:=by lia
   have D2:c.D%2^(N+1)/2^N+p/2<3:=by lia
   refine xw2 Z Z (xq2 Z Z ⟨⟨pI,a3⟩,(xwb Z Z Z ⟨(by show(0:Int)<2;decide),(xq2 Z Z ?_)⟩)⟩);rw[show(λ(i j:Int)=>V.int (i+j)) (((c.R%2^(N+1):Nat):Int)/((2^N:Nat):Int)) ((0+(p:Int))%2)=V.int ((c.R%2^(N+1)/2^N+p%2:Nat):Int)from A2c V.int eC];refine xw2 Z Z (xq2 Z Z ⟨⟨pI,a3⟩,(xwb Z Z Z ⟨⟨by decide,by decide⟩,(xq2 Z Z ?_)⟩)⟩);rw[show(λ(i j:Int)=>V.int (i+j)) (((c.D%2^(N+1):Nat):Int)/((2^N:Nat):Int)) ((0+(p:Int))/2)=V.int ((c.D%2^(N+1)/2^N+p/2:Nat):Int)from A2c V.int eD];generalize hC:c.R%2^(N+1)/2^N+p%2=C at ag C2⊢;generalize a9:c.D%2^(N+1)/2^N+p/2=v at ag D2⊢;obtain⟨y0,ar,ad⟩:=rows (r:=v) A3;obtain⟨y1,as,ae⟩:=rows (r:=v+1) A3;have ab:=x4.get LF ba;have ad:=x4.tup ad;have ae:=x4.tup ae;have b0:=Pj (gq b v) (k:=C) A3;have b1:=Pj (gq b v) (k:=C+1) A3;have b2:=Pj (gq b (v+1)) (k:=C) A3;have b3:=Pj (gq b (v+1)) (k:=C+1) A3;refine xwj Z Z Z Z (SqL.of ab) (Ai ar) (xwi Z Z Z (SqT.of ad) (Ai b0) ?_);refine xwj Z Z Z Z (SqL.of ab) (Ai ar) (xwb Z Z Z (xq4 Z Z (SqT.of ad) (Ai b1) ?_));refine xw2 Z Z (xq2 Z Z (xq4 Z Z (SqL.of ab) (Ai as) (xwi Z Z Z (SqT.of ae) (Ai b2) ?_)));refine xw2 Z Z (xq2 Z Z (xq4 Z Z (SqL.of ab) (Ai as) (xwb Z Z Z (xq4 Z Z (SqT.of ae) (Ai b3) ?_))));refine⟨S_4,λqp bf=>?_⟩;have Y:=AH (o:=.tup (Ck (Tc b v C))) bf;have h5:upd H4 qp (.tup (Ck (Tc b v C))) qp=n_ (.tup (Ck (Tc b v C))):=Af;obtain⟨H5,e5⟩:∃H5,upd H4 qp (.tup (Ck (Tc b v C)))=H5:=⟨_,Z⟩
   have et:[V.int (gq b v C:Int),V.int (gq b v (C+1):Int),V.int (gq b (v+1) C:Int),V.int (gq b (v+1) (C+1):Int)]=Ck (Tc b v C):=rfl;rw[et,e5];rw[e5]at Y h5;clear e5 et;have x5:=x4.trans (Ay.fx Y);have ax:=Y _ _ aj;have g4:=M.few;refine xq1 Z ⟨.inl ⟨Z,_,SqL.of ax⟩,(xw3 Z Z Z (xwb Z Z Z ⟨pI,(xw2 Z Z (xq2 Z Z ⟨pI,(xq1 Z ?_)⟩))⟩))⟩;refine⟨g,G4,c,X,qp,l,Tc b v C,2*i+C,2*j+v,N,?_,t.same Y,Y _ _ ai,nk,h5,ag,U,sc,Nn,by lia,⟨by lia,au⟩,λm G6 a1 H6 x6 ah be a4 bq O bl bh=>?_⟩
   .show [V.ref g.p,V.ref qp,V.int (((c.R%2^(N+1):Nat):Int)%((2^N:Nat):Int)),V.int (((c.D%2^(N+1):Nat):Int)%((2^N:Nat):Int)),V.ref X]=_;rw[aq,aq]
   have ay:=x6.get mF ax;refine⟨I,_,.int m,Z,Z,ay,by rw[B7,O8];exact DU A3,?_⟩;have x7:=aBA (o':=.lst (((List.range p).map λx=>V.int (B x:Nat))++[.int m])) ay (λz=>z);refine⟨G6,a1,λx=>if x=p then m else B x,_,_,_,_,Z,(x5.trans (x6.mono (by simp[frM]))).trans (x7.mono B0),?_,ah.fx x7 (λy hy z=>aa (by rw[D4]at z;rw[<-z];exact hy)),x7.get (by simpa using A1a a0) be,a4,by lia,(M.trans O).mono A3,ao.trans M bl,λx hx=>?_⟩
   .rw[Af,U9,C7];congr 3
    .exact List.map_congr_left λx hx=>by
      show V.int (B x:Nat)=V.int ((if x=p then m else B x:Nat):Int);rw[A0d (by have:=M8.mp hx;lia)]
    .show [V.int m]=[V.int ((if p=p then m else B p:Nat):Int)]
     rw[A0g rfl]
   .dsimp only;by_cases z:x=p
    .subst z;rw[A0g rfl,hC,a9];exact bh
    .rw[A0d z];exact(S x A3).app t.ok O
  .rintro σ H4 bn;apply Br;intro G_ u;obtain⟨G4,l,B,u8,u9,am,an,rfl,x4,aj,t,ai,U,a2,M,ao,S⟩:=bn;apply u;clear u G_;have g4:=M.few;obtain⟨r4,e4⟩:=t.g0;have l4:=U.len e4 t.ok sc;refine xq1 Z ⟨g.p,g.dx,(xq1 Z ⟨t.at'.hp,Cc g,(xq1 Z ⟨I,(xq1 Z (.inl ⟨SqL.of aj,λtl bg=>?_⟩))⟩)⟩)⟩;have Y:=AH (o:=.tup [.int (B 0:Nat),.int (B 1:Nat),.int (B 2:Nat),.int (B 3:Nat)]) bg;refine⟨g,G4,tl,B 0,B 1,B 2,B 3,(N:Int),Z,t.at'.same Y,t.ok,Af,⟨(S 0 A4).lev,(S 1 A4).lev,(S 2 A4).lev,(S 3 A4).lev⟩,by lia,by lia,λm G6 H6 av bc O e6=>?_⟩;have x6:=av.fx (t.at'.same Y);have ah:=(t.same Y).fr av bc O;have bm:Fx (I::frM g X) H3 H6:=(x4.trans (Ay.fx Y)).trans (x6.mono (by simp[frM]));have kf:X∉[g.lv,g.pt,g.nm]:=λz=>nk (by simp[DV]at *;lia);exact k m G6 l H6 (Fx.fresh al bm ak) ah (x6.get kf (Y _ _ ai)) (U.go t.ok O) a2 (M.trans O) ao (Rs.join (λx hx=>(S x hx).app t.ok O) e6)
theorem aFJ{n d:Nat}(F:Fun K "seen_at" "seen_at" LX f fd)(T:Top K mg a)(hd:1<=d)(aP:Cal P w K mg n8 CX0 1 "without_unseen" Oq aFk)(dC:Cal P w K mg n8 CX0 d "seen_quarters" Gi (aHn a n)):AM P w K mg n8 CX0 (d+1) f fd Gi (ZW a (n+1)):=by
 refine F.ok EW (λvs H Q E h=>?_) (λa0 A aw s H vs Q E hr h=>?_)
 .apply Br;intro S b;obtain⟨g,G,c,kn,tf,kvs,q,i,j,N,rfl,_⟩:=h;apply b;clear b S;rfl
 .apply Br;intro S b;obtain⟨g,G,c,kn,tf,kvs,q,i,j,N,rfl,u,hk,nk,ad,ag,ae,sc,Nn,az,few,k⟩:=h;apply b;clear b S;refine⟨_,(Ae (AO (PW.pt (MR (AA CQ (pv 2) Ac (AD _)) (Jw (AA CQ (pv 3) Ac (AD _))))) (Ah (Au (Aj Al (pv 1) Ac R_9))) AB) (Ae (Am (i:=5) EW.nd Z O_9 (Aj Az (AF (pv 0) Z) (Aj Az (AF (pv 0) Z) (Aj Al (pv 1) Ac R_9) R_9) R_9)) (Ae (Am (i:=6) EW.nd Z O_9 (Ar aP (rm hr) Z Aq (Aa (pv 1) (Aa (pv 2) (Aa (pv 3) (Aa (pv 5) Ab)))))) (Ae (AO (AA (Rx hr.units) (pv 6) (BH (Aa (pv 5) (Aa (pv 5) (Aa (pv 5) (Aa (pv 5) Ab))))) (AD _)) (Ah (Au (pv 5))) AB) (Ae (Am (i:=7) EW.nd Z O_9 (IW (DM hr) (pv 4) (pv 6) ⟨Z,Z,Z,Z⟩)) (Ae (AO (AA El (pv 7) Cg (AD _)) (Ae (Am (i:=7) EW.nd Z O_9 (Ar dC (rm hr) Z Aq (Aa (pv 0) (Aa (pv 6) (Aa (pv 2) (Aa (pv 3) (Aa (pv 4) Ab))))))) (Ah (Fw (DM hr) (pv 4) (pv 6) (pv 7) Z))) AB) (Ah (Au (pv 7))))))))),?_⟩;obtain⟨r0,e0⟩:=u.g0;have r:∀{m:Nat}{U:Hp},Ay H U->Rs G c N i j m->Q (.int m) U:=λ{m U} s' mx=>k m G kvs U (Ay.fx s') (u.same s') (s' _ _ hk) ae (B8 _) ((AJ.refl u.ok).mono A3) (UnS.refl _ _ _) mx;refine xq1 Z ⟨Z,(xq1 Z ?_)⟩;rw[aCc];apply aGt (fun σ U=>H=U/\σ=[n_ (.ref g.p),n_ (.ref tf),n_ (.int ((c.R%2^N:Nat):Int)),n_ (.int ((c.D%2^N:Nat):Int)),n_ (.ref kn),o0,o0,o0]/\¬(c.R%2^N=0/\c.D%2^N=0))
  .intro L;by_cases z1:c.R%2^N=0
   .rw[A0e z1];refine BR (xq1 Z ⟨Z,(xq1 Z ?_)⟩);rw[aCc];by_cases z2:c.D%2^N=0
    .rw[A0e z2];exact BR (xwi Z Z Z (SqT.of ad) (Ai (j:=0) Z) (r (Ay.refl H) (ag.first z1 z2)))
    .rw[A0f z2];exact Ba (L _ _ ⟨Z,Z,λz=>z2 z.2⟩)
   .rw[A0f z1];exact Ba (Ba (L _ _ ⟨Z,Z,λz=>z1 z.1⟩))
  rintro σ U ⟨rfl,rfl,nz⟩;have C:=ag.wu e0 u.ok A3 nz;obtain⟨q0,ar,ao⟩:=id (ag.lev 0 A4);refine⟨_,Z,g.p,_,g.dx,_,_,Z,u.at'.hp,T.L0,T.Q3,IO g,_,Z,g.p,_,g.dx,_,_,Z,u.at'.hp,T.L0,T.Q2,Fo g,_,Z,tf,_,0,.int (q 0:Int),Z,Z,SqT.of ad,Ai (j:=0) Z,g.lv,_,(q 0:Int),.int q0.lev,Z,Z,SqL.of u.at'.lv,Ai (by rw[C0,ar];rfl),g.br,_,(N:Int),.int (bareN N:Int),Z,by rw[ao],SqL.of u.br,Ai (m6 A3),?_⟩;refine xw3 Z Z Z (xq1 Z ⟨tf,q,c.R,c.D,N,Z,ad,λt' H1 s1 ah=>?_⟩);generalize wuQ c.R c.D N q=l at C ah;refine xw3 Z Z Z (xw2 Z Z ⟨S_4,λtb ai=>?_⟩);have s2:=AH (o:=.tup [.int (bareN N:Int),.int (bareN N:Int),.int (bareN N:Int),.int (bareN N:Int)]) ai;have aa:upd H1 tb (.tup [.int (bareN N:Int),.int (bareN N:Int),.int (bareN N:Int),.int (bareN N:Int)]) tb=n_ (.tup (Ck λ_=>bareN N)):=Af;show ∃_,_;generalize upd H1 tb (.tup [.int (bareN N:Int),.int (bareN N:Int),.int (bareN N:Int),.int (bareN N:Int)])=H2 at s2 aa⊢;have B:=s1.trans s2;have ac:=s2 _ _ ah;have tq:∀q:Nat->Nat,Ck q=([(q 0:Int),(q 1:Int),(q 2:Int),(q 3:Int)]:I_).map V.int:=λq=>Z;refine⟨t',tb,[(l 0:Int),(l 1:Int),(l 2:Int),(l 3:Int)],[(bareN N:Int),(bareN N:Int),(bareN N:Int),(bareN N:Int)],Z,Z,SqT.of (by rw[<-tq];exact ac),SqT.of aa,(xq1 Z (IN (λz=>?_) (λz=>?_)))⟩
  .have z:=A2b z;apply Br;intro S b;obtain⟨z0,z1,z2,z3⟩:=aEV z;apply b;clear b S;refine xq1 Z (r B (C.bare e0 u.ok A3 λk hk=>?_))
   match k,hk with
   |0,_=>exact z0
   |1,_=>exact z1
   |2,_=>exact z2
   |3,_=>exact z3
  have nb:∃k,k<4/\l k≠bareN N:=A1d λy=>z (A0e (by
   have y:∀k,k<4->l k=bareN N:=λk hk=>A1d λw=>y ⟨k,hk,w⟩;rw[y 0 A4,y 1 A4,y 2 A4,y 3 A4]))
  clear aa z ai;have ab:=B _ _ hk;have as:=u.same B;have aj:H2 t'=n_ (.tup ((kQ l).map kV)):=ac;refine xq1 Z ⟨kn,Z,.inr ⟨kvs,.inl ab⟩,(xq1 Z ⟨_,GW.t ab aj,?_⟩)⟩;cases ev:Bv kvs (kQ l)with
  |some v =>
   apply Br;intro S b;obtain⟨n',i',j',a3,m,en⟩:=ae.val _ (TB ev);apply b;clear b S;have e2:=en.e;injection e2 with e2 e3
   subst e3;have W:=aBO e2;have aq:n'=N:=A1b ((en.at'.a.lev 0 A4).uniq (by rw[<-W 0 A4];exact C.a.lev 0 A4));subst aq;have ax:QAt G c n' i' j' l:=⟨⟨C.a.lev,λx y hx hy m1 m2=>by rw[W _ (Ca hx hy)];exact en.at'.a.ag x y hx hy m1 m2⟩,λx y hx hy m1=>by rw[W _ (Ca hx hy)];exact en.at'.off x y hx hy m1⟩
   exact xq1 Z ⟨Z,(xq1 Z (Ba (xq1 Z (r B (C.hit ax en.rs)))))⟩
  |none =>
   refine xq1 Z ⟨Z,(xq1 Z (BR ?_))⟩;obtain⟨M,rfl⟩:∃M,N=M+1:=by
    cases N with
    |zero=>exact absurd ⟨Nat.mod_one _,Nat.mod_one _⟩ nz
    |succ M=>exact⟨M,Z⟩
   refine xw3 Z Z Z (xw2 Z Z ?_);refine⟨g,G,c,kn,t',kvs,l,i,j,M,Z,as,ab,nk,ac,C,ae,sc,by lia,by lia,few,λm G3 I H3 x3 X af O a2 Y an al=>?_⟩;have g3:=Y.few;obtain⟨r3,e3⟩:=X.g0;have l3:=O.len e3 X.ok sc;have av:Bv I (kQ l)=o0:=an l (M+1) (C.a.lev 0 A4) A3 ev;have ak:H3 t'=n_ (.tup ((kQ l).map kV)):=x3.tup aj;refine xw3 Z Z Z ⟨kn,(xq1 Z ⟨Mq.t (k:=kQ l) af ak (DU A3),?_⟩)⟩;obtain⟨am,ay⟩:=O.put ⟨Z,C.app u.ok Y,al,nb,by lia⟩ av;have x4:=aBA (o':=.dT (DR I (kQ l) (.int m))) af (λz=>z);have au:=X.fx x4 (λy hy z=>nk (by rw[D4]at z;rw[<-z];exact hy));refine xq1 Z (k m G3 _ _ (((Ay.fx B).trans x3).trans (x4.mono (by simp[frM]))) au Af am A3 (Y.mono A3) ?_ al);intro q9 N' hN a1 z;rw[FC,A0d]
   .exact an q9 N' hN A3 z
   .intro y;have:=aBO y 0 A4;rw[this]at hN;have:=A1b (hN.uniq (C.a.lev 0 A4));lia
theorem aDy{f:R_}{m:E_}{r:R_}{e:E_}(F:Fun K "seen_at" "seen_at" LX f m)(o:Fun K "seen_quarters" "seen_quarters" DX r e)(T:Top K mg a)(B:mg "seen_at" = n_ (.ref f))(v:CY K m Gi [])(l:mg "seen_quarters" = n_ (.ref r))(k:CY K e Gi [])(z:Cal P w K mg n8 CX0 1 "without_unseen" Oq aFk)(y:Cal P w K mg n8 CX0 1 "rows_of_quarters" Dc (aFi a))(x:Co P w K mg n8 CX0 2 a.N1 "linked" AZ (Ey a)):∀n,AM P w K mg n8 CX0 (2*n+2) f m Gi (ZW a n)
|0=>by
 refine F.ok EW (λvs H Q E h=>?_) (λC A u s H vs Q E L h=>?_)
 .apply Br;intro p b;obtain⟨g,G,c,D,I,kvs,q,i,j,N,rfl,_,_,_,_,_,_,_,t,_⟩:=h;apply b;clear b p;exact absurd t (N3 _)
 .apply Br;intro p b;obtain⟨g,G,c,D,I,kvs,q,i,j,N,rfl,_,_,_,_,_,_,_,t,_⟩:=h;apply b;clear b p;exact absurd t (N3 _)
|n+1=>aFJ F T A3 z ⟨r,e,aHI (d:=2*n+2) A3 o T y x ⟨f,m,aDy F o T B v l k z y x n,B,F.kp,v⟩,l,o.kp,k⟩
end
def frA(g:GA):List Addr:=[g.lv,g.pt,g.nm,g.am,g.bx]
theorem Mc{G:Gv}{n f:Nat}{x y:Int}(h:¬(-(2^n)<=x/\x<2^n/\-(2^n)<=y/\y<2^n)):fieldF G n f x y=0:=A0d h
def FH(N px py w k:Nat):Nat:=if k=px+2*py then w else bareN N
theorem aCS{G r:Gv}(j:G=G0++r)(ok:GOk G){n w a b M R D:Nat}{cl:Nat->Nat->Nat->Nat}(H:n<=46)(I:a<2)(K:b<2)(E:Ao G w ((n+1:Nat):Int)){φ:D_}(e:∀u v,fieldF G n w u v=φ u v):Ag G ⟨λx y=>φ ((x:Int)-(a*2^(n+1)+2^n)) ((y:Int)-(b*2^(n+1)+2^n)),R,D,M,cl⟩ (n+1) 0 0 (FH (n+1) a b w):=by
 have ps:=Mu n;have L:=AL n;have f:=FF n;have d:=FF (n+1);refine⟨λk F=>?_,λx y o p _ _=>?_⟩
 .unfold FH;split
  .exact E
  .exact ER j A3
 obtain⟨N,O⟩:=GD o p;have l:=Cd o;have m:=Cd p;have s:=F9 x (AL (n+1));have t:=F9 y (AL (n+1));have g:=O0 x (2^(n+1));have i:=O0 y (2^(n+1));show _=φ (((0*2^(n+1)+x:Nat):Int)-(a*2^(n+1)+2^n)) (((0*2^(n+1)+y:Nat):Int)-(b*2^(n+1)+2^n));rw[Nat.zero_mul,N7,N7,<-e];by_cases z:x/2^(n+1)=a/\y/2^(n+1)=b
 .have eq:FH (n+1) a b w (quad (n+1) x y)=w:=by
   unfold FH;rw[A0g A3]
  rw[eq];rw[z.1]at g;rw[z.2]at i;have B:(x:Int)-(a*2^(n+1)+2^n)=((x%2^(n+1):Nat):Int)-2^n:=by
   have:(x:Int)=((2^(n+1)*a+x%2^(n+1):Nat):Int):=by rw[g]
   rw[this,O7,P2,d];rw[Int.mul_comm ((2:Int)^(n+1))];lia
  have C:(y:Int)-(b*2^(n+1)+2^n)=((y%2^(n+1):Nat):Int)-2^n:=by
   have:(y:Int)=((2^(n+1)*b+y%2^(n+1):Nat):Int):=by rw[i]
   rw[this,O7,P2,d];rw[Int.mul_comm ((2:Int)^(n+1))];lia
  rw[B,C];generalize x%2^(n+1)=X at s;generalize y%2^(n+1)=Y at t;unfold fieldF;rw[A0g (by rw[<-f];lia)];congr 1
  .lia
  .lia
 .have eq:FH (n+1) a b w (quad (n+1) x y)=bareN (n+1):=by
   unfold FH;rw[A0d A3]
  rw[eq,DL j ok A3 s t];refine(Mc ?_).symm;have c:∀{x a:Nat},x/2^(n+1)≠a->¬(-(2^n)<=(x:Int)-(a*2^(n+1)+2^n)/\(x:Int)-(a*2^(n+1)+2^n)<2^n):=λ{x a} ne h=>ne (by
   rw[<-f,<-d]at h;have l:a*2^(n+1)<=x:=by
    have:((a*2^(n+1):Nat):Int)<=x:=by rw[P2];lia
    lia
   have m:x<(a+1)*2^(n+1):=by
    have:(x:Int)<((a*2^(n+1)+2^(n+1):Nat):Int):=by rw[O7,P2];lia
    rw[X9,Nat.one_mul];lia
   exact Nat.div_eq_of_lt_le l m)
  intro h;by_cases A:x/2^(n+1)=a
  .exact c (λq=>z ⟨A,q⟩) ⟨h.2.2.1,h.2.2.2⟩
  .exact c A ⟨h.1,h.2.1⟩
section
variable{P:N_}{w:Q_}{K:O_}{mg:C_}{n8:T_}{a:Ad}
theorem aCU{n j:Nat}(h:j<n):ixN n (j:Int)=n_ j:=by
 unfold ixN;rw[A0g A3,A0g A3,M4]
theorem Wx{σ:St}{i:Nat}{dx c:Int}{H:Hp}{Q:VK}(h:σ[i]?=n_ (n_ (.int dx)))(q:Q (.int (if 0<dx then c else 0)) H):tIf (ZL (tOp (rI0 λi j=>V.bl (decide (j<i))) (GY i) (tC (V.int 0)))) (tC (V.int c)) (tC (V.int 0)) σ H Q:=by
 refine⟨_,h,(xq2 Z Z (xq1 Z ?_))⟩;by_cases z:0<dx
 .rw[A0g z]at q;rw[A0e z];exact BR q
 .rw[A0d z]at q;rw[A0f z];exact Ba q
theorem TZ{n:Nat}{dx l w:Int}(d:-(2^n)<=l)(f:l<2^n)(g:-(2^n)<=l+dx)(h:l+dx<2^n):∃(b R:Nat),b<2/\(if 0<dx then(1:Int)else 0)=b/\R<2^(n+1)/\-dx%(2*2^n)=(R:Int)/\(R:Int)-b*2^(n+1)=-dx:=by
 have e:=CA n;have c:=FF (n+1);by_cases z:0<dx
 .refine⟨1,(2^(n+1)-dx).toNat,by decide,A0g z,by lia,?_,by lia⟩;rw[show -dx=(2^(n+1)-dx)+(2*2^n)*(-1) by lia,Int.add_mul_emod_self_left,Int.emod_eq_of_lt A3 A3];lia
 .refine⟨0,(-dx).toNat,by decide,A0d z,by lia,?_,by lia⟩;rw[Int.emod_eq_of_lt A3 A3];lia
def Tgt(G:Gv)(n f:Nat)(dx dy:Int)(li:Prop):Prop:=∀b,Cj G (n+1) f=n_ b->(Gg ((mvB (2^n) b).l+dx) ((mvB (2^n) b).t+dy) (mvB (2^n) b).w (mvB (2^n) b).h (2^40)↔li)
inductive aGH(a:Ad)(vs:List V)(H:Hp)(Q:VK):Prop
|mk (g:GA) (G:Gv) (f n M:Nat) (dx dy:Int) (φ:D_) (_:vs=[.ref g.p,.int f,.int dx,.int dy]) (_:Be a H g G) (_:Fd G n f) (_:∀u v,fieldF G n f u v=φ u v) (_:Tgt G n f dx dy True) (_:∀(ax ay:Int)(R D:Nat),∃cl,Wq ⟨λx y=>φ ((x:Int)-ax) ((y:Int)-ay),R,D,M,cl⟩) (_:49*M<1000000) (_:G.length<6000000) (_:∀(r m:Nat)(G':Gv)(H':Hp),Fx (frA g) H H'->Be a H' g G'->AJ G G' (49*M+700)->Fd G' m r->(∀u v,fieldF G' m r u v=φ (u-dx) (v-dy))->Q (.int r) H'):aGH a vs H Q
def aFg(a:Ad):Sp:=λvs H Q _=>aGH a vs H Q
theorem aG9(F:Fun K "moved_by" "moved_by" MI f fd)(T:Top K mg a)(bE:Cal P w K mg n8 CX0 102 "box_of" VQ (Ni a))(aB:Cal P w K mg n8 CX0 1 "shifted_box" QV LW)(aC:Cal P w K mg n8 CX0 1 "lies_within" QX Ru)(aR:Cal P w K mg n8 CX0 5 "widened_over" EK (aFj a))(aD:Cal P w K mg n8 CX0 4 "reach_of" VQ (Je a))(a7:Co P w K mg n8 CX0 3 a.N1 "level_of" LP (Ng a))(aQ:Cal P w K mg n8 CX0 4 "trimmed" LZ (NV a))(cD:Cal P w K mg n8 CX0 102 "seen_at" Gi (ZW a 50)):AM P w K mg n8 CX0 103 f fd MV (aFg a):=by
 refine F.ok Dz D_9 λbg A bd s H vs Q E hr h=>?_
 obtain⟨g,G,f',n,M,dx,dy,φ,rfl,fu,I,ef,aw,a6,M1,few,k⟩:=h;refine⟨_,(Ae (Am (i:=4) Dz.nd Z O_9 (Ar bE (rm hr) Z Aq (Aa (pv 0) (Aa (pv 1) Ab)))) (Ae (AO (AA El (pv 4) Cg (AD _)) (Ah (Au (pv 1))) AB) (Ae (Am (i:=5) Dz.nd Z O_9 (Ar aB (rm hr) Z Aq (Aa (pv 4) (Aa (pv 2) (Aa (pv 3) Ab))))) (Ae (AO (Dr (CP (Ar aC (rm hr) Z Aq (Aa (pv 5) (Aa (Cu Z T.aAO) Ab))))) (Ah Bp) AB) (Ae (Am (i:=6) Dz.nd Z O_9 (Ar aR (rm hr) Z Aq (Aa (pv 0) (Aa (pv 1) (Aa (pv 5) Ab))))) (Ae (Am (i:=7) Dz.nd Z O_9 (AE FT Ac (Ar aD (rm hr) Z Aq (Aa (pv 0) (Aa (pv 6) Ab))))) (Ae (Am (i:=8) Dz.nd Z O_9 (Aj Az (AF (pv 0) Z) (AK (pv 0) a7 (rm hr) Aq (Aa (pv 6) Ab)) R_9)) (Ae (Am (i:=9) Dz.nd Z O_9 (BO (Aa (pv 8) (Aa (pv 8) (Aa (pv 8) (Aa (pv 8) Ab)))))) (Ae (aB6 (pv 6) (aB4 (pv 9) (AE AR (Uu (AA Ql (pv 2) Ac (AD _)) Ac Ac) (Uu (AA Ql (pv 3) Ac (AD _)) Ac Ac)) Ua)) (Ah (Au (Ar aQ (rm hr) Z Aq (Aa (pv 0) (Aa (Ar cD (rm hr) Z Aq (Aa (pv 0) (Aa (BK BU Z T.f_ A2f (Aa (pv 9) Ab)) (AT Bf (EI CZ (pv 2)) (pv 7) (AT Bf (EI CZ (pv 3)) (pv 7) (Aa Lu Ab)))))) Ab)))))))))))))),?_⟩;have bc:=I.le;refine xw2 Z Z ⟨g,G,f',n,Z,fu,I.lev,by lia,by lia,λbn H1 W X=>?_,λb hb t H1 W X ht=>?_⟩
 .refine xq1 Z ⟨Z,(xq1 Z (BR (xq1 Z ?_)))⟩;have z:=λu v=>Qn fu.ok I.lev bn u v;exact k f' n G H1 ((W.fx fu).mono (by simp[frA])) X ((AJ.refl fu.ok).mono A3) I λu v=>by rw[z u v,<-ef,z]
 have tg:=(aw b hb).mpr trivial;have ti:=Ia fu.ok I.lev hb;generalize mvB (2^n) b=d at tg ti ht;refine xq1 Z ⟨Z,(xq1 Z (Ba ?_))⟩;refine xw3 Z Z Z ⟨t,d,dx,dy,Z,ht,λt2 am=>?_⟩;have s2:=AH (o:=.tup [.int (d.l+dx),.int (d.t+dy),.int d.w,.int d.h]) am;have h2:upd H1 t2 (.tup [.int (d.l+dx),.int (d.t+dy),.int d.w,.int d.h]) t2=n_ (.tup [.int (d.l+dx),.int (d.t+dy),.int d.w,.int d.h]):=Af;show(Vu _ _) _ _ _;generalize upd H1 t2 (.tup [.int (d.l+dx),.int (d.t+dy),.int d.w,.int d.h])=H2 at s2 h2⊢;have ac:=X.same s2;refine xq1 Z ⟨t2,d.l+dx,d.t+dy,d.w,d.h,2^40,Z,h2,(xq1 Z ?_)⟩;rw[A0e tg];refine Ba (xw3 Z Z Z ⟨g,G,f',n,t2,_,_,_,_,Z,ac,I.lev,bc,h2,tg,by lia,λj N G3 H3 ai q ae nk wi lw a9 _=>?_⟩);have g3:=ae.few;obtain⟨r3,e3⟩:=q.g0;have ew:∀u v,fieldF G3 (n+j) N u v=φ u v:=λu v=>by rw[Jd e3 q.ok A3 wi,Ev fu.ok ae I.lev,ef]
 have S:CU (λu v=>φ u v≠0) d:=ti.congr λu v=>by rw[ef]
 have x3:Fx (frA g) H H3:=(((W.fx fu).mono (by simp[frA])).trans (Ay.fx s2)).trans ((ai.fx ac.at').mono (by simp[frA]));have bj:j<=40:=by lia
 generalize n+j=c at *
 clear wi ac h2 ai s2 am X W ht ti aw;obtain⟨qw,a2,ay⟩:=id lw;refine xw2 Z Z ⟨g,G3,N,c,Z,q.at',lw,by lia,(xq2 Z Z ⟨.inl ⟨by decide,by decide⟩,?_⟩)⟩;refine xwf Z Z q.at'.hp T.L0 T.Q3 (IO g) (xq1 Z ⟨g.p,g.dx,(xq1 Z ⟨q.at'.hp,Em g,(xq1 Z ⟨g,G3,N,qw,Z,q.at',a2,g.br,_,((c+1:Nat):Int),.int (bareN (c+1):Int),Z,by rw[ay],SqL.of q.br,Ai (m6 A3),?_⟩)⟩)⟩);refine xw3 Z Z Z (xq1 Z ⟨S_4,λL hL=>?_⟩);have s4:=AH (o:=.lst (Ck λ_=>bareN (c+1))) hL;have a5:upd H3 L (.lst (Ck λ_=>bareN (c+1))) L=n_ (.lst (Ck λ_=>bareN (c+1))):=Af;have pn:=Pl c;have e2:=CA c;have an:∀{u v:Int},φ u v≠0->-(2^c)<=u/\u<2^c/\-(2^c)<=v/\v<2^c:=λ{u v} z=>A1d λy=>z (by rw[<-ew];exact Mc y);obtain⟨vl,hl⟩:=S.le;obtain⟨ut,hu⟩:=S.to;have il:=an hl;have it:=an hu;have bl:=S.inn _ _ hl;have bt:=S.inn _ _ hu;have bb:=a9;unfold Gg at bb;obtain⟨C,R,aq,a0,R1,eR,sR⟩:=TZ (n:=c) (dx:=dx) (l:=d.l) (w:=d.w) il.1 il.2.1 A3 A3;obtain⟨B,D,ar,a1,D1,eD,sD⟩:=TZ (n:=c) (dx:=dy) (l:=d.t) (w:=d.h) it.2.2.1 it.2.2.2 A3 A3;have ah:(if 0<dy then(2:Int)else 0)=2*B:=by
  rw[<-a1];split<;>rfl
 refine xw2 Z Z (Wx Z (Wx Z ?_));rw[a0,ah];have au:(Ck λ_=>bareN (c+1)).set (C+2*B) (.int N)=Ck (FH (c+1) C B N):=by
  unfold Ck FH
  match C,aq,B,ar with
  |0,_,0,_=>rfl
  |1,_,0,_=>rfl
  |0,_,1,_=>rfl
  |1,_,1,_=>rfl
 refine xq2 Z Z ⟨L,Ck λ_=>bareN (c+1),((C+2*B:Nat):Int),C+2*B,Z,A2c V.int A3,a5,aCU (by show C+2*B<4;lia),?_⟩;rw[au];have s5:Ay H3 (upd (upd H3 L (.lst (Ck λ_=>bareN (c+1)))) L (.lst (Ck (FH (c+1) C B N)))):=λb o e=>by rw[Ax (Av e hL)];exact s4 _ _ e
 have ak:upd (upd H3 L (.lst (Ck λ_=>bareN (c+1)))) L (.lst (Ck (FH (c+1) C B N))) L=n_ (.lst (Ck (FH (c+1) C B N))):=Af;obtain⟨H5,e5⟩:∃H5,upd (upd H3 L (.lst (Ck λ_=>bareN (c+1)))) L (.lst (Ck (FH (c+1) C B N)))=H5:=⟨_,Z⟩
 have et:[V.int (bareN (c+1):Int),V.int (bareN (c+1):Int),V.int (bareN (c+1):Int),V.int (bareN (c+1):Int)]=Ck λ_=>bareN (c+1):=rfl;rw[et,e5];rw[e5]at s5 ak;clear e5 et;refine xw3 Z Z Z ⟨L,(xq1 Z (.inl ⟨SqL.of ak,λtf a8=>?_⟩))⟩;have s6:=s5.trans (AH (o:=.tup (Ck (FH (c+1) C B N))) a8);have h6:upd H5 tf (.tup (Ck (FH (c+1) C B N))) tf=n_ (.tup (Ck (FH (c+1) C B N))):=Af;generalize upd H5 tf (.tup (Ck (FH (c+1) C B N)))=H6 at s6 h6⊢;have sz:(0:Int)<2*2^c:=by lia
 refine xw3 Z Z Z (xq2 Z Z ⟨sz,(xw3 Z Z Z (xq2 Z Z ⟨sz,λU af=>?_⟩))⟩);have s7:=s6.trans (AH (o:=.dT []) af);have h7:=AH (o:=.dT []) af _ _ h6;have al:upd H6 U (.dT []) U=n_ (.dT []):=Af;generalize upd H6 U (.dT [])=H7 at s7 h7 al⊢;have a4:=q.same s7;have ao:H3 U=o0:=Ay.noneOf s6 af;have kg:U∉DV g:=λz=>by
  obtain⟨o1,e1⟩:=q.nw.s U z;rw[ao]at e1;cases e1
 obtain⟨cl,as⟩:=a6 (C*2^(c+1)+2^c) (B*2^(c+1)+2^c) R D;have ag:=aCS (R:=R) (D:=D) (M:=M) (cl:=cl) e3 q.ok A3 aq ar lw ew;refine⟨g,G3,_,U,tf,[],FH (c+1) C B N,0,0,c+1,?_,a4,al,kg,h7,ag,sok0 _ _,as,by lia,by lia,⟨by show G3.length+49*M<8000000+0;lia,by show 49*M<4000000;lia⟩,λm G8 ab H8 x8 O bh av bm aj bo aa=>?_⟩
 .show [V.ref g.p,V.ref tf,V.int (-dx%(2*2^c)),V.int (-dy%(2*2^c)),V.ref U]=[V.ref g.p,V.ref tf,V.int ((R%2^(c+1):Nat):Int),V.int ((D%2^(c+1):Nat):Int),V.ref U]
  rw[eR,eD,N8 R1,N8 D1]
 obtain⟨r8,e8⟩:=O.g0;have l8:=av.len e8 O.ok as;have l8:ab.length<=49*M:=l8;have g8:=aj.few;have g8:G8.length<=G3.length+(ab.length-0):=g8;have ax:∀u v,fieldF G8 c m u v=φ (u-dx) (v-dy):=λu v=>by
  by_cases z:-(2^c)<=u/\u<2^c/\-(2^c)<=v/\v<2^c
  .unfold fieldF;rw[A0g z,aa.cell _ _ (FU z.1 z.2.1) (FU z.2.2.1 z.2.2.2)];show φ (((0*2^(c+1)+R%2^(c+1)+(u+2^c).toNat:Nat):Int)-(C*2^(c+1)+2^c)) (((0*2^(c+1)+D%2^(c+1)+(v+2^c).toNat:Nat):Int)-(B*2^(c+1)+2^c))=_;rw[N8 R1,N8 D1,Nat.zero_mul,N7,N7];congr 1
   .rw[O7,P7 A3];lia
   .rw[O7,P7 A3];lia
  .rw[Mc z];refine(A1d λy=>?_:φ (u-dx) (v-dy)=0).symm;have:=S.inn _ _ y;exact z ⟨by lia,by lia,by lia,by lia⟩
 refine⟨g,G8,m,c,Z,O,aa.lev,by lia,λr G9 H9 a3 ad Y bf=>?_⟩;have g9:=Y.few;obtain⟨r9,e9⟩:=ad.g0;obtain⟨m9,bi,ba,be,az⟩:=Gp e9 ad.ok A3 (Y.lev aa.lev) bf;have x9:Fx (frA g) H H9:=(x3.trans ((Fx.fresh s7 (x8.mono (m:=[U,g.lv,g.pt,g.nm]) (by intro x hx;simp only[frM,C1,D9,A2e]at hx⊢;rcases hx with h|h|h|h<;>simp[h])) ao).mono (by simp[frA]))).trans ((a3.fx O.at').mono (by simp[frA]));exact k r m9 G9 H9 x9 ad (((ae.trans aj).trans Y).mono (by simp only[P9]at *;lia)) ⟨ba,be,by lia⟩ λu v=>by rw[az,Ev O.ok Y aa.lev,ax]
end
def plc(ax ay:Int)(n:Nat)(p:Int×Int):List (Nat×Nat):=[((p.1+ax).toNat/2^n,(p.2+ay).toNat/2^n),((p.1+ax).toNat/2^n-1,(p.2+ay).toNat/2^n),((p.1+ax).toNat/2^n,(p.2+ay).toNat/2^n-1),((p.1+ax).toNat/2^n-1,(p.2+ay).toNat/2^n-1)]
theorem aBU(a b:Int)(n:Nat):∀ps:List (Int×Int),(ps.flatMap (plc a b n)).length=4*ps.length
|[]=>rfl
|p::ps=>by
 rw[K9,C6,aBU a b n ps];show 4+_=_;rw[F0];lia
theorem aCA{φ:D_}{ps:List (Int×Int)}(h:∀u v,φ u v≠0->(u,v)∈ps)(c d:Int)(R D:Nat):∃cl,Wq ⟨λx y=>φ ((x:Int)-c) ((y:Int)-d),R,D,4*ps.length,cl⟩:=by
 have mem:∀n i j,NE (λx y=>φ ((x:Int)-c) ((y:Int)-d)) n i j->(i,j)∈ps.flatMap (plc c d n):=λn i j ne=>by
  apply Br;intro w f;obtain⟨x,y,q,r,z⟩:=ne;apply f;clear f w;have m:=h _ _ z;refine U5.mpr ⟨_,m,?_⟩;have C:((((i*2^n+x:Nat):Int)-c)+c).toNat=i*2^n+x:=by lia
  have E:((((j*2^n+y:Nat):Int)-d)+d).toNat=j*2^n+y:=by lia
  unfold plc;dsimp only;rw[C,E,Ik.1,Ik.1];have g:=Cd q;have k:=Cd r;generalize x/2^n=a at g;generalize y/2^n=b at k
  match a,g,b,k with
  |0,_,0,_=>simp
  |1,_,0,_=>simp
  |0,_,1,_=>simp
  |1,_,1,_=>simp
 refine⟨λn i j=>(ps.flatMap (plc c d n)).idxOf (i,j),λn i j _ ne=>?_,λn i j l o _ ne p e x y q r=>?_⟩
 .have:=R5 (mem n i j ne);rw[aBU]at this;exact this
 .have s:=mem n i j ne;have t:=mem n l o p;have A:=List.getElem_idxOf (R5 s);have B:=List.getElem_idxOf (R5 t);have e:(ps.flatMap (plc c d n)).idxOf (i,j)=(ps.flatMap (plc c d n)).idxOf (l,o):=e;have:(ps.flatMap (plc c d n))[(ps.flatMap (plc c d n)).idxOf (i,j)]?=(ps.flatMap (plc c d n))[(ps.flatMap (plc c d n)).idxOf (l,o)]?:=by rw[e]
  rw[C4 (R5 s),C4 (R5 t),A,B]at this;have:=A1f this;injection this with g k
  rw[g,k]
theorem aC3{b:Nat}(h:b<=40):(2:Int)^b<=2^40:=by
 have:=O9 (show 0<2 by decide) h
 exact_mod_cast this
structure Vg(G:Gv)(f:Nat)(φ:D_):Prop where
ex:∃n:Nat,Fd G n f/\∀u v,fieldF G n f u v=φ u v
theorem Vg.app{G a:Gv}{k f:Nat}{φ:D_}(ok:GOk G)(go:AJ G a k)(h:Vg G f φ):Vg a f φ:=by
 obtain⟨n,b,c⟩:=h.ex;exact⟨n,b.app go,λu v=>by rw[Ev ok go b.lev];exact c u v⟩
theorem Vg.eq{G r:Gv}(d:G=G0++r)(ok:GOk G){f c:Nat}{φ ψ:D_}(h:Vg G f φ)(h':Vg G c ψ)(e:∀u v,φ u v=ψ u v):f=c:=by
 obtain⟨n,b,i⟩:=h.ex;obtain⟨m,a,g⟩:=h'.ex;have:=b.le;have:=a.le;exact(QF d ok A3 A3 b.lev a.lev b.tr a.tr λu v=>by rw[i,g,e]).2
def mvF(dx dy:Int)(φ:D_)(u v:Int):Nat:=φ (u-dx) (v-dy)
def mvX(dx dy:Int)(b:Bx):Bx:=⟨b.l+dx,b.t+dy,b.w,b.h⟩
theorem CU.mv {φ:D_} {b:Bx} (dx dy:Int) (h:CU (λu v=>φ u v≠0) b):CU (λu v=>mvF dx dy φ u v≠0) (mvX dx dy b):=by
 apply Br;intro g f;obtain⟨i,⟨a,j⟩,⟨c,k⟩,⟨d,m⟩,⟨e,n⟩⟩:=h;apply f;clear f g;unfold mvX mvF;refine⟨λu v z=>?_,⟨a+dy,?_⟩,⟨c+dx,?_⟩,⟨d+dy,?_⟩,⟨e+dx,?_⟩⟩
 .have:=i _ _ z;dsimp only;lia
 .dsimp only at *
  rw[show b.l+dx-dx=b.l by lia,show a+dy-dy=a by lia];exact j
 .dsimp only at *
  rw[show c+dx-dx=c by lia,show b.t+dy-dy=b.t by lia];exact k
 .dsimp only at *
  rw[show b.l+dx+b.w-1-dx=b.l+b.w-1 by lia,show d+dy-dy=d by lia];exact m
 .dsimp only at *
  rw[show e+dx-dx=e by lia,show b.t+dy+b.h-1-dy=b.t+b.h-1 by lia];exact n
theorem aFw {G:Gv} (ok:GOk G) {n f:Nat} (l:Ao G f ((n+1:Nat):Int)) {φ:D_} (e:∀u v,fieldF G n f u v=φ u v) {B:Bx} (t:CU (λu v=>φ u v≠0) B) {dx dy:Int} {a:Prop} (h:Gg (B.l+dx) (B.t+dy) B.w B.h (2^40)↔a):Tgt G n f dx dy a:=by
 intro b c;have d:=(Ia ok l c).congr (M:=λu v=>φ u v≠0) λu v=>by rw[e]
 rw[d.one t];exact h
def shX(B:Bx):Int:=-(B.w/2)-B.l
def shY(B:Bx):Int:=-(B.h/2)-B.t
section
variable{P:N_}{w:Q_}{K:O_}{mg:C_}{n8:T_}{a:Ad}
theorem aGu {g:GA} {G:Gv} {H:Hp} {Q:VK} {E:XK} {f M:Nat} {dx dy:Int} {φ:D_} {B:Bx} (j:Be a H g G) (h:Vg G f φ) (t:CU (λu v=>φ u v≠0) B) (C:Gg (B.l+dx) (B.t+dy) B.w B.h (2^40)) (i:∀(s z:Int)(R D:Nat),∃cl,Wq ⟨λx y=>φ ((x:Int)-s) ((y:Int)-z),R,D,M,cl⟩) (M1:49*M<1000000) (few:G.length<6000000) (k:∀(r:Nat)(b:Gv)(c:Hp),Fx (frA g) H c->Be a c g b->AJ G b (49*M+700)->Vg b r (mvF dx dy φ)->Q (.int r) c):aFg a [.ref g.p,.int f,.int dx,.int dy] H Q E:=by
 obtain⟨n,o,q⟩:=h.ex;exact⟨g,G,f,n,M,dx,dy,φ,Z,j,o,q,aFw j.ok o.lev q t ⟨λ_=>trivial,λ_=>C⟩,i,M1,few,λr m b c x d go A e=>k r b c x d go ⟨m,A,e⟩⟩
inductive Tv(a:Ad)(vs:List V)(H:Hp)(Q:VK):Prop
|mk (g:GA) (G:Gv) (f M:Nat) (φ:D_) (_:vs=[.ref g.p,.int f]) (_:Be a H g G) (_:Vg G f φ) (_:∀(ax ay:Int)(R D:Nat),∃cl,Wq ⟨λx y=>φ ((x:Int)-ax) ((y:Int)-ay),R,D,M,cl⟩) (_:49*M<1000000) (_:G.length<5900000) (_:(∀u v,φ u v=0)->∀(t:R_)(H':Hp),Fx (frA g) H H'->Be a H' g G->H' t=n_ (.tup [.int f,.int 0,.int 0])->Q (.ref t) H') (_:∀B,CU (λu v=>φ u v≠0) B->∀(r:Nat)(t:R_)(G':Gv)(H':Hp),Fx (frA g) H H'->Be a H' g G'->AJ G G' (49*M+700)->Vg G' r (mvF (shX B) (shY B) φ)->H' t=n_ (.tup [.int r,.int B.l,.int B.t])->Q (.ref t) H'):Tv a vs H Q
def Sf(a:Ad):Sp:=λvs H Q _=>Tv a vs H Q
theorem aBx(F:Fun K "shape_of" "shape_of" MF f fd)(T:Top K mg a)(bE:Cal P w K mg n8 CX0 102 "box_of" VQ (Ni a))(cV:Cal P w K mg n8 CX0 103 "moved_by" MV (aFg a)):AM P w K mg n8 CX0 104 f fd VQ (Sf a):=by
 refine F.ok Lg (λvs H Q E h=>?_) (λaa A W s H vs Q E hr h=>?_)
 .apply Br;intro L c;obtain⟨g,G,R,M,φ,rfl,_⟩:=h;apply c;clear c L;rfl
 .apply Br;intro L c;obtain⟨g,G,R,M,φ,rfl,C,vf,U,M1,few,k0,k1⟩:=h;obtain⟨n,k,O⟩:=id vf.ex;apply c;clear c L;have V:=k.le;refine⟨_,(Ae (Am (i:=2) Lg.nd Z O_9 (Ar bE (rm hr) Z Aq (Aa (pv 0) (Aa (pv 1) Ab)))) (Ae (AO (AA El (pv 2) Cg (AD _)) (Ah (Au (BH (Aa (pv 1) (AG (AG Ab)))))) AB) (Ae (Am (i:=3) Lg.nd Z O_9 (Ar cV (rm hr) Z Aq (Aa (pv 0) (Aa (pv 1) (AT Bq (EI CZ (AE CF (Aj Al (pv 2) Ac R_9) Ac)) (Aj Al (pv 2) Ac R_9) (AT Bq (EI CZ (AE CF (Aj Al (pv 2) Ac R_9) Ac)) (Aj Al (pv 2) Ac R_9) Ab)))))) (Ah (Au (BH (Aa (pv 3) (Aa (Aj Al (pv 2) Ac R_9) (Aa (Aj Al (pv 2) Ac R_9) Ab))))))))),?_⟩;refine xw2 Z Z ⟨g,G,R,n,Z,C,k.lev,by lia,by lia,λbn Y q x=>?_,λb hb t Y q x d=>?_⟩
  .have z:∀u v,φ u v=0:=λu v=>by rw[<-O];exact Qn C.ok k.lev bn u v
   refine xq1 Z ⟨Z,(xq1 Z (BR (xq1 Z ⟨S_3,λt d=>?_⟩)))⟩;have s2:=AH (o:=.tup [.int (R:Int),.int 0,.int 0]) d;exact k0 z t _ (((q.fx C).mono (by simp[frA])).trans (Ay.fx s2)) (x.same s2) Af
  .have m:=(Ia C.ok k.lev hb).congr (M:=λu v=>φ u v≠0) λu v=>by rw[O]
   generalize mvB (2^n) b=B at m d;have e:∀{u v:Int},φ u v≠0->-(2^n)<=u/\u<2^n/\-(2^n)<=v/\v<2^n:=λ{u v} z=>Decidable.byContradiction λy=>z (by rw[<-O];exact Mc y);have X:(2:Int)^n<=2^40:=aC3 V;obtain⟨v1,h1⟩:=m.le;obtain⟨v2,h2⟩:=m.ri;obtain⟨v3,h3⟩:=m.to;obtain⟨v4,h4⟩:=m.bo;have b1:=e h1;have b2:=e h2;have b3:=e h3;have b4:=e h4;have w1:=m.inn _ _ h1;have w3:=m.inn _ _ h3;have li:Gg (B.l+shX B) (B.t+shY B) B.w B.h (2^40):=by
    unfold Gg shX shY;have N:(2:Int)^40=1099511627776:=by decide
    rw[N]at X⊢;generalize (2:Int)^n=p at *
    refine⟨by lia,by lia,by lia,by lia⟩
   have d:Y t=n_ (.tup [.int B.l,.int B.t,.int B.w,.int B.h]):=d;refine xq1 Z ⟨Z,(xq1 Z (Ba ?_))⟩;refine xw3 Z Z Z (xq4 Z Z (SqT.of d) (Ai (j:=2) Z) (xq2 Z Z ⟨⟨by decide,by decide⟩,(xwj Z Z Z Z (SqT.of d) (Ai (j:=0) Z) (xq2 Z Z ?_))⟩));refine xwi Z Z Z (SqT.of d) (Ai (j:=3) Z) (xq2 Z Z ⟨⟨by decide,by decide⟩,(xwj Z Z Z Z (SqT.of d) (Ai (j:=1) Z) (xq2 Z Z ?_))⟩);refine aGu (E:=E0) (dx:=shX B) (dy:=shY B) x vf m li U M1 A3 λr G' H2 D S go vr=>?_;have I:=D.tup d;refine xwj Z Z Z Z (SqT.of I) (Ai (j:=0) Z) (xwi Z Z Z (SqT.of I) (Ai (j:=1) Z) ⟨S_3,λu hu=>?_⟩);have s3:=AH (o:=.tup [.int (r:Int),.int B.l,.int B.t]) hu;exact k1 B m r u G' _ ((((q.fx C).mono (by simp[frA])).trans D).trans (Ay.fx s3)) (S.same s3) go vr Af
end
end J
namespace J
open PySem L2
noncomputable def bxO (ψ:D_):Option Bx:=open Classical in if h:∃B,CU (λu v=>ψ u v≠0) B then n_ h.choose else o0
theorem aAu {ψ:D_} {B:Bx} (t:CU (λu v=>ψ u v≠0) B):bxO ψ=n_ B:=by
 unfold bxO;have h:∃B,CU (λu v=>ψ u v≠0) B:=⟨B,t⟩
 rw[dif_pos h];exact A2c n_ (h.choose_spec.one t)
theorem aAt{ψ:D_}(z:∀u v,ψ u v=0):bxO ψ=o0:=by
 unfold bxO;rw[dif_neg];rintro⟨B,t⟩;obtain⟨v,h⟩:=t.le;exact h (z _ _)
noncomputable def nrm (ψ:D_):Int->Int->Nat:=match bxO ψ with
|some B=>mvF (shX B) (shY B) ψ
|none=>ψ
noncomputable def bxL (ψ:D_):Int:=match bxO ψ with
|some B=>B.l
|none=>0
noncomputable def bxT (ψ:D_):Int:=match bxO ψ with
|some B=>B.t
|none=>0
theorem LJ {ψ:D_} {B:Bx} (t:CU (λu v=>ψ u v≠0) B):nrm ψ=mvF (shX B) (shY B) ψ/\bxL ψ=B.l/\bxT ψ=B.t:=by
 have e:=aAu t;unfold nrm bxL bxT;rw[e];exact⟨Z,Z,Z⟩
theorem LK{ψ:D_}(z:∀u v,ψ u v=0):nrm ψ=ψ/\bxL ψ=0/\bxT ψ=0:=by
 have e:=aAt z;unfold nrm bxL bxT;rw[e];exact⟨Z,Z,Z⟩
def ET(φ ψ:D_):Prop:=∀u v,nrm φ u v=nrm ψ u v
theorem Vg.fn{G:Gv}{f:Nat}{φ ψ:D_}(h:Vg G f φ)(k:Vg G f ψ)(u v:Int):φ u v=ψ u v:=by
 obtain⟨n,a,b⟩:=h.ex;obtain⟨m,c,d⟩:=k.ex;have:n=m:=by
  have:=a.lev.one c.lev;lia
 subst this;rw[<-b,<-d]
theorem Fv.vf{G:Gv}{f:Nat}{φ:D_}(h:Fv G f φ):Vg G f φ:=by
 obtain⟨n,a,b,c,d⟩:=h.ex;exact⟨n,⟨b,c,a⟩,d⟩
section
variable{P:N_}{w:Q_}{K:O_}{mg:C_}{n8:T_}{a:Ad}
theorem aFd{g:GA}{G:Gv}{H:Hp}{Q:VK}{f:Nat}{ψ:D_}{ps:List (Int×Int)}(o:Be a H g G)(v:Vg G f ψ)(x:∀u v,ψ u v≠0->(u,v)∈ps)(C:ps.length<=2400)(few:G.length<5800000)(k:∀(r:Nat)(t:R_)(c:Gv)(b:Hp),Fx (frA g) H b->Be a b g c->AJ G c (196*ps.length+700)->Vg c r (nrm ψ)->b t=n_ (.tup [.int (r:Int),.int (bxL ψ),.int (bxT ψ)])->Q (.ref t) b):Tv a [.ref g.p,.int (f:Int)] H Q:=by
 refine⟨g,G,f,4*ps.length,ψ,Z,o,v,aCA x,by lia,by lia,λz t b fx i y=>?_,λB tB r t q s l j m A n=>?_⟩
 .obtain⟨d,e,h⟩:=LK z;exact k f t G b fx i ((AJ.refl o.ok).mono (M7 _)) (by rw[d];exact v) (by rw[e,h];exact y)
 .obtain⟨d,e,h⟩:=LJ tB;exact k r t q s l j (m.mono A3) (by rw[d];exact A) (by rw[e,h];exact n)
end
seal L2.PA L2.PE L2.PS L2.PSs L2.PT L2.PW
section
variable{a:Ad}{H H':Hp}{g:GA}{G G':Gv}{Κ:KTy}{N b i:Nat}{p dx mem pr:R_}{r:AC}{m:MA}
theorem Fx.zA(f:Fx (frA g) H H'):FrZ g m H H':=λx o e c _=>f.get (λz=>c (by simp only[frA,C1,D9,A2e]at z⊢;lia)) e
theorem ZS.fA(h:ZS a H g G Κ N b p dx mem pr r m)(f:Fx (frA g) H H')(c:Be a H' g G')(go:AJ G G' i):ZS a H' g G' Κ N (b+i) p dx mem pr r m:=by
 have q:=h.jz.jw;have n:=q.me;apply Br;intro M u;obtain⟨A,s,R,_⟩:=n.ce;obtain⟨X,L,_⟩:=h.fu.at'.pt;obtain⟨S,F,_⟩:=h.fu.am;obtain⟨T,I,_⟩:=h.fu.bx;apply u;clear u M;have D:∀{x:R_}{o:HO},H x=n_ o->Fix o->H' x=n_ o:=λ{x o} e k=>f _ _ e λ_=>k;have v:∀d∈m.ds,∀o,H d=n_ o->H' d=n_ o:=λd B o e=>by
  obtain⟨j,C⟩:=M5 B;obtain⟨U,t,_⟩:=n.sq j d C;refine f.get (λz=>?_) e;simp only[frA,C1,D9,A2e]at z;rcases z with z|z|z|z|z
  .rw[z,h.fu.at'.lv]at t;cases t
  .rw[z,L]at t;cases t
  .rw[z,h.fu.at'.nm]at t;cases t
  .exact h.na (z▸B)
  .exact h.nb (z▸B)
 have y:∀o,H m.kc=n_ o->H' m.kc=n_ o:=λo e=>by
  refine f.get (λz=>?_) e;simp only[frA,C1,D9,A2e]at z;rcases z with z|z|z|z|z
  .rw[z,h.fu.at'.lv]at s;cases s
  .rw[z,L]at s;cases s
  .exact n.ap.2.2 z
  .rw[z,F]at s;cases s
  .rw[z,I]at s;cases s
 have P:H' m.l=n_ (.lst (m.ds.map V.ref)):=by
  refine f.get (λz=>?_) n.l;have e:=n.l;simp only[frA,C1,D9,A2e]at z;rcases z with z|z|z|z|z
  .exact n.ap.1 z
  .exact n.ap.2.1 z
  .rw[z,h.fu.at'.nm]at e;cases e
  .rw[z,F]at e;cases e
  .rw[z,I]at e;cases e
 have E:Lf H' g G' N (b+i+10*N) r m:=(n.kp q.ok go λx o e w=>by
  rcases w with rfl|rfl|w|rfl
  .rw[n.tp]at e;cases e;exact D n.tp True.intro
  .rw[n.l]at e;cases e;exact P
  .exact v x w o e
  .exact y o e).mono (B8 _) A3
 obtain⟨O,K⟩:=h.jz.cn;have bs:Bs G':=λj C=>by
  obtain⟨W,e⟩:=c.g0;rw[e];exact Mb (NJ j C)
 refine⟨⟨⟨c.at',c.ok,bs,c.br,q.nbr,D q.hp True.intro,q.ru.kp λx o e Q=>D e (by cases Q<;>exact True.intro),q.rok,q.rest,E⟩,O,K.kp q.ok go v λA e=>⟨A,y _ e,by lia⟩⟩,c,h.na,h.nb⟩
end
theorem ZS.putD{a:Ad}{H:Hp}{g:GA}{G:Gv}{Κ:KTy}{N b:Nat}{p dx mem e D:R_}{r:AC}{m:MA}{i:List (Key×V)}{o:HO}(h:ZS a H g G Κ N b p dx mem e r m)(f:H D=n_ (.dK i))(ap:ApZ g m D):ZS a (upd H D o) g G Κ N b p dx mem e r m:=by
 refine h.fx (aBA f (λz=>z)) λx d z=>?_;rw[D4.mp z]at d;simp only[zL,List.cons_append,List.nil_append,C1]at d;have c:=ap.n0;simp only[C1,D9,A2e,A7f]at c;rcases d with z|z|z|z|z|z|z|z|z
 .exact ap.n2 z
 .exact ap.n3 z
 .exact c.1 z
 .exact c.2.1 z
 .exact c.2.2.1 z
 .exact c.2.2.2.1 z
 .exact c.2.2.2.2.1 z
 .exact c.2.2.2.2.2 z
 .exact ap.n1 z
def CaT(H:Hp)(r:AC)(φ:D_)(c:Nat)(t:R_):Prop:=H t=n_ (.tup [.int (c:Int),.int (bxL (sFN r c φ)),.int (bxT (sFN r c φ))])
structure Sn0(H:Hp)(G:Gv)(r:AC)(φ:D_)(n:Nat)(kv:List (Key×V)):Prop where
len:kv.length<=n
old:∀c,c<n->∃q t,Vg G q (nrm (sFN r c φ))/\Bv kv (Sum.inl ((q:Nat):Int))=n_ (.ref t)/\CaT H r φ c t
inv:∀q v,Bv kv (Sum.inl ((q:Nat):Int))=n_ v->∃c t,c<n/\v=.ref t/\CaT H r φ c t/\Vg G q (nrm (sFN r c φ))
theorem Sn0.kp{H l:Hp}{G j:Gv}{r:AC}{φ:D_}{n i:Nat}{m:List (Key×V)}(h:Sn0 H G r φ n m)(ok:GOk G)(go:AJ G j i)(k:∀t xs,H t=n_ (.tup xs)->l t=n_ (.tup xs)):Sn0 l j r φ n m:=by
 refine⟨h.len,λc p=>?_,λq v e=>?_⟩
 .apply Br;intro b a;obtain⟨q,t,d,f,g⟩:=h.old c p;apply a;clear a b;exact⟨q,t,d.app ok go,f,k _ _ g⟩
 .apply Br;intro b a;obtain⟨c,t,d,f,g,o⟩:=h.inv q v e;apply a;clear a b;exact⟨c,t,d,f,k _ _ g,o.app ok go⟩
theorem Sn0.put{H:Hp}{G:Gv}{r:AC}{φ:D_}{n q:Nat}{t:R_}{f:List (Key×V)}(h:Sn0 H G r φ n f)(no:Bv f (Sum.inl (q:Int))=o0)(k:Vg G q (nrm (sFN r n φ)))(j:CaT H r φ n t):Sn0 H G r φ (n+1) (DR f (Sum.inl (q:Int)) (.ref t)):=by
 refine⟨by rw[GF _ no,C6];show f.length+1<=n+1;have:=h.len;lia,λc o=>?_,λd v e=>?_⟩
 .by_cases z:c=n
  .subst z;exact⟨q,t,k,by rw[FC,A0g rfl],j⟩
  .obtain⟨d,t',i,a,g⟩:=h.old c A3;refine⟨d,t',i,?_,g⟩;rw[FC,A0d]
   .exact a
   .intro y;rw[y]at a;rw[no]at a;cases a
 .rw[FC]at e;by_cases z:(Sum.inl ((d:Nat):Int):Key)=Sum.inl (q:Int)
  .rw[A0g z]at e;cases e;have:d=q:=by
    injection z with z
    lia
   subst this;exact⟨n,t,by lia,Z,j,k⟩
  .rw[A0d z]at e;apply Br;intro l b;obtain⟨c,t',i,a,g,m⟩:=h.inv d v e;apply b;clear b l;exact⟨c,t',by lia,a,g,m⟩
section
variable{P:N_}{w:Q_}{K:O_}{mg:C_}{n8:T_}{a:Ad}
inductive aEL(a:Ad)(vs:List V)(H:Hp)(Q:VK):Prop
|mk (p dx mem pr:R_) (g:GA) (G:Gv) (Κ:KTy) (φ:D_) (N b:Nat) (r:AC) (m:MA) (f k gr:Nat) (_:vs=[.ref p,.int f,.int (k:Int)]) (_:ZS a H g G Κ N b p dx mem pr r m) (_:Nd Κ N) (_:ClK r Κ) (_:∀c,c<k->aCC Κ r (sFN r c φ) 1) (_:Fv G f φ) (_:∀c,c<=k->∃ps:List (Int×Int),12800+196*ps.length<=gr/\∀u v,sFN r c φ u v≠0->(u,v)∈ps) (_:k<=24) (_:gr*(k+1)<=470000) (_:b+470000+10*N<5700000) (_:∀c,c<k->Vp (sFN r c φ) 1)
  (_:∀c d,1<=d->c+d<=k->(∀i j,j<i->i<c+d->¬ET (sFN r j φ) (sFN r i φ))->ET (sFN r c φ) (sFN r (c+d) φ)->∀(t:R_)(G':Gv)(H':Hp)(i:Nat),FrZ g m H H'->ZS a H' g G' Κ N (b+470000) p dx mem pr r m->AJ G G' i->H' t=n_ (.tup [.int (c:Int),.int (d:Int),.int (bxL (sFN r (c+d) φ)-bxL (sFN r c φ)),.int (bxT (sFN r (c+d) φ)-bxT (sFN r c φ))])->Q (.ref t) H')
  (_:(∀i j,j<i->i<=k->¬ET (sFN r j φ) (sFN r i φ))->∀(G':Gv)(H':Hp)(i:Nat),FrZ g m H H'->ZS a H' g G' Κ N (b+470000) p dx mem pr r m->AJ G G' i->Q .non H'):aEL a vs H Q
def aHa(a:Ad):Sp:=λvs H Q _=>aEL a vs H Q
theorem aGz(F:Fun K "comes_again" "comes_again" Iw f fd)(T:Top K mg a)(aE:Cal P w K mg n8 CX0 1 "is_whole" VS Vy)(dP:Cal P w K mg n8 CX0 151 "jump" VJ (aD9 a))(cU:Cal P w K mg n8 CX0 104 "shape_of" VQ (Sf a)):AM P w K mg n8 CX0 152 f fd IG (aHa a):=by
 refine F.ok Cp (λvs H Q E h=>?_) (λbb A a7 s H vs Q E hr h=>?_)
 .apply Br;intro C l;obtain⟨p,dx,mem,pr,g,G,Κ,φ,N,b,r,m,f',k,gr,rfl,_⟩:=h;apply l;clear l C;rfl
 .apply Br;intro C l;obtain⟨p,dx,mem,pr,g,G,Κ,φ,N,b,r,m,f',k,gr,rfl,zs,fin,cl,au,fv,ae,bd,bc,few,a6,kt,kn⟩:=h;apply l;clear l C;refine⟨_,(Ae (AO (PW.pt (Nt (Dr (CP (Ar aE (rm hr) Z Aq (Aa (pv 2) Ab)))) (Jv (AA IZ (pv 2) Ac (AD _))))) (Ah Bp) AB) (Ae (Am (i:=3) Cp.nd Z O_9 Lw) (Ae (Am (i:=4) Cp.nd Z O_9 (pv 1)) (Ae (BX A1c Z (Cm Z T.U_ (AT AR (pv 2) Ac Ab)) (Bd (i:=5) Cp.nd Z O_9) (Ae (AO (AA Ql (pv 5) Ac (AD _)) (Ah (Am (i:=4) Cp.nd Z O_9 (Ar dP (rm hr) Z Aq (Aa (pv 0) (Aa (pv 4) (AG Ab)))))) AB) (Ae (Am (i:=6) Cp.nd Z O_9 (Ar cU (rm hr) Z Aq (Aa (AF (pv 0) Z) (Aa (pv 4) Ab)))) (Ae (Am (i:=7) Cp.nd Z O_9 (IW (DM hr) (pv 3) (Aj Al (pv 6) Ac R_9) ⟨Z,Z,Z,Z⟩)) (Ae (AO (AA SG (pv 7) Cg (AD _)) (Ah (Au (BH (Aa (Aj Al (pv 7) Ac R_9) (AT Bq (pv 5) (Aj Al (pv 7) Ac R_9) (AT Bq (Aj Al (pv 6) Ac R_9) (Aj Al (pv 7) Ac R_9) (AT Bq (Aj Al (pv 6) Ac R_9) (Aj Al (pv 7) Ac R_9) Ab))))))) AB) (Ah (Fw (DM hr) (pv 3) (Aj Al (pv 6) Ac R_9) (BH (Aa (pv 5) (Aa (Aj Al (pv 6) Ac R_9) (Aa (Aj Al (pv 6) Ac R_9) Ab)))) Z))))))) (Ah (Au Cg)))))),?_⟩;refine Bc ?_;intro r1 s1 k1 ax E1;refine xq1 Z ⟨(k:Int),Z,⟨o4,Z,Ba ?_⟩⟩;refine xwb Z Z Z (xq1 Z ?_);rw[A0f A3];refine Ba ?_;refine ax ?_;have re:=zs.jz.jw.rest;refine Bc ?_;intro r2 s2 k2 ay E2;refine λD nD=>?_;have sD:=AH (o:=.dK []) nD;have am:upd H D (.dK []) D=n_ (.dK []):=Af;generalize upd H D (.dK [])=H1 at sD am⊢;have ba:=zs.same sD;have X:=zs.ap nD;refine ay ?_;refine Bc ?_;intro r3 s3 k3 az E3;refine xq1 Z (az ?_);refine Bc ?_;intro r4 s4 k4 a0 E4;refine xwb Z Z Z (xq1 Z ⟨by lia,by lia,?_⟩);rw[show((k:Int)+1).toNat=k+1 by lia];refine Ce (n:=k+1) (λc σ H3=>∃(W:Gv)(h:Nat)(kv:List (Key×V))(u5 u6 u7:Option V)(i:Nat),σ=[n_ (.ref p),n_ (.int f'),n_ (.int (k:Int)),n_ (.ref D),n_ (.int (h:Int)),u5,u6,u7]/\FrZ g m H H3/\ZS a H3 g W Κ N (b+gr*c) p dx mem pr r m/\AJ G W i/\H3 D=n_ (.dK kv)/\Sn0 H3 W r φ c kv/\(∀i j,j<i->i<c->¬ET (sFN r j φ) (sFN r i φ))/\Fv W h (sFN r (c-1) φ)) ⟨G,f',[],o0,o0,o0,0,Z,Ay.z sD,ba,AJ.refl zs.fu.ok,am,⟨B8 _,(λc hc=>absurd hc (N3 _)),λq v e=>by cases e⟩,(λi j _ hi=>absurd hi (N3 _)),fv⟩ ?_ ?_
  .rintro c σ H3 hc a9;apply Br;intro C l;obtain⟨W,h,kv,u5,u6,u7,i,rfl,fz,z3,go,ab,sn,y,fh⟩:=a9;apply l;clear l C;have gs:gr*(c+1)=gr*c+gr:=Nat.mul_succ ..;have gc:gr*c+gr<=470000:=by
    have:=M9 gr (show c+1<=k+1 by lia);lia
   have a4:∀{x:R_}{o:HO},H x=n_ o->x≠D:=λ{x o} e z=>by rw[z,nD]at e;cases e
   refine Bc ?_;intro r5 s5 k5 a1 E5;apply RB (T:=k5) (fun σ' H4=>∃(G4:Gv)(h4:Nat)(i4:Nat),σ'=[n_ (.ref p),n_ (.int f'),n_ (.int (k:Int)),n_ (.ref D),n_ (.int (h4:Int)),n_ (.int (0+(c:Int))),u6,u7]/\FrZ g m H H4/\ZS a H4 g G4 Κ N (b+gr*c+12048) p dx mem pr r m/\AJ G G4 i4/\H4 D=n_ (.dK kv)/\Sn0 H4 G4 r φ c kv/\Fv G4 h4 (sFN r c φ))
   .intro U;refine xwb Z Z Z (xq1 Z (IN (λai=>?_) (λai=>?_)))
    .have c1:1<=c:=by
      have:=A2b ai;lia
     refine xw2 Z Z ⟨p,dx,mem,pr,g,W,Κ,sFN r (c-1) φ,N,_,r,m,h,1,Z,z3,fin,cl,au (c-1) A3,fh,a6 (c-1) A3,by lia,λd G4 H4 i4 I z4 Y fd=>?_⟩;rw[<-LY,show 1+(c-1)=c by lia]at fd;refine U _ _ ⟨G4,d,(xq1 Z ⟨fz.trans I,z4,go.trans Y,I _ _ ab X.n0 X.n1,sn.kp z3.fu.ok Y (λt xs e=>z3.keep I e B1 B1 B1),fd⟩)⟩
    .have B:c=0:=by
      have:¬(0:Int)<0+(c:Int):=λz=>ai (A0e z);lia
     subst B;exact U _ _ ⟨W,h,i,Z,fz,z3.mono A3,go,ab,sn,fh⟩
   .rintro σ' H4 aj;apply Br;intro C l;obtain⟨G4,h4,i4,rfl,I,z4,Y,an,as,af⟩:=aj;apply l;clear l C;refine a1 ?_;clear fz z3 go ab sn fh;refine Bc ?_;intro r6 s6 k6 a2 E6;obtain⟨ps,be,a3⟩:=ae c A3;have bg:=z4.jz.sz fin;refine xwf Z Z z4.jz.jw.hp T.Q1 T.N2 (En _ _ _ _ _) ?_;refine xq1 Z (aFd z4.fu af.vf a3 A3 A3 λq t6 G5 H5 R ak aa vq M=>?_);have z5:=z4.fA R ak aa;have ag:H5 D=n_ (.dK kv):=R.get (λz=>X.n0 (by simp only[frA,C1,D9,A2e]at z⊢;lia)) an;have ac:=as.kp z4.fu.ok aa (λt xs e=>R.tup e);have aw:=af.app z4.fu.ok aa;have al:FrZ g m H H5:=I.trans (Fx.zA R);have ad:=Y.trans aa;obtain⟨bf,av⟩:=z5.fu.g0;have S:=z5.fu.ok;clear R ak z4 as af an I;refine a2 ?_;refine Bc ?_;intro r7 s7 k7 ao E7;refine xq1 Z ⟨D,Z,.inl ⟨_,.inl ag⟩,(xwi Z Z Z (SqT.of M) (Ai (j:=0) Z) ⟨_,GW.k (k:=Sum.inl (q:Int)) ag,?_⟩)⟩;cases ev:Bv kv (Sum.inl (q:Int))with
    |some v =>
     apply Br;intro C l;obtain⟨B,t0,h1,rfl,L,v0⟩:=ac.inv q v ev;apply l;clear l C;refine ao ?_;refine Bc ?_;intro r8 s8 k8 aq E8;refine xq1 Z ⟨Z,(xq1 Z (BR ?_))⟩;have L:H5 t0=n_ (.tup [.int (B:Int),.int (bxL (sFN r B φ)),.int (bxT (sFN r B φ))]):=L;refine xwi Z Z Z (SqT.of L) (Ai (j:=0) Z) (xwj Z Z Z Z (SqT.of L) (Ai (j:=0) Z) (xq2 Z Z ?_));refine xwi Z Z Z (SqT.of M) (Ai (j:=1) Z) (xwi Z Z Z (SqT.of L) (Ai (j:=1) Z) (xq2 Z Z ?_));refine xwi Z Z Z (SqT.of M) (Ai (j:=2) Z) (xwi Z Z Z (SqT.of L) (Ai (j:=2) Z) (xq2 Z Z ?_));refine⟨by show 4<=sizeLine;decide,λu hu=>?_⟩;have ec:B+(c-B)=c:=by lia
     refine kt B (c-B) A3 A3 (λi j h1 h2=>y i j h1 A3) (by rw[ec];exact v0.fn vq) u G5 _ _ (al.trans (Ay.z (AH hu))) ((z5.same (AH hu)).mono A3) ad ?_;rw[Af,ec];have:(0:Int)+(c:Int)-(B:Int)=((c-B:Nat):Int):=by lia
     exact A2c (λz:Int=>n_ (HO.tup [.int (B:Int),.int z,.int (bxL (sFN r c φ)-bxL (sFN r B φ)),.int (bxT (sFN r c φ)-bxT (sFN r B φ))])) this
    |none =>
     have a5:∀j,j<c->¬ET (sFN r j φ) (sFN r c φ):=λj hj ss=>by
      apply Br;intro C l;obtain⟨q',t',w1,w2,_⟩:=ac.old j hj;apply l;clear l C;have:q'=q:=Vg.eq av S w1 vq ss;subst this;rw[ev]at w2;cases w2
     refine ao ?_;refine Bc ?_;intro r8 s8 k8 aq E8;refine xq1 Z ⟨Z,(xq1 Z (Ba (aq ?_)))⟩;refine xwj Z Z Z Z (SqT.of M) (Ai (j:=1) Z) (xwi Z Z Z (SqT.of M) (Ai (j:=2) Z) ⟨by show 3<=sizeLine;decide,λu hu=>?_⟩);have O:=AH (o:=.tup [.int (0+(c:Int)),.int (bxL (sFN r c φ)),.int (bxT (sFN r c φ))]) hu;have ar:CaT (upd H5 u (.tup [.int (0+(c:Int)),.int (bxL (sFN r c φ)),.int (bxT (sFN r c φ))])) r φ c u:=by
      show upd H5 u _ u=_;rw[Af,U7]
     generalize upd H5 u (.tup [.int (0+(c:Int)),.int (bxL (sFN r c φ)),.int (bxT (sFN r c φ))])=H6 at O ar⊢;have ah:=O _ _ ag;have z6:=z5.same O;have a8:=(ac.kp S (AJ.refl S) (λt xs e=>O _ _ e)).put ev vq ar;have lk:=ac.len;refine xwj Z Z Z Z (SqT.of (O _ _ M)) (Ai (j:=0) Z) ⟨D,(xq1 Z ⟨Mq.k (k:=Sum.inl (q:Int)) ah (DU A3),?_⟩)⟩;refine⟨G5,h4,DR kv (Sum.inl (q:Int)) (.ref u),_,_,_,_,Z,?_,(z6.putD ah X).mono A3,ad,Af,?_,λi j h1 h2=>?_,by rw[K5];exact aw⟩
     .intro x o e n1 n2;rw[Ax (a4 e)];exact O _ _ (al x o e n1 n2)
     .exact a8.kp S (AJ.refl S) λt xs e=>by
       rw[Ax (AI e ah A6)];exact e
     .by_cases z:i=c
      .subst z;exact a5 j h1
      .exact y i j h1 A3
  .rintro σ H3 aj;apply Br;intro C l;obtain⟨W,h,kv,u5,u6,u7,i,rfl,fz,z3,go,ab,sn,y,fh⟩:=aj;apply l;clear l C;refine a0 ?_;exact kn (λi j h1 h2=>y i j h1 A3) W H3 i fz (z3.mono A3) go
end
def FrO(d:R_)(H H':Hp):Prop:=∀b o,H b=n_ o->b≠d->H' b=n_ o
theorem FrO.fx{c:R_}(a:Rd H c (.dT kvs))(f:FrO c H d):Fx [c] H d:=λb o e z=>by
 refine f b o e λy=>?_;subst y;rcases a with a|⟨g,a⟩<;>rw[e]at a<;>cases a<;>exact(z (D4.mpr Z))
theorem Pe:∀(cs:List Cl)(x y:Int),(∃c∈cs,c.x=x/\c.y=y/\stC cs x y=c.s)\/((∀c∈cs,¬(c.x=x/\c.y=y))/\stC cs x y=0)
|[],_,_=>.inr ⟨(λc g=>nomatch g),Z⟩
|c::cs,x,y=>by
 by_cases z:x=c.x/\y=c.y
 .exact .inl ⟨c,C8,z.1.symm,z.2.symm,A0g z⟩
 .have e:stC (c::cs) x y=stC cs x y:=A0d z;rw[e];rcases Pe cs x y with ⟨d,a,h⟩|⟨b,f⟩
  .exact .inl ⟨d,C9 _ a,h⟩
  .refine .inr ⟨λd a=>?_,f⟩;rcases C1.mp a with rfl|a
   .exact λq=>z ⟨q.1.symm,q.2.symm⟩
   .exact b d a
def ByC(es:List Cl):Prop:=es.Pairwise λp q=>Ds [q.y,q.x] [p.y,p.x]=o5
def clI(q:It3):Cl:=⟨q.x,q.y,(q.r.headD 0).toNat⟩
theorem WS:∀{e:H_}{ds:List Cl},Paired (OH H) e ds->∃b:List It3,(b.map λq=>V.ref q.a)=e.map V.ref/\b.map clI=ds/\∀q∈b,OH H q.a (clI q)/\H q.a=n_ (.tup (q.ns.map V.int))
|_,_,.nil=>⟨[],Z,Z,λq d=>by cases d⟩
|t::e,c::ds,.cons h pr=>by
 refine AX (WS pr) λb g i hit=>?_;have f:clI ⟨t,c.x,c.y,[(c.s:Int)]⟩=c:=rfl;refine⟨⟨t,c.x,c.y,[(c.s:Int)]⟩::b,by rw[F8,g];rfl,by rw[F8,i,f],λq d=>?_⟩;rcases C1.mp d with rfl|d
 .exact⟨by rw[f];exact h,h⟩
 .exact hit q d
theorem Qj:∀{b:List It3},(∀q∈b,OH H q.a (clI q))->Paired (OH H) (b.map (·.a)) (b.map clI)
|[],_=>.nil
|q::b,h=>.cons (h q (C8 ..)) (Qj λq c=>h q (C9 _ c))
theorem JP.perm(h:JP ds φ)(p:a.Perm ds):JP a φ:=⟨(p.map _).nodup_iff.mpr h.nd,λc=>by rw[p.mem_iff];exact h.mem c⟩
structure Dd(ds:List Cl)(n:Nat)(x y:Int):Prop where
nd:(ds.map λc=>(c.x,c.y)).Nodup
ok:∀c∈ds,(Zx c/\1<=c.s)/\x<=c.x/\c.x<x+5/\y<=c.y/\c.y<y+4
len:ds.length<=n
theorem Dd.nil(x y:Int):Dd [] 0 x y:=⟨by simp,(λc a=>by cases a),B8 _⟩
theorem Dd.put{c:Cl}(h:Dd ds n x y)(f:Zx c)(b:1<=c.s)(e:x<=c.x/\c.x<x+5/\y<=c.y/\c.y<y+4):Dd (Lp ds c) (n+1) x y:=by
 refine⟨Yd h.nd,λd a=>?_,C5 (UP ds c) (Q5 h.len)⟩;rcases UK.mp a with rfl|⟨a,_⟩
 .exact⟨⟨f,b⟩,e⟩
 .exact h.ok d a
theorem aB9 {ds:List Cl} (b:(ds.map λc=>(c.x,c.y)).Nodup) {c d:Cl} (g:c∈ds) (h:d∈ds) (e:d.x=c.x) (f:d.y=c.y):d.s=c.s:=by
 have a:=NH b h;rw[e,f,(NH b g)]at a;injection a with a
 injection a with a
 lia
theorem Dd.dk{ds:List Cl}{n:Nat}{x y:Int}(h:Dd ds n x y):JP ds (stC ds):=by
 refine⟨h.nd,λc=>⟨λf=>⟨(h.ok c f).1.2,?_⟩,λ⟨j,i⟩=>?_⟩⟩
 .rcases Pe ds c.x c.y with ⟨d,g,a,b,e⟩|⟨no,_⟩
  .rw[e];exact aB9 h.nd f g a b
  .exact absurd ⟨Z,Z⟩ (no c f)
 .rcases Pe ds c.x c.y with ⟨d,g,a,b,e⟩|⟨_,e⟩
  .rw[e]at i;have:d=c:=by
    cases d;cases c;cases a;cases b;cases i;rfl
   exact this▸g
  .lia
section
variable{P:N_}{w:Q_}{K:O_}{mg:C_}{n8:T_}{a:Ad}
theorem aFH(F:Fun K "_law_by_rows" "_law_by_rows" Gy f fd)(T:Top K mg a):AM P w K mg n8 CX0 1 f fd Qu PH:=by
 refine F.ok OS (λvs H Q E h=>?_) (λg A d s H vs Q E i h=>?_)
 .refine xe4 h λt x y r b=>xa b λc _=>?_;clear b;clear h;subst c;rfl
 .refine xe4 h λt x y r b=>xa2 b λc e k=>?_;clear b;clear h;subst c;exact⟨_,(Ah (Au (BH (Aa (Aj Al (pv 0) Ac R_9) (Aa (Aj Al (pv 0) Ac R_9) Ab))))),(xwi Z Z Z (SqT.of e) (Ai (j:=1) Z) (xwi Z Z Z (SqT.of e) (Ai (j:=0) Z) ⟨S_2,k⟩))⟩
inductive aDW(vs:List V)(H:Hp)(Q:VK):Prop
|mk (D:R_) (ds:List Cl) (_:vs=[.ref D]) (_:Rd H D (.dT (kvC ds))) (_:(ds.map λc=>(c.x,c.y)).Nodup) (_:ds.length<64\/(ds.length<=1000/\ByC ds)) (_:∀(o:Obj)(L:R_)(ts:H_)(cs:List Cl)(H':Hp),FrO D H H'->H' D=n_ (.frz o (.dT (kvC ds)))->H L=o0->H' L=n_ (.lst (ts.map V.ref))->Paired (OH H') ts cs->cs.Perm ds->ByC cs->Q (.ref L) H'):aDW vs H Q
def WJ:Sp:=λvs H Q _=>aDW vs H Q
theorem aE8(F:Fun K "_law_listed" "_law_listed" Iy f fd)(T:Top K mg a)(bX:Cal P w K mg n8 CX0 1 "_law_by_rows" Qu PH):AM P w K mg n8 CX0 5 f fd Fz WJ:=by
 refine F.ok Gq D_9 λae A ac s H vs Q E hr h=>?_
 obtain⟨D,ds,rfl,rd,nd,U,k⟩:=h;have af:ds.length<=1000:=U.elim (λh=>C5 (Q7 h) A4) λh=>h.1;refine⟨_,(Ae (Am (i:=1) Gq.nd Z O_9 (BO Ab)) (Ae (BX A1c Z (Lr (pv 0)) (Bd (i:=2) Gq.nd Z O_9) (Ah (BP (Du A1g A1h A2a BL (pv 1) (AV (Aa (Aj Al (pv 2) Ac R_9) (Aa (Aj Al (pv 2) Ac R_9) (Aa (SF (DM hr) (pv 0) (pv 2) R_9) Ab))) Ab))))) (Ah (Au (VH bX (rm hr) Z T.aAo Z (Aa (pv 1) Ab)))))),?_⟩;have nD:∀{x:R_},H x=o0->x≠D:=λ{x} n z=>by
  rw[z]at n;rcases rd with y|⟨o,y⟩
  .rw[y]at n;cases n
  .rw[y]at n;cases n
 refine⟨S_0,λS B=>?_⟩;have s1:=AH (o:=.lst []) B;have h1:upd H S (.lst []) S=n_ (.lst []):=Af;generalize upd H S (.lst [])=H1 at s1 h1⊢;have ad:Rd H1 D (.dT (kvC ds)):=by
  rcases rd with y|⟨o,y⟩
  .exact .inl (s1 _ _ y)
  .exact .inr ⟨o,s1 _ _ y⟩
 refine xq1 Z ⟨D,kvC ds,Z,ad,λo H2 r M=>?_⟩;have m:FrO D H H2:=λb u e n=>M _ _ (s1 _ _ e) n;have ab:(kvC ds).length=ds.length:=B7 _;refine aEg (kvs:=kvC ds) (λj σ l=>∃(G:H_)(u2:Option V),σ=[n_ (.ref D),n_ (.ref S),u2]/\(∀b u,H2 b=n_ u->b≠S->l b=n_ u)/\l S=n_ (.lst (G.map V.ref))/\Paired (OH l) G (ds.take j)) ⟨[],o0,Z,λb u e _=>e,(M _ _ h1 (nD B)),.nil⟩ (λj σ l _ z=>by refine AS z λ_ _ _ z _=>?_;exact z _ _ r (A1a (nD B))) ?_ ?_
 .intro j kb kv v σ l ev hb Y;refine Ep Y λG u2 p C h3 X=>?_;clear Y;subst p;obtain⟨c,I,ee⟩:∃c,ds[j]?=n_ c/\(kOf [c.x,c.y],V.int (c.s:Int))=(kv,v):=by
   unfold kvC at ev;rw[C0]at ev;exact xea (D5.mp ev) λc I e=>⟨c,I,e⟩
  cases ee;have jl:j<ds.length:=(B9.mp I).1;have O:l kb=n_ (.tup [.int c.x,.int c.y]):=hb;have lt:=A1e X;rw[L7]at lt;refine xq1 Z ⟨.inl ⟨Z,_,SqL.of h3⟩,(xwi Z Z Z (SqT.of O) (Ai (j:=0) Z) (xwi Z Z Z (SqT.of O) (Ai (j:=1) Z) (xw2 Z Z ⟨D,.int (c.s:Int),Z,?_,?_⟩)))⟩
  .exact .inr ⟨kvC ds,kOf [c.x,c.y],kb,.inr ⟨o,(C _ _ r (A1a (nD B)))⟩,Z,hb,(NH nd (D8 I)).symm⟩
  refine⟨S_3,λt ht=>?_⟩;have s6:=AH (o:=.tup [.int c.x,.int c.y,.int (c.s:Int)]) ht;have R:OH (upd l t (.tup [.int c.x,.int c.y,.int (c.s:Int)])) t c:=Af;generalize upd l t (.tup [.int c.x,.int c.y,.int (c.s:Int)])=H6 at s6 R⊢;have h6:=s6 _ _ h3;refine⟨S,(xq2 Z Z ⟨h6,by rw[B7];exact DU A3,?_⟩)⟩;have tp:∀{b:R_}{ys:List V},H6 b=n_ (.tup ys)->upd H6 S (.lst (G.map V.ref++[.ref t])) b=n_ (.tup ys):=λ{b ys} e=>by rw[Ax (AI e h6 A6)];exact e
  refine⟨G++[t],(xq1 Z ⟨λb u e n=>?_,by rw[Af,C7];rfl,?_⟩)⟩
  .rw[Ax n];exact s6 _ _ (C _ _ e n)
  .rw[F7,I,Q4];exact A3f (PairedM.imp (λb c z=>tp (s6 _ _ z)) X) (tp R)
 .intro σ l aa;refine Ep aa λG u2 p C h3 X=>?_;clear aa;subst p;rw[ab,J0]at X;refine AX (WS X) λg e1 e2 hit=>?_;have li:g.length=ds.length:=by rw[<-e2,B7]
  refine xq1 Z ⟨S,g,Z,by rw[e1];exact SqL.of h3,by rw[li];exact U.imp (λh=>h) λh=>⟨h.1,by have z:=h.2;rw[<-e2]at z;exact S7.mp z⟩,λq hq=>(hit q hq).2,λL d H4 kp W pm ru=>?_⟩;have N:=kp _ _ (C _ _ r (A1a (nD B)));have s5:=AH (o:=.lst (d.map λq=>V.ref q.a)) W;have h5:upd H4 L (.lst (d.map λq=>V.ref q.a)) L=n_ (.lst ((d.map (·.a)).map V.ref)):=by rw[Af,O1];rfl
  generalize upd H4 L (.lst (d.map λq=>V.ref q.a))=H5 at s5 h5⊢;refine k o L (d.map (·.a)) (d.map clI) H5 (λb u e n=>s5 _ _ (kp _ _ (C _ _ (m _ _ e n) (Av e B)))) (s5 _ _ N) ?_ h5 (Qj λq hq=>s5 _ _ (kp _ _ (hit q (pm.mem_iff.mp hq)).1)) (by rw[<-e2];exact pm.map _) (S7.mpr ru);cases e:H L with
  |none=>rfl
  |some u =>
   by_cases z:L=D
   .rw[z,N]at W;cases W
   .rw[kp _ _ (C _ _ (m _ _ e z) (Av e B))]at W;cases W
theorem aDq(h:0<=n)(l:n<=100):aEJ 2 n:=⟨h,W6 l A4,by decide⟩
inductive aAW(vs:List V)(H:Hp)(Q:VK):Prop
|mk (c:Int) (_:vs=[.int c]) (_:∀v:Int,-(2^20)<=v->v<2^20->Q (.int v) H):aAW vs H Q
def VB:Sp:=λvs H Q _=>aAW vs H Q
theorem aCl(F:Fun K "_law_base" "_law_base" Lk f fd)(T:Top K mg a):AM P w K mg n8 CX0 1 f fd Qu VB:=by
 refine F.ok Sw D_9 λd A b s H vs Q E e h=>?_
 obtain⟨c,rfl,k⟩:=h;refine⟨_,(Ae (AO (AA CQ (AE Bf (pv 0) Ac) Ac (AD _)) (Ah (Au (AE Bq (AE Bf (AE CF (pv 0) Ac) (AE aB0 Ac Ac)) (AE aB0 Ac Ac)))) AB) (Ah (Au (AE Bq (AE Bf (AE CF (pv 0) Ac) Ac) Ac)))),?_⟩;refine xwb Z Z Z ⟨B6,Z,(xq1 Z (IN (λ_=>?_) (λ_=>?_)))⟩
 .refine xwb Z Z Z ⟨⟨by decide,by decide⟩,(xq2 Z Z ⟨aDq A4 A4,(xq2 Z Z ⟨(by show(0:Int)<2^21;decide),(xq2 Z Z ⟨aDq A4 A4,(xq2 Z Z (k _ ?_ ?_))⟩)⟩)⟩)⟩
  .show -(2^20)<=c/4%2^21-2^20;lia
  .show c/4%2^21-2^20<2^20;lia
 .refine xwb Z Z Z ⟨⟨by decide,by decide⟩,(xq2 Z Z ⟨(by show(0:Int)<12;decide),(xq2 Z Z (k _ ?_ ?_))⟩)⟩
  .show -(2^20)<=c/4%12-8;lia
  .show c/4%12-8<2^20;lia
inductive aDN(K:O_)(vs:List V)(H:Hp)(Q:VK):Prop
|mk (l:R_) (ns:I_) (fi x y:Int) (m:Nat) (_:vs=[.ref l,.int fi,.int (m:Int),.int x,.int y]) (_:SqL K H l (ns.map V.int)) (_:0<=fi) (_:m<=100) (_:-(2^38)<=x) (_:x<2^38) (_:-(2^38)<=y) (_:y<2^38) (_:∀(D:R_)(ds:List Cl)(H':Hp),Ay H H'->H D=o0->H' D=n_ (.dT (kvC ds))->Dd ds m x y->Q (.ref D) H'):aDN K vs H Q
def aD4(K:O_):Sp:=λvs H Q _=>aDN K vs H Q
theorem aEy(F:Fun K "_law_cells_by" "_law_cells_by" FO f fd)(T:Top K mg a)(R:Cal P w K mg n8 CX0 1 "_law_at" Zb (YJ K))(aF:Cal P w K mg n8 CX0 1 "_law_mix" GL TX)(aA:Cal P w K mg n8 CX0 1 "_law_state_by" OX ZU):AM P w K mg n8 CX0 2 f fd FR (aD4 K):=by
 refine F.ok CO D_9 λaa A Y s H vs Q E r h=>?_
 obtain⟨l,ns,S,x,y,m,rfl,W,f0,m1,x1,x2,y1,y2,k⟩:=h;refine⟨_,(Ae (Am (i:=5) CO.nd Z O_9 (BH (AT Bf (Ar R (rm r) Z Aq (Aa (pv 0) (AG Ab))) Ac (AT Bf (Ar R (rm r) Z Aq (Aa (pv 0) (AG Ab))) Ac Ab)))) (Ae (Am (i:=6) CO.nd Z O_9 Lu) (Ae (BX A1c Z (Cm Z T.U_ (Aa (pv 2) Ab)) (Bd (i:=7) CO.nd Z O_9) (Ae (Am (i:=8) CO.nd Z O_9 (Ar aF (rm r) Z Aq (Aa (Ar R (rm r) Z Aq (Aa (pv 0) (AT AR (pv 1) (pv 7) Ab))) (AT AR Ac (pv 7) Ab)))) (Ah (Fw (DM r) (pv 6) (BH (AT AR (pv 3) (AE Bf (pv 8) Ac) (AT AR (pv 4) (AE Bf (AE CF (pv 8) Ac) Ac) Ab))) (AN (RT Z) Z T.aAM A4b (AG (Aa (Ar aA (rm r) Z Aq (Aa (pv 5) (AT CF (pv 8) Ac Ab))) Ab))) Z)))) (Ah (Au (pv 6)))))),?_⟩;refine xq1 Z ⟨l,ns,0,Z,W,by decide,(xq2 Z Z ⟨B3,(xq1 Z ⟨l,ns,1,Z,W,by decide,?_⟩)⟩)⟩;refine⟨_,_,Z,Z,B3,S_2,λu X=>?_⟩;have N:=AH (o:=.tup [.int (atN ns 0%8),.int (atN ns 1%8)]) X;have hM:Ws (upd H u (.tup [.int (atN ns 0%8),.int (atN ns 1%8)])) u:=⟨_,_,Af,⟨P3 _ A4,O5 _ A4⟩,⟨P3 _ A4,O5 _ A4⟩⟩
 show(Vu _ _) _ _ (upd H u (.tup [.int (atN ns 0%8),.int (atN ns 1%8)]));generalize upd H u (.tup [.int (atN ns 0%8),.int (atN ns 1%8)])=O at N hM⊢;refine λD U=>?_;have s1:=AH (o:=.dT []) U;have z:upd O D (.dT []) D=n_ (.dT (kvC [])):=Af;generalize upd O D (.dT [])=H1 at s1 z⊢;refine xw2 Z Z ⟨by lia,by lia,?_⟩;rw[M4];refine Ce (n:=m) (λj σ q=>∃(ds:List Cl)(u7 u8:Option V),σ=[n_ (.ref l),n_ (.int S),n_ (.int (m:Int)),n_ (.int x),n_ (.int y),n_ (.ref u),n_ (.ref D),u7,u8]/\Ay O q/\q D=n_ (.dT (kvC ds))/\Dd ds j x y) ⟨[],o0,o0,Z,s1,z,Dd.nil x y⟩ ?_ ?_
 .intro j σ q hj I;refine Go I λds u7 u8 g C p M=>?_;clear I;subst g;refine xq1 Z (xq1 Z (xq1 Z (xq2 Z Z ⟨l,ns,_,Z,(N.trans C).seq W,by show 0<=S+(0+(j:Int));lia,?_⟩)));generalize atN ns (S+(0+(j:Int)))=c;refine xq1 Z (xq2 Z Z ⟨c,_,Z,by lia,by lia,λv v0=>?_⟩);refine AS (hM.same C) λmx my hm hx hy=>xw2 Z Z (xq2 Z Z ⟨⟨by decide,by decide⟩,u,mx,my,v/20,Z,hm,hx,hy,λd hd=>⟨_,_,Z,?_⟩⟩);obtain⟨st,B⟩:=M0 (show 0<=(if d > 1 then d else 1) by split<;>lia);have G:1<=st/\st<8:=by
   obtain⟨d0,d8⟩:=hd;split at B<;>lia
  rw[show V.int (if d > 1 then d else 1)=V.int (st:Int)from A2c V.int B];refine xw3 Z Z Z (xq2 Z Z ⟨(by show(0:Int)<5;decide),(xq2 Z Z (xw2 Z Z (xq2 Z Z ⟨⟨by decide,by decide⟩,(xq2 Z Z ⟨B6,(xq2 Z Z ⟨S_2,λt ht=>?_⟩)⟩)⟩)))⟩);have s6:=AH (o:=.tup [.int (x+v%5),.int (y+v/5%4)]) ht;have h6:upd q t (.tup [.int (x+v%5),.int (y+v/5%4)]) t=n_ (.tup [.int (x+v%5),.int (y+v/5%4)]):=Af;have dl:=M.len;refine⟨D,(xq1 Z ⟨aGg (c:=⟨x+v%5,y+v/5%4,st⟩) (s6 _ _ p) h6 A3,?_⟩)⟩;refine⟨Lp ds ⟨x+v%5,y+v/5%4,st⟩,_,_,Z,λb o e=>?_,Af,M.put ⟨?_,G.2⟩ G.1 ?_⟩
  .rw[Ax (Av e U)];exact s6 _ _ (C _ _ e)
  .unfold Gg;dsimp only;refine⟨by lia,by lia,by lia,by lia⟩
  .dsimp only;refine⟨by lia,by lia,by lia,by lia⟩
 .intro σ q L;refine Go L λds u7 u8 g C p M=>?_;clear L;subst g;exact xq1 Z (k D ds q (N.trans C) (Ay.noneN N U) p M)
theorem aEd(D:Be a H g G)(E:H L=n_ (.lst (B.map V.ref)))(ap:Ap g L)(I:Paired (OH H) B cs)(A:cs.Perm ds)(dk:JP ds φ)(ok:∀c∈ds,Zx c)(l:ds.length<=40)(few:G.length<6000000)(k:∀(r:Nat)(o:Gv)(t:Hp),Fr g H t->Be a t g o->AJ G o 16000->Fv o r φ->Q (.int r) t):aAZ a [.ref g.p,.ref L] H Q:=by
 have N:=A.length_eq;have m:∀c∈cs,Zx c:=λc z=>ok c (A.mem_iff.mp z);refine⟨g,G,L,B,cs,Z,D,E,ap.1,ap.2.1,I,m,by lia,λC F q x f b h j i e=>?_⟩;obtain⟨M,y⟩:=b.g0;obtain⟨n,d⟩:=Zm y b.ok e (λc z=>(m c (Z0.mp z)).s);exact k C q x f b (h.mono A3) ⟨F,j,i,n,λu v=>by rw[d,aFl (dk.perm A)]⟩
end
end J
namespace J
open PySem L2
theorem QE{lo:Int}{n:Nat}{g:TG}{h:TS}{D:Jc}{σ:St}{H:Hp}(c:Nat->St->Hp->Prop)(j:c 0 σ H)
  (o:∀i (e:Jc),(∀{σ H},c (i+1) σ H->e.nx σ H)->∀σ H,i<n->c i σ H->g (.int (lo+i)) σ H fun a d=>h e a d) (k:∀σ H,c n σ H->D.nx σ H) :
  ∃W:Nat->Nat->St->Hp->Prop,(∃m,W 0 m σ H)/\∀i m σ H,W i m σ H ->
   ((Itr lo n).stop i H/\D.nx σ H)\/((Itr lo n).go i H/\∃N:St->Hp->Prop,(∀σ' b,N σ' b->∃f,f<m/\W (i+1) f σ' b)/\∀x b,(Itr lo n).yld i H x b->g x σ b fun a d=>h {D with nx:=N,ct:=N,bk:=D.nx} a d) :=
 Ce c j (λi σ H l p=>o i _ (λz=>z) σ H l p) k
theorem aGm       (h:∀(a:TS) R,(∀{D:Jc}{σ:St}{H:Hp},b D σ H->a D σ H)->(∀{J c},aFr (λ_ _ R=>R J c) g a D σ H->R J c)->I σ H R):aFr I g b D σ H:=h b _ (λz=>z) λz=>z
theorem gnm(h:Q (σ.set i (n_ v)) H):MB i v σ H Q:=h
theorem Sz{D t:R_}(b:Rd H D (.dT a))(e:H t=n_ (.tup ys)):t≠D:=λz=>by
 rw[z]at e;rcases b with h|⟨o,h⟩<;>rw[h]at e<;>cases e
theorem aHT(b:Rd H D (.dT a))(n:H x=o0):x≠D:=λz=>by
 rw[z]at n;rcases b with h|⟨o,h⟩<;>rw[h]at n<;>cases n
theorem Ul(c:Rd H D (.dT b))(s:Ay H a):Rd a D (.dT b):=by
 rcases c with h|⟨o,h⟩
 .exact .inl (s _ _ h)
 .exact .inr ⟨o,s _ _ h⟩
def Ux:List (Int×Int):=[(-1,-1),(0,-1),(1,-1),(-1,0),(1,0),(-1,1),(0,1),(1,1)]
def Vm(H:Hp)(t:R_)(p:Int×Int):Prop:=H t=n_ (.tup [.int p.1,.int p.2])
def arF(φ:D_)(x y:Int):List Int:=Ux.map λo=>((φ (x+o.1) (y+o.2):Nat):Int)
theorem aHW(a:FJ r)(φ:D_)(x y:Int):Cz r (φ x y:Nat) (arF φ x y)=((sF r φ x y:Nat):Int):=by
 unfold sF;rw[P7 (aAq a (O4 _) _)];unfold arF Ux;simp only[F8,Z5,Int.add_zero];rfl
theorem aBD{D t:R_}(a:H D=n_ (.frz o (.dT (kvC cs))))(b:H t=n_ (.tup [.int x,.int y])):GW H D (.ref t) (Bv (kvC cs) (kOf [x,y])):=.inr ⟨kvC cs,kOf [x,y],t,.inr ⟨o,a⟩,Z,b,Z⟩
theorem ZE:∀{e:List Cl},(∀c∈e,¬(c.x=x/\c.y=y))->Bv (kvC e) (kOf [x,y])=o0
|[],_=>rfl
|c::e,h=>by
 show Bv ((kOf [c.x,c.y],V.int (c.s:Int))::kvC e) (kOf [x,y])=o0;rw[Bz (λz=>h c (C8 ..) (by have z:=z;have:=JK z;injection this with a b;injection b with b;exact⟨a,b⟩))];exact ZE λd f=>h d (C9 _ f)
theorem ZF(dk:JP ds φ):(Bv (kvC ds) (kOf [x,y])).getD (V.int 0)=V.int (φ x y:Nat):=by
 by_cases z:φ x y=0
 .rw[ZE λc d ⟨a,b⟩=>by
   have:=(dk.mem c).mp d;rw[a,b,z]at this;lia,z]
  rfl
 .rw[NH dk.nd (c:=⟨x,y,φ x y⟩) ((dk.mem _).mpr ⟨P0 z,rfl⟩)];rfl
structure Vn(ψ:D_)(P:Int->Int->Prop)(ds:List Cl)(n:Nat):Prop where
nd:(ds.map λc=>(c.x,c.y)).Nodup
mem:∀c:Cl,c∈ds↔((1<=c.s/\ψ c.x c.y=c.s)/\P c.x c.y)
len:ds.length<=n
so:ByC ds
theorem Vn.imp(h:Vn ψ P ds n)(i:∀u v,ψ u v≠0->(P u v↔a u v))(l:n<=b):Vn ψ a ds b:=⟨h.nd,λc=>by
 rw[h.mem];exact and_congr_right λ⟨e,d⟩=>i _ _ (by rw[d];lia),C5 h.len l,h.so⟩
theorem Vn.put(h:Vn ψ P ds n)(e:ψ x y=s)(p:1<=s)(o:∀u v,P u v->v<y\/(v=y/\u<x))(i:∀u v,m u v↔(P u v\/(u=x/\v=y))):Vn ψ m (Lp ds ⟨x,y,s⟩) (n+1):=by
 have a:¬P x y:=λz=>by
  have:=o x y z;lia
 refine⟨Yd h.nd,λc=>?_,C5 (UP ds _) (Q5 h.len),?_⟩
 case refine_2 =>
  have e:Lp ds ⟨x,y,s⟩=ds++[⟨x,y,s⟩]:=by
   unfold Lp;rw[A0d];intro z;obtain⟨d,l,z⟩:=U6.mp z;obtain⟨b,j⟩:=A2b z;have:=((h.mem d).mp l).2;rw[b,j]at this;exact a this
  rw[e];refine List.pairwise_append.mpr ⟨h.so,List.pairwise_singleton _ _,λd l q t=>?_⟩;rw[D4.mp t];have z:=o _ _ ((h.mem d).mp l).2;show Ds [y,x] [d.y,d.x]=o5;unfold Ds Ds;rcases z with z|⟨b,j⟩
  .rw[A0d A3];exact A0f A3
  .rw[A0g b.symm,A0d A3];exact A0f A3
 rw[UK,h.mem,i];dsimp only;constructor
 .rintro(rfl|⟨⟨k,f⟩,_⟩)
  .exact⟨⟨p,e⟩,.inr ⟨Z,Z⟩⟩
  .exact⟨k,.inl f⟩
 .rintro⟨⟨k,f⟩,g|⟨g,r⟩⟩
  .exact .inr ⟨⟨⟨k,f⟩,g⟩,λ⟨b,j⟩=>a (by rw[<-b,<-j];exact g)⟩
  .refine .inl ?_;obtain⟨w,A,cs⟩:=c;cases g;cases r;cases e.symm.trans f;rfl
def coC(k:Nat)(c:Cl):Int:=if k=0 then c.x else c.y
theorem Tm{K:O_}{fin:List V->Hp->Prop}(k:Nat)(w:k<2)(kk:Int)(r:kk=(k:Int))(u:H D=n_ (.frz o (.dT (kvC ds))))(B:ds.length<=1000)(q:∀(m:Hp),Ay H m->fin ((ds.map (coC k)).map V.int) m):FK 1 [] (MB 0) aFv (tOp (Lo K) (GY 0) (tC (V.int kk))) (Itd D o (kvC ds)) σ H fin:=by
 have h:(kvC ds).length=ds.length:=B7 _;refine aER (kvs:=kvC ds) (λj a b=>Ay H b/\a=((ds.take j).map (coC k)).map V.int) ⟨Ay.refl H,Z⟩ (λj a b _ z=>by obtain⟨d,_⟩:=z;exact d _ _ u) ?_ ?_
 .intro j n A v a b g t i;obtain⟨d,rfl⟩:=i;obtain⟨c,f,p⟩:∃c,ds[j]?=n_ c/\(kOf [c.x,c.y],V.int (c.s:Int))=(A,v):=by
   unfold kvC at g;rw[C0]at g;exact xea (D5.mp g) λc f e=>⟨c,f,e⟩
  cases p;have jl:=(B9.mp f).1;refine⟨⟨[n_ (.ref n)],Z,Z⟩,by rw[B7,B7,L7];exact DU A3,FY ?_⟩;refine⟨_,Z,n,_,(k:Int),.int (coC k c),Z,by rw[r],SqT.of t,Ai ?_,d,?_⟩
  .match k,w with
   |0,_=>rfl
   |1,_=>rfl
  .rw[F7,f,Q4,C7,C7];rfl
 .intro a b l;obtain⟨d,rfl⟩:=l;rw[h,J0];exact q b d
seal L2.PA L2.PE L2.PS L2.PSs L2.PT L2.PW
theorem ptsn{ps:List (Int×Int)}{t:R_}(d:Ay b H)(c:Paired (Vm H) us ps)(n:H t=o0)(e:upd H t (.tup [.int x,.int y])=a):Ay b a/\Paired (Vm a) (us++[t]) (ps++[(x,y)]):=by
 subst e;have s:=AH (o:=.tup [.int x,.int y]) n;exact⟨Ay.trans d s,A3f (PairedM.imp (λ_ _ z=>s _ _ z) c) Af⟩
theorem aGZ      (h:b σ H λxs a=>xs.length<=sizeLine/\∀p,a p=o0->D.nx (σ.set i (n_ (.ref p))) (upd a p (.lst xs))):aFm (aDH b) (MB i) D σ H:=h
theorem ng1{q:VK}(z:q (.int (-1)) H):tUn (rU λi=>V.int (-i)) (tC (V.int 1)) σ H q:=⟨_,Z,z⟩
theorem tc0{q:VK}(z:q v H):tC v σ H q:=z
theorem pt2        {ps:List (Int×Int)} (d:∀{H:Hp}{q:VK},q (.int x) H->X σ H q) (e:∀{H:Hp}{q:VK},q (.int y) H->Y σ H q) (g:Ay b H) (f:Paired (Vm H) us ps) (k:∀(t:R_)(a:Hp),Ay b a->Paired (Vm a) (us++[t]) (ps++[(x,y)])->R σ a λxs c=>Q (.ref t::xs) c):CI (YI (CI X (CI Y PF))) R σ H Q :=
 d (e ⟨S_2,λt n=>by
  obtain⟨s,p⟩:=ptsn g f n Z;exact k t _ s p⟩)
def InW(ψ:D_)(X Y:Int)(W D:Nat):Prop:=∀u v,ψ u v≠0->X<=u/\u<X+W/\Y<=v/\v<Y+D
section
variable{P:N_}{w:Q_}{K:O_}{mg:C_}{n8:T_}{a:Ad}
inductive aDj(vs:List V)(H:Hp)(Q:VK):Prop
|mk (H0:Hp) (q D:R_) (r:AC) (ds:List Cl) (φ:D_) (X Y:Int) (W B:Nat) (_:vs=[.ref q,.ref D]) (_:Il H0 q r) (_:FJ r) (_:Cz r 0 BF=0) (_:Ay H0 H) (_:H0 D=o0) (_:Rd H D (.dT (kvC ds))) (_:JP ds φ) (_:InW φ X Y W B) (_:ds.length<=500) (_:W<=19/\B<=18) (_:-(2^41)<=X/\X<=2^41/\-(2^41)<=Y/\Y<=2^41) (_:∀(D':R_)(ds':List Cl)(H':Hp),FrO D H H'->Rd H' D (.dT (kvC ds))->H D'=o0->H' D'=n_ (.dT (kvC ds'))->JP ds' (sF r φ)->ds'.length<=500->ByC ds'->Q (.ref D') H'):aDj vs H Q
def ZR:Sp:=λvs H Q _=>aDj vs H Q
theorem aFM(F:Fun K "_law_step" "_law_step" Es f fd)(T:Top K mg a)(aS:Cal P w K mg n8 CX0 3 "_law_becomes" GM aFe):AM P w K mg n8 CX0 4 f fd LE ZR:=by
 refine F.ok Ci D_9 λcv A cp s H vs Q E hr h=>?_
 obtain⟨H0,q,D,r,ds,φ,X,Y,W,B,rfl,hq,ro,re,s0,n0,rd,dk,cl,ld,⟨cu,ct⟩,⟨X1,X2,Y1,Y2⟩,k⟩:=h;refine⟨_,(Ae (Am (i:=2) Ci.nd rfl O_9 (BO (AV (Aa (EI CZ Ac) (Aa (EI CZ Ac) Ab)) (AV (AG (Aa (EI CZ Ac) Ab)) (AV (AG (Aa (EI CZ Ac) Ab)) (AV (Aa (EI CZ Ac) (AG Ab)) (AV (AG (AG Ab)) (AV (Aa (EI CZ Ac) (AG Ab)) (AV (AG (AG Ab)) (AV (AG (AG Ab)) Ab)))))))))) (Ae (Am (i:=3) Ci.nd rfl O_9 Lu) (Ae (AO (AA CQ (AN RU rfl T.j_ A2g (Aa (pv 1) Ab)) Ac (AD _)) (Ah (Au (pv 3))) AB) (Ae (Eg (i:=4) rfl Ci.nd rfl rfl (Bl.of (So:=Ak Es) (No:=Ii) (N:=["_law_place"]) (k:=1) (cs:=[]) rfl rfl A0) (Lr (pv 1)) (λ_ _ _=>(AW (i:=0) A0 rfl rfl)) (λ_ _ _=>Bm) (λ_ _ _=>(Aj (DK (K:=K) rfl) (pv 0) Ac R_9))) (Ae (Eg (i:=5) rfl Ci.nd rfl rfl (Bl.of (So:=Ak Es) (No:=Ii) (N:=["_law_place"]) (k:=1) (cs:=[]) rfl rfl A0) (Lr (pv 1)) (λ_ _ _=>(AW (i:=0) A0 rfl rfl)) (λ_ _ _=>Bm) (λ_ _ _=>(Aj (DK (K:=K) rfl) (pv 0) Ac R_9))) (Ae (BX A1c rfl (IV rfl T.U_ (AT Bq (AN (Gm rfl) rfl T.aAJ A3b (Aa (pv 5) Ab)) Ac (AT AR (AN (Ml rfl) rfl T.aAM A4b (Aa (pv 5) Ab)) Ac Ab))) (Bd (i:=6) Ci.nd rfl (Or.inr rfl)) (Ah (BX A1c rfl (IV rfl T.U_ (AT Bq (AN (Gm rfl) rfl T.aAJ A3b (Aa (pv 4) Ab)) Ac (AT AR (AN (Ml rfl) rfl T.aAM A4b (Aa (pv 4) Ab)) Ac Ab))) (Bd (i:=7) Ci.nd rfl (Or.inr rfl)) (Ae (Eg (i:=8) rfl Ci.nd rfl rfl (Bl.of (So:=Ak Es) (No:=Ii) (N:=["_law_dx","_law_dy","_law_states","_law_y","_law_x"]) (k:=2) (cs:=[1,6,7]) rfl rfl A0) (Cb (pv 2)) (λ_ _ _=>(Ut (i:=0) (j:=1) rfl A0 rfl rfl rfl rfl)) (λ_ _ _=>Bm) (λ_ _ _=>(Uv (DM hr) (pv 2) (BH (AT AR (pv 4) (pv 0) (AT AR (pv 3) (pv 1) Ab))) Ac ⟨rfl,rfl,rfl,rfl⟩))) (Ae (Am (i:=9) Ci.nd rfl O_9 (Ar aS (rm hr) rfl Aq (Aa (pv 0) (Aa (Uv (DM hr) (pv 1) (BH (Aa (pv 7) (Aa (pv 6) Ab))) Ac ⟨rfl,rfl,rfl,rfl⟩) (Aa (pv 8) Ab))))) (Ah (AO (AA JV (pv 9) Ac (AD _)) (Ah (Fw (DM hr) (pv 3) (BH (Aa (pv 7) (Aa (pv 6) Ab))) (pv 9) rfl)) AB))))))) (Ah (Au (pv 3))))))))),?_⟩;refine Bc ?_;intro r1 s1 k1 b8 E1;refine aGZ ?_;obtain⟨bq,be⟩:Ay H H/\Paired (Vm H) [] []:=⟨Ay.refl H,.nil⟩
 refine pt2 (x:=-1) (y:=-1) ng1 ng1 bq be λt1 H1 br bf=>?_;clear bq be;refine pt2 (x:=0) (y:=-1) tc0 ng1 br bf λt2 H2 bt bg=>?_;clear br bf;refine pt2 (x:=1) (y:=-1) tc0 ng1 bt bg λt3 H3 bu bh=>?_;clear bt bg;refine pt2 (x:=-1) (y:=0) ng1 tc0 bu bh λt4 H4 bv bi=>?_;clear bu bh;refine pt2 (x:=1) (y:=0) tc0 tc0 bv bi λt5 H5 bw bj=>?_;clear bv bi;refine pt2 (x:=-1) (y:=1) ng1 tc0 bw bj λt6 H6 bx bl=>?_;clear bw bj;refine pt2 (x:=0) (y:=1) tc0 tc0 bx bl λt7 H7 bz bm=>?_;clear bx bl;refine pt2 (x:=1) (y:=1) tc0 tc0 bz bm λt8 H8 au bn=>?_;clear bz bm;refine⟨(by show 8<=sizeLine;decide),λO hO=>?_⟩;have sO:=Ay.trans au (AH (o:=.lst [.ref t1,.ref t2,.ref t3,.ref t4,.ref t5,.ref t6,.ref t7,.ref t8]) hO);have eO:upd H8 O (.lst [.ref t1,.ref t2,.ref t3,.ref t4,.ref t5,.ref t6,.ref t7,.ref t8]) O=n_ (.lst (([t1,t2,t3,t4,t5,t6,t7,t8]:H_).map V.ref)):=Af;have M:Paired (Vm (upd H8 O (.lst [.ref t1,.ref t2,.ref t3,.ref t4,.ref t5,.ref t6,.ref t7,.ref t8]))) [t1,t2,t3,t4,t5,t6,t7,t8] Ux:=PairedM.imp (λ_ _ z=>AH hO _ _ z) bn;have nO:H O=o0:=Ay.noneOf au hO;show E1.nx _ (upd H8 O (.lst [.ref t1,.ref t2,.ref t3,.ref t4,.ref t5,.ref t6,.ref t7,.ref t8]));generalize upd H8 O (.lst [.ref t1,.ref t2,.ref t3,.ref t4,.ref t5,.ref t6,.ref t7,.ref t8])=H9 at sO eO M⊢;generalize ([t1,t2,t3,t4,t5,t6,t7,t8]:H_)=us at eO M;clear au bn hO;refine b8 (Bc ?_);intro r2 s2 k2 b9 E2;refine λZ hZ=>?_;have nZ:H Z=o0:=Ay.noneOf sO hZ;have co:Z≠O:=A1a (Av eO hZ);have sZ:=AH (o:=.dT []) hZ;have eZ:upd H9 Z (.dT []) Z=n_ (.dT (kvC [])):=Af;generalize upd H9 Z (.dT [])=aa at sZ eZ⊢;have sm:Ay H aa:=Ay.trans sO sZ;have ag:=sZ _ _ eO;have ah:Paired (Vm aa) us Ux:=PairedM.imp (λ_ _ z=>sZ _ _ z) M;have L:=Ul rd sm;have nD:∀{x:R_},H x=o0->x≠D:=λn=>aHT rd n;clear sO eO M sZ hZ;refine b9 (Bc ?_);intro r3 s3 k3 cb E3;refine xq1 rfl ⟨D,kvC ds,rfl,L,rfl,(xq1 rfl ?_)⟩;have cm:(kvC ds).length=ds.length:=B7 _;have ao:∀u v,sF r φ u v≠0->∃c∈ds,u-1<=c.x/\c.x<=u+1/\v-1<=c.y/\c.y<=v+1:=λu v z=>by
  exact Dx (Lm (k:=1) re (show sFN r 1 φ u v≠0 from z)) λx' y' S h2 h3 h4 nz=>⟨⟨x',y',φ x' y'⟩,(dk.mem _).mpr ⟨P0 nz,rfl⟩,by show u-1<=x';exact S,by show x'<=u+1;exact h2,by show v-1<=y';exact h3,by show y'<=v+1;exact h4⟩
 by_cases z0:ds=[]
 .rw[A0e (by rw[z0];rfl)];refine BR (xq1 rfl (k Z [] aa (λb u e _=>sm _ _ e) L nZ eZ ⟨by simp,λc=>⟨(λz=>nomatch z),λ⟨S,h2⟩=>?_⟩⟩ A4 List.Pairwise.nil));refine xea (ao c.x c.y A3) λc' ba _=>?_;rw[z0]at ba;cases ba
 rw[A0f (by intro z;injection z with z;rw[cm]at z;exact z0 (List.length_eq_zero_iff.mp A3))];refine Ba (cb ?_);refine Bc ?_;intro r4 s4 k4 cc E4;refine xq1 rfl ⟨D,kvC ds,rfl,L,λo1 G1 am a2=>Tm 0 A4 0 rfl am (C5 ld A4) λJ1 aq L1 a6=>?_⟩;generalize e5:upd J1 L1 _=av;obtain⟨U,hX⟩:=alc a6 e5;have af:∀b u,aa b=n_ u->b≠D->av b=n_ u:=λb u e n=>U _ _ (aq _ _ (a2 b u e n));have ab:=U _ _ (aq _ _ am);clear e5 a6 U aq a2 am;refine cc (Bc ?_);intro r5 U k5 cd E5;refine xq1 rfl ⟨D,kvC ds,rfl,.inr ⟨_,ab⟩,λo2 G2 an a3=>Tm 1 A4 1 rfl an (C5 ld A4) λJ2 ar L2 a7=>?_⟩;generalize e6:upd J2 L2 _=G;obtain⟨s6,hY⟩:=alc a7 e6;have C:∀b u,av b=n_ u->b≠D->G b=n_ u:=λb u e n=>s6 _ _ (ar _ _ (a3 b u e n));have I:∀b u,aa b=n_ u->b≠D->G b=n_ u:=λb u e n=>C _ _ (af b u e n) n;have hD:=s6 _ _ (ar _ _ an);replace hX:=C _ _ hX (AI hX ab A6);have a4:∀b u,H b=n_ u->b≠D->G b=n_ u:=λb u e n=>I _ _ (sm _ _ e) n;have hZ:=I _ _ eZ (nD nZ);have hO:=I _ _ ag (nD nO);have M:Paired (Vm G) us Ux:=PairedM.imp (λt p z=>I _ _ z (Sz L z)) ah;clear e6 a7 s6 ar a3 an C af I ab eZ ag ah L sm;refine cd (Bc ?_);intro r6 s6 k6 ce E6;refine aGm ?_;intro cx R1 cj b6;have ne:∀i,ds.map (coC i)≠[]:=λi z=>z0 (P6.mp z);have ae:∀c∈ds,(X<=c.x/\c.x<X+W)/\Y<=c.y/\c.y<Y+B:=λc hc=>by
  have h:=(dk.mem c).mp hc;exact xa3 (cl c.x c.y A3) λS h2 h3 h4=>⟨⟨S,h2⟩,h3,h4⟩
 refine xq1 rfl ⟨L2,ds.map (coC 1),rfl,SqL.of hY,ne 1,λy0 a0 b0=>(xq2 rfl rfl (xq1 rfl ⟨L2,ds.map (coC 1),rfl,SqL.of hY,ne 1,λy1 a1 b1=>?_⟩))⟩;refine xea (D0.mp a0) λc0 m0 l=>?_;subst l;refine xea (D0.mp a1) λc1 m1 l=>?_;subst l;have i0:Y<=coC 1 c0/\coC 1 c0<Y+B:=(ae c0 m0).2;have i1:Y<=coC 1 c1/\coC 1 c1<Y+B:=(ae c1 m1).2;obtain⟨y0,ay⟩:∃y,coC 1 c0-1=y:=⟨_,rfl⟩
 obtain⟨y1,az⟩:∃y,coC 1 c1+2=y:=⟨_,rfl⟩
 have yb:∀u v,sF r φ u v≠0->y0<=v/\v<y1:=λu v z=>by
  refine Ec (ao u v z) λc hc _ _ d=>xa d λh3 h4=>?_;have g0:coC 1 c0<=c.y:=b0 _ (D0.mpr ⟨c,hc,rfl⟩);have g1:c.y<=coC 1 c1:=b1 _ (D0.mpr ⟨c,hc,rfl⟩);exact⟨by lia,by lia⟩
 refine xq2 rfl rfl ⟨y0,y1,by rw[<-ay,<-az],⟨by lia,by lia,by lia,by lia⟩,?_⟩;generalize en:(y1-y0).toNat=n;have cw:n<=20:=by lia
 clear b0 b1 a0 a1 m0 m1 i0 i1 ay az;refine b6 (QE (n:=n) (λj σ H3=>∃(R:List Cl)(u6 u7 u8 u9:Option V),σ=[n_ (.ref q),n_ (.ref D),n_ (.ref O),n_ (.ref Z),n_ (.ref L1),n_ (.ref L2),u6,u7,u8,u9]/\(∀b u,G b=n_ u->b≠Z->H3 b=n_ u)/\H3 Z=n_ (.dT (kvC R))/\Vn (sF r φ) (λ_ v=>v<y0+j) R (21*j)) ⟨[],o0,o0,o0,o0,rfl,λb u e _=>e,hZ,⟨by simp,λc=>⟨(λz=>nomatch z),λ⟨⟨S,h2⟩,h3⟩=>?_⟩,B8 _,List.Pairwise.nil⟩⟩ ?_ ?_)
 .have:=(yb c.x c.y A3).1;lia
 .intro j D1 ch σ H3 hj b2;refine xe5 b2 λR u6 u7 u8 u9 d=>xa3 d λaj f3 ak pt=>?_;clear d;clear b2;subst aj;have bc:=AI hX hZ A6;generalize ey:y0+(j:Int)=y;refine gnm (cj (aGm ?_));intro cy R2 ck b7;refine xq1 rfl ⟨L1,ds.map (coC 0),rfl,SqL.of (f3 _ _ hX bc),ne 0,λx0 a0 b0=>(xq2 rfl rfl (xq1 rfl ⟨L1,ds.map (coC 0),rfl,SqL.of (f3 _ _ hX bc),ne 0,λx1 a1 b1=>?_⟩))⟩;refine xea (D0.mp a0) λc0 m0 l=>?_;subst l;refine xea (D0.mp a1) λc1 m1 l=>?_;subst l;have i0:X<=coC 0 c0/\coC 0 c0<X+W:=(ae c0 m0).1;have i1:X<=coC 0 c1/\coC 0 c1<X+W:=(ae c1 m1).1;obtain⟨x0,aw⟩:∃y,coC 0 c0-1=y:=⟨_,rfl⟩
  obtain⟨x1,ax⟩:∃y,coC 0 c1+2=y:=⟨_,rfl⟩
  have xb:∀u v,sF r φ u v≠0->x0<=u/\u<x1:=λu v z=>by
   refine Ec (ao u v z) λc hc h3 h4 _=>?_;have g0:coC 0 c0<=c.x:=b0 _ (D0.mpr ⟨c,hc,rfl⟩);have g1:c.x<=coC 0 c1:=b1 _ (D0.mpr ⟨c,hc,rfl⟩);exact⟨by lia,by lia⟩
  refine xq2 rfl rfl ⟨x0,x1,by rw[<-aw,<-ax],⟨by lia,by lia,by lia,by lia⟩,?_⟩;generalize em:(x1-x0).toNat=m;have cn:m<=21:=by lia
  have x2:-(2^42)<=x0:=by lia
  clear b0 b1 a0 a1 m0 m1 i0 i1 aw ax;refine b7 (QE (n:=m) (λi σ H4=>∃(R:List Cl)(u7 u8 u9:Option V),σ=[n_ (.ref q),n_ (.ref D),n_ (.ref O),n_ (.ref Z),n_ (.ref L1),n_ (.ref L2),n_ (.int y),u7,u8,u9]/\(∀b u,G b=n_ u->b≠Z->H4 b=n_ u)/\H4 Z=n_ (.dT (kvC R))/\Vn (sF r φ) (λu v=>v<y\/(v=y/\u<x0+i)) R (21*j+i)) ⟨R,u7,u8,u9,rfl,f3,ak,pt.imp (λu v z=>?_) (B8 _)⟩ ?_ ?_)
  .have:=(xb u v z).1;constructor
   .exact λh=>.inl A3
   .rintro(h|⟨S,h2⟩)<;>lia
  .intro i D2 bb σ H4 hi b3;refine xe4 b3 λR u7 u8 u9 d=>xa3 d λai f4 al pt=>?_;clear d;clear b3;subst ai;generalize ex:x0+(i:Int)=x at pt⊢;have a8:=f4 _ _ hO (A1a co);have ad:=f4 _ _ hD (A1a (nD nZ));refine gnm (ck (Bc ?_));intro r7 s7 k7 cf E7;refine xq1 rfl ⟨O,rfl,⟨_,SqL.of a8⟩,?_⟩;refine CT (xs:=us.map V.ref) (λi ac H5=>Ay H4 H5/\ac=((Ux.take i).map λo=>((φ (x+o.1) (y+o.2):Nat):Int)).map V.int) ⟨Ay.refl _,rfl⟩ (λi ac H5 _ z=>SqL.of (z.1 _ _ a8)) ?_ ?_
   .intro i v ac H5 ev cq;obtain⟨U,rfl⟩:=cq;rw[C0]at ev;refine xea (D5.mp ev) λt et l=>?_;subst l;refine xea (PairedM.getL M et) λoo eo ho=>?_;have i8:=(B9.mp eo).1;have ci:=f4 _ _ ho (AI (show G t=n_ _ from ho) hZ A6);refine RJ (U _ _ ci) ⟨⟨[n_ (.int oo.1),n_ (.int oo.2)],rfl,rfl⟩,by rw[B7,B7,L7];exact DU (by have:Ux.length=8:=rfl;lia),FY (xq1 rfl ⟨D,rfl,.inr ⟨_,.inr ⟨o2,U _ _ ad⟩⟩,(xw2 rfl rfl (xq2 rfl rfl (xw2 rfl rfl (xq2 rfl rfl ⟨S_2,λt6 h6=>?_⟩))))⟩)⟩;generalize e6:upd H5 t6 _=H6;obtain⟨s6,g6⟩:=alc h6 e6;refine⟨_,aBD (s6 _ _ (U _ _ ad)) g6,?_⟩;rw[ZF dk];refine⟨Ay.trans U s6,?_⟩;rw[F7,eo];show _=((Ux.take i++[oo]).map _).map _;rw[C7,C7];rfl
   .intro ac H5 cr A1 a5;obtain⟨U,rfl⟩:=cr;rw[B7,A1e M,J0];generalize e6:upd H5 A1 _=H6;obtain⟨s6,hA⟩:=alc a5 e6;replace hA:H6 A1=n_ (.lst ((arF φ x y).map V.int)):=hA;have as:=Ay.trans U s6;clear e6 a5 U s6;refine cf (Bc ?_);intro r8 s8 k8 cg E8;refine xw2 rfl rfl ⟨D,rfl,.inr ⟨_,.inr ⟨o2,as _ _ ad⟩⟩,(xw2 rfl rfl ⟨S_2,λt7 h7=>?_⟩)⟩;generalize e7:upd H6 t7 _=H7;obtain⟨s7,g7⟩:=alc h7 e7;have s47:=Ay.trans as s7;refine⟨_,aBD (s47 _ _ ad) g7,?_⟩;rw[ZF dk];have bd:Ay H0 H7:=λb u e=>s47 _ _ (f4 _ _ (a4 _ _ (s0 _ _ e) (Av e n0)) (Av (s0 _ _ e) nZ));refine xq1 rfl ⟨q,A1,r,_,arF φ x y,rfl,hq.same bd,ro,s7 _ _ hA,rfl,λH8 bp=>?_⟩;rw[aHW ro];obtain⟨v,ev⟩:∃v,sF r φ x y=v:=⟨_,rfl⟩
    rw[ev];have bo:=Ay.trans s47 bp;have a9:=bo _ _ al;have f8:∀b u,G b=n_ u->b≠Z->H8 b=n_ u:=λb u e n=>bo _ _ (f4 b u e n);clear e7 h7 s7 g7 s47 bp hA as bd;refine cg (xq1 rfl ⟨rfl,(xq1 rfl ?_)⟩);by_cases nz:v=0
    .refine RI (by rw[nz];rfl) (bb ⟨R,_,_,_,rfl,f8,a9,pt.imp (λu w z=>?_) A3⟩);by_cases h:u=x
     .by_cases h':w=y
      .rw[h,h',ev,nz]at z;exact absurd rfl z
      .exact or_congr_right (and_congr_right λe=>absurd e h')
     .exact or_congr_right (and_congr_right λ_=>⟨λg=>by lia,λg=>by lia⟩)
    .rw[A0f (by intro e;injection e with e;lia)];refine BR (xw2 rfl rfl (xw2 rfl rfl ⟨S_2,λt9 h9=>?_⟩));generalize e9:upd H8 t9 _=H9;obtain⟨s9,g9⟩:=alc h9 e9;refine⟨Z,(xq1 rfl ⟨aGg (c:=⟨x,y,v⟩) (s9 _ _ a9) g9 (by have:=pt.len;lia),bb ⟨Lp R ⟨x,y,v⟩,_,_,_,rfl,λb u e n=>?_,Af,pt.put ev A3 (λu w z=>z) λu w=>?_⟩⟩)⟩
     .rw[Ax n];exact s9 _ _ (f8 b u e n)
     .constructor
      .rintro(h|⟨S,h2⟩)
       .exact .inl (.inl h)
       .by_cases e:u=x
        .exact .inr ⟨e,S⟩
        .exact .inl (.inr ⟨S,by lia⟩)
      .rintro((h|⟨S,h2⟩)|⟨S,h2⟩)
       .exact .inl h
       .exact .inr ⟨S,by lia⟩
       .exact .inr ⟨h2,by lia⟩
  .intro σ H4 b4;refine xe4 b4 λR u7 u8 u9 d=>xa3 d λai f4 al pt=>?_;clear d;clear b4;subst ai;refine ch ⟨R,_,_,_,_,rfl,f4,al,pt.imp (λu v z=>?_) (T0 cn _)⟩;have:=(xb u v z).2;constructor
   .rintro(h|⟨S,h2⟩)<;>lia
   .intro h;rcases Int.lt_or_eq_of_le (show v<=y by lia)with h'|h'
    .exact .inl h'
    .exact .inr ⟨h',by lia⟩
 .intro σ H3 b5;refine xe5 b5 λR u6 u7 u8 u9 d=>xa3 d λaj f3 ak pt=>?_;clear d;clear b5;subst aj;refine ce (xq1 rfl (k Z R H3 (λb u e n=>f3 _ _ (a4 b u e n) (Av e nZ)) (.inr ⟨_,f3 _ _ hD (A1a (nD nZ))⟩) nZ ak ⟨pt.nd,λc=>?_⟩ (by have:=pt.len;lia) pt.so));rw[pt.mem];refine⟨λh=>h.1,λh=>⟨h,?_⟩⟩;have:=(yb c.x c.y A3).2;lia
end
end J
namespace J
open PySem L2
theorem ZI{ψ:D_}{ps:List (Int×Int)}(j:∀u v,ψ u v≠0->(u,v)∈ps){c d:Int}(g:ψ c d≠0):∃B,CU (λu v=>ψ u v≠0) B:=by
 let qs:=ps.filter λp=>decide (ψ p.1 p.2≠0);have mem:∀u v,ψ u v≠0->(u,v)∈qs:=λu v h=>V0.mpr ⟨j u v h,A0e h⟩;refine⟨_,Rr (bs:=qs.map λp=>⟨p.1,p.2,1,1⟩) ?_ ?_ ?_⟩
 .intro e;have:=mem c d g;rw[P6.mp e]at this;cases this
 .intro b i;refine xea (D0.mp i) λp a f=>?_;subst f;have k:=A2b (V0.mp a).2;refine⟨λu v=>u=p.1/\v=p.2,⟨?_,⟨p.2,Z,Z⟩,⟨p.1,Z,Z⟩,⟨p.2,by dsimp only;lia,Z⟩,⟨p.1,Z,by dsimp only;lia⟩⟩,?_⟩
  .rintro u v ⟨rfl,rfl⟩;dsimp only;lia
  .rintro u v ⟨rfl,rfl⟩;exact k
 .intro u v h;refine⟨_,D0.mpr ⟨_,mem u v h,Z⟩,?_⟩;dsimp only;lia
def QM(ψ:D_):Prop:=∃ps:List (Int×Int),∀u v,ψ u v≠0->(u,v)∈ps
theorem QM.tight{ψ:D_}(h:QM ψ):(∀u v,ψ u v=0)\/∃B,CU (λu v=>ψ u v≠0) B:=by
 obtain⟨ps,a⟩:=h;by_cases z:∃u v,ψ u v≠0
 .obtain⟨u,v,z⟩:=z;exact .inr (ZI a z)
 .exact .inl λu v=>A1d λq=>z ⟨u,v,q⟩
theorem Nf {ψ:D_} {B:Bx} (t:CU (λu v=>ψ u v≠0) B) (z:∀u v,ψ u v=0):False:=by
 obtain⟨v,h⟩:=t.le;exact h (z _ _)
noncomputable def nrO (φ:D_):Int->Int->Nat:=mvF (-bxL φ) (-bxT φ) φ
theorem aHX{φ ψ:D_}(m:QM φ)(k:QM ψ):ET φ ψ↔nrO φ=nrO ψ:=by
 unfold nrO;rcases m.tight with z|⟨B,tB⟩
 .have g:=LK z;rcases k.tight with y|⟨C,tC⟩
  .have f:=LK y;refine⟨λ_=>funext λu=>funext λv=>(z _ _).trans (y _ _).symm,λ_ u v=>?_⟩;rw[g.1,f.1,z,y]
  .have f:=LJ tC;constructor
   .intro h;refine absurd (λu v=>?_) (Nf (tC.mv (shX C) (shY C)));rw[<-f.1,<-h,g.1,z]
   .intro h;refine absurd (λu v=>?_) (Nf tC);have q:=A9h (A9h h (u-bxL ψ)) (v-bxT ψ);unfold mvF at q;rw[z]at q;rw[q];congr 1<;>lia
 .have g:=LJ tB;rcases k.tight with y|⟨C,tC⟩
  .have f:=LK y;constructor
   .intro h;refine absurd (λu v=>?_) (Nf (tB.mv (shX B) (shY B)));rw[<-g.1,h,f.1,y]
   .intro h;refine absurd (λu v=>?_) (Nf tB);have q:=A9h (A9h h (u-bxL φ)) (v-bxT φ);unfold mvF at q;rw[y]at q;rw[<-q];congr 1<;>lia
  .have f:=LJ tC;unfold ET;rw[g.1,f.1,g.2.1,g.2.2,f.2.1,f.2.2];constructor
   .intro h;have e:=(tB.mv (shX B) (shY B)).one ((tC.mv (shX C) (shY C)).congr λu v=>by rw[h]);have j:B.w=C.w:=by have:=A2c Bx.w e;exact this
    have i:B.h=C.h:=by have:=A2c Bx.h e;exact this
    funext u v
    have q:=h (u-B.w/2) (v-B.h/2);unfold mvF shX shY at *
    rw[<-j,<-i]at q;have d:∀a b c:Int,a-b-(-b-c)=a - -c:=λa b c=>by lia
    rw[d,d,d,d]at q;exact q
   .intro h;have e:=(tB.mv (-B.l) (-B.t)).one ((tC.mv (-C.l) (-C.t)).congr λu v=>by rw[h]);have j:B.w=C.w:=by have:=A2c Bx.w e;exact this
    have i:B.h=C.h:=by have:=A2c Bx.h e;exact this
    intro u v;have q:=A9h (A9h h (u+B.w/2)) (v+B.h/2);unfold mvF shX shY at *
    rw[<-j,<-i];have d:∀a b c:Int,a+b - -c=a-(-b-c):=λa b c=>by lia
    rw[d,d,d,d]at q;exact q
theorem aAv:∀{a fs:List Cl},ByC a->ByC fs->(a.map λc=>(c.x,c.y)).Nodup->(fs.map λc=>(c.x,c.y)).Nodup->(∀c,c∈a↔c∈fs)->a=fs
|[],[],_,_,_,_,_=>rfl
|[],f::_,_,_,_,_,h=>nomatch (h f).mpr (C8 ..)
|e::_,[],_,_,_,_,h=>nomatch (h e).mp (C8 ..)
|e::a,f::fs,b1,b2,n1,n2,h=>by
 have b:e=f:=by
  rcases C1.mp ((h e).mp (C8 ..))with z|z
  .exact z
  rcases C1.mp ((h f).mpr (C8 ..))with y|y
  .exact y.symm
  have q:=UN ((T6.mp b1).1 f y) ((T6.mp b2).1 e z);injection q with q1 q2
  injection q2 with q2
  have d:=aB9 n1 (C8 ..) (C9 e y) q2 q1;cases e;cases f;cases q1;cases q2;cases d;rfl
 subst b;have o:∀{l:List Cl},((e::l).map λc=>(c.x,c.y)).Nodup->e∉l:=λ{l} n z=>by
  rw[F8]at n;exact(N4.mp n).1 (D0.mpr ⟨e,z,Z⟩)
 refine A2c (e :: ·) (aAv (T6.mp b1).2 (T6.mp b2).2 (N4.mp n1).2 (N4.mp n2).2 λc=>⟨λz=>?_,λz=>?_⟩)
 .rcases C1.mp ((h c).mp (C9 e z))with y|y
  .rw[y]at z;exact absurd z (o n1)
  .exact y
 .rcases C1.mp ((h c).mpr (C9 e z))with y|y
  .rw[y]at z;exact absurd z (o n2)
  .exact y
structure ShC(φ:D_)(rs:List Cl):Prop where
dk:JP rs (nrO φ)
by':ByC rs
theorem ShC.iff{φ ψ:D_}{d f:List Cl}(g:QM φ)(i:QM ψ)(h:ShC φ d)(k:ShC ψ f):d=f↔ET φ ψ:=by
 rw[aHX g i];constructor
 .rintro rfl
  funext u v
  have a:=h.dk.mem;have b:=k.dk.mem;by_cases z:nrO φ u v=0
  .by_cases y:nrO ψ u v=0
   .rw[z,y]
   .have:=((a ⟨u,v,_⟩).mp ((b ⟨u,v,_⟩).mpr ⟨P0 y,Z⟩)).2;rw[z]at this;exact absurd this.symm y
  .exact((b ⟨u,v,_⟩).mp ((a ⟨u,v,_⟩).mpr ⟨P0 z,Z⟩)).2.symm
 .intro e;refine aAv h.by' k.by' h.dk.nd k.dk.nd λc=>?_
  rw[h.dk.mem,k.dk.mem,e]
seal L2.PA L2.PE L2.PS L2.PSs L2.PT L2.PW
theorem ZJ{ds:List Cl}{φ:D_}(dk:JP ds φ){l t:Int}(q:l∈ds.map (coC 0))(g:∀n∈ds.map (coC 0),l<=n)(r:t∈ds.map (coC 1))(h:∀n∈ds.map (coC 1),t<=n):bxL φ=l/\bxT φ=t:=by
 have k:QM φ:=⟨ds.map λc=>(c.x,c.y),λu v z=>D0.mpr ⟨⟨u,v,φ u v⟩,(dk.mem _).mpr ⟨P0 z,Z⟩,Z⟩⟩
 refine xea (D0.mp q) λc a i=>xea (D0.mp r) λd m j=>?_;have b:∀{c:Cl},c∈ds->φ c.x c.y≠0:=λ{c} a=>by
  have:=(dk.mem c).mp a;lia
 rcases k.tight with z|⟨B,tB⟩
 .exact absurd (z _ _) (b a)
 .have f:=LJ tB;rw[f.2.1,f.2.2];obtain⟨v,p⟩:=tB.le;obtain⟨u,o⟩:=tB.to;have e:=g _ (D0.mpr ⟨⟨B.l,v,_⟩,(dk.mem _).mpr ⟨P0 p,Z⟩,Z⟩);have b2:=h _ (D0.mpr ⟨⟨u,B.t,_⟩,(dk.mem _).mpr ⟨P0 o,Z⟩,Z⟩);have A:=tB.inn _ _ (b a);have C:=tB.inn _ _ (b m);have s:c.x=l:=i;have w:d.y=t:=j;have e:l<=B.l:=e;have b2:t<=B.t:=b2;exact⟨by lia,by lia⟩
def mvC(l t:Int)(c:Cl):Cl:=⟨c.x-l,c.y-t,c.s⟩
theorem ShC.of{φ:D_}{cs:List Cl}(dk:JP cs φ)(f:ByC cs):ShC φ (cs.map (mvC (bxL φ) (bxT φ))):=by
 refine⟨⟨?_,λc=>?_⟩,S7.mpr (f.imp λ{p q} h=>?_)⟩
 .rw[O1];have e:((λc:Cl=>(c.x,c.y)) ∘ mvC (bxL φ) (bxT φ))=(λp:Int×Int=>(p.1-bxL φ,p.2-bxT φ)) ∘ λc=>(c.x,c.y):=rfl;rw[e,<-O1];refine S7.mpr (dk.nd.imp λ{p q} h z=>h ?_);injection z with z1 z2
  exact Prod.ext A3 A3
 .unfold nrO mvF;constructor
  .intro z;refine xea (D0.mp z) λd g e=>?_;subst e;have:=(dk.mem d).mp g;show 1<=d.s/\φ (d.x-bxL φ - -bxL φ) (d.y-bxT φ - -bxT φ)=d.s;rw[show d.x-bxL φ - -bxL φ=d.x by lia,show d.y-bxT φ - -bxT φ=d.y by lia];exact this
  .intro z;refine D0.mpr ⟨⟨c.x - -bxL φ,c.y - -bxT φ,c.s⟩,(dk.mem _).mpr z,?_⟩;cases c;unfold mvC;dsimp only;congr 1<;>lia
 .show Ds [q.y-bxT φ,q.x-bxL φ] [p.y-bxT φ,p.x-bxL φ]=o5;unfold Ds Ds at h⊢;by_cases a:q.y=p.y
  .rw[A0g a]at h;rw[A0g (by rw[a])];by_cases b:q.x=p.x
   .rw[A0g b]at h;rw[A0g (by rw[b])];exact h
   .rw[A0d b]at h;rw[A0d A3];have:=A6c h;exact A0f A3
  .rw[A0d a]at h;rw[A0d A3];have:=A6c h;exact A0f A3
section
variable{P:N_}{w:Q_}{K:O_}{mg:C_}{n8:T_}{a:Ad}
inductive aDh(vs:List V)(H:Hp)(Q:VK):Prop
|mk (D:R_) (ds:List Cl) (φ:D_) (_:vs=[.ref D]) (_:Rd H D (.dT (kvC ds))) (_:JP ds φ) (_:ds.length<64\/(ds.length<=1000/\ByC ds)) (_:∀(t L:R_)(ts:H_)(rs:List Cl)(H':Hp),FrO D H H'->Rd H' D (.dT (kvC ds))->H t=o0->H L=o0->H' t=n_ (.tup [.ref L,.int (bxL φ),.int (bxT φ)])->H' L=n_ (.lst (ts.map V.ref))->Paired (OH H') ts rs->ShC φ rs->Q (.ref t) H'):aDh vs H Q
def ZV:Sp:=λvs H Q _=>aDh vs H Q
theorem aFK(F:Fun K "_law_shape" "_law_shape" DF f fd)(T:Top K mg a)(aX:Cal P w K mg n8 CX0 5 "_law_listed" Fz WJ):AM P w K mg n8 CX0 6 f fd Fz ZV:=by
 refine F.ok Ip D_9 λan A ak s H vs Q E hr h=>?_
 obtain⟨D,ds,φ,rfl,rd,dk,Y,k⟩:=h;refine⟨_,(Ae (AO (AA CQ (AN RU Z T.j_ A2g (Aa (pv 0) Ab)) Ac (AD _)) (Ah (Au (BH (IC Ab (AG (AG Ab)))))) AB) (Ae (Am (i:=1) Ip.nd Z (Or.inr Z) (AN (Gm Z) Z T.aAJ A3b (Aa (BT Z (Bl.of (So:=Ak DF) (No:=Ge) (N:=["_law_place"]) (k:=1) (cs:=[]) Z Z A0) (Lr (pv 0)) (λ_ _ _=>(AW (i:=0) A0 Z Z)) (λ_ _ _=>Bm) (λ_ _ _=>(Aj (DK (K:=K) Z) (pv 0) Ac R_9))) Ab))) (Ae (Am (i:=2) Ip.nd Z (Or.inr Z) (AN (Gm Z) Z T.aAJ A3b (Aa (BT Z (Bl.of (So:=Ak DF) (No:=Ge) (N:=["_law_place"]) (k:=1) (cs:=[]) Z Z A0) (Lr (pv 0)) (λ_ _ _=>(AW (i:=0) A0 Z Z)) (λ_ _ _=>Bm) (λ_ _ _=>(Aj (DK (K:=K) Z) (pv 0) Ac R_9))) Ab))) (Ah (Au (BH (Aa (BT Z (Bl.of (So:=Ak DF) (No:=Ge) (N:=["_law_one","_law_left","_law_top"]) (k:=1) (cs:=[1,2]) Z Z A0) (Cb (Ar aX (rm hr) Z Aq (Aa (pv 0) Ab))) (λ_ _ _=>(AW (i:=0) A0 Z Z)) (λ_ _ _=>Bm) (λ_ _ _=>(BH (AT Bq (Aj (DK (K:=K) Z) (pv 0) Ac R_9) (pv 1) (AT Bq (Aj (DK (K:=K) Z) (pv 0) Ac R_9) (pv 2) (Aa (Aj (DK (K:=K) Z) (pv 0) Ac R_9) Ab)))))) (Aa (pv 1) (Aa (pv 2) Ab))))))))),?_⟩;have ld:ds.length<=1000:=Y.elim (λh=>C5 (Q7 h) A4) λh=>h.1;have aj:(kvC ds).length=ds.length:=B7 _;refine Bc ?_;intro r1 s1 k1 af E1;refine xq1 Z ⟨D,kvC ds,Z,rd,Z,(xq1 Z ?_)⟩;by_cases z0:ds=[]
 .rw[A0e (by rw[z0];rfl)];have ph:∀u v,φ u v=0:=λu v=>A1d λz=>by
   have:=(dk.mem ⟨u,v,φ u v⟩).mpr ⟨P0 z,Z⟩;rw[z0]at this;cases this
  have n1:=LK ph;refine BR ⟨S_0,λL hL=>?_⟩;generalize e1:upd H L _=H1;obtain⟨sL,m⟩:=alc hL e1;refine⟨S_3,λt ht=>?_⟩;generalize e2:upd H1 t _=H2;obtain⟨s2,ai⟩:=alc ht e2;refine k t L [] [] H2 (λb u e _=>s2 _ _ (sL _ _ e)) (Ul (Ul rd sL) s2) (Ay.noneOf sL ht) hL (by rw[n1.2.1,n1.2.2];exact ai) (s2 _ _ m) .nil ⟨⟨by simp,λc=>⟨(λz=>nomatch z),λ⟨h1,h2⟩=>?_⟩⟩,List.Pairwise.nil⟩;have:nrO φ c.x c.y=0:=ph _ _;lia
 rw[A0f (by intro z;injection z with z;rw[aj]at z;exact z0 (List.length_eq_zero_iff.mp A3))];refine Ba (af ?_);have ne:∀i,ds.map (coC i)≠[]:=λi z=>z0 (P6.mp z);refine Bc ?_;intro r2 s2 k2 ag E2;refine xq1 Z ⟨D,kvC ds,Z,rd,λo1 G1 r M=>Tm 0 A4 0 Z r ld λJ1 C L1 m=>?_⟩;generalize e5:upd J1 L1 _=H1;obtain⟨s5,hX⟩:=alc m e5;have f1:FrO D H H1:=λb u e n=>s5 _ _ (C _ _ (M b u e n));have S:=s5 _ _ (C _ _ r);clear e5 s5 C M r m;refine⟨L1,ds.map (coC 0),Z,SqL.of hX,ne 0,λl ml bl=>ag ?_⟩;refine Bc ?_;intro r3 s3 k3 ah E3;refine xq1 Z ⟨D,kvC ds,Z,.inr ⟨_,S⟩,λo2 G2 B R=>Tm 1 A4 1 Z B ld λJ2 G L2 W=>?_⟩;generalize I:upd J2 L2 _=H2;obtain⟨d,hY⟩:=alc W I;have f2:FrO D H H2:=λb u e n=>d _ _ (G _ _ (R _ _ (f1 b u e n) n));have ad:=d _ _ (G _ _ B);clear I d G R B W f1 S hX;refine⟨L2,ds.map (coC 1),Z,SqL.of hY,ne 1,λt mt bt=>ah ?_⟩;obtain⟨el,et⟩:=ZJ dk ml bl mt bt;clear hY ml bl mt bt ne;subst el;subst et;refine xq1 Z ⟨D,ds,Z,.inr ⟨_,ad⟩,dk.nd,Y,λo3 L3 ts cs H3 ac U ao X pr pm bc=>?_⟩;have f3:FrO D H H3:=λb u e n=>ac _ _ (f2 b u e n) n;refine⟨L3,Z,⟨_,SqL.of X⟩,?_⟩;have lt:=A1e pr;have lc:=pm.length_eq;refine CT (xs:=ts.map V.ref) (λi g o=>∃us:List Addr,Ay H3 o/\g=us.map V.ref/\Paired (OH o) us ((cs.take i).map (mvC (bxL φ) (bxT φ)))) ⟨[],Ay.refl _,Z,.nil⟩ (λi g o _ z=>by obtain⟨us,p,_⟩:=z;exact SqL.of (p _ _ X)) ?_ ?_
 .intro i v g o ev al;obtain⟨us,p,rfl,pu⟩:=al;rw[C0]at ev;refine xea (D5.mp ev) λu eu ab=>?_;subst ab;refine xea (PairedM.getL pr eu) λc ec hc=>?_;have i8:=(B9.mp ec).1;have q:o u=n_ (.tup [.int c.x,.int c.y,.int (c.s:Int)]):=p _ _ hc;have lu:=A1e pu;rw[B7,L7]at lu;refine⟨⟨[n_ (.ref u)],Z,Z⟩,by rw[B7];exact DU A3,FY ?_⟩;refine xwi Z Z Z (SqT.of q) (Ai (j:=0) Z) (xq1 Z (xq2 Z Z ?_));refine xwi Z Z Z (SqT.of q) (Ai (j:=1) Z) (xq1 Z (xq2 Z Z ?_));refine xwi Z Z Z (SqT.of q) (Ai (j:=2) Z) ⟨S_3,λt6 h6=>?_⟩;generalize I:upd o t6 _=H6;obtain⟨d,g6⟩:=alc h6 I;refine⟨us++[t6],Ay.trans p d,by rw[C7];rfl,?_⟩;rw[F7,ec,Q4,C7];exact A3f (PairedM.imp (λb c z=>d _ _ z) pu) g6
 .intro g o am O hO;obtain⟨us,p,rfl,pu⟩:=am;rw[B7,lt,J0]at pu;generalize I:upd o O _=H6;obtain⟨d,ae⟩:=alc hO I;refine xw2 Z Z ⟨S_3,λt7 h7=>?_⟩;generalize e7:upd H6 t7 _=H7;obtain⟨s7,g7⟩:=alc h7 e7;have aa:=Ay.trans (Ay.trans p d) s7;have f7:FrO D H H7:=λb u e n=>aa _ _ (f3 b u e n);have no:∀{x:R_},H3 x=o0->H x=o0:=λ{x} n=>by
   cases e:H x with
   |none=>rfl
   |some u =>
    by_cases z:x=D
    .rw[z,U]at n;cases n
    .rw[f3 _ _ e z]at n;cases n
  exact k t7 O us _ H7 f7 (.inr ⟨_,aa _ _ U⟩) (no (Ay.noneOf (Ay.trans p d) h7)) (no (Ay.noneOf p hO)) g7 (s7 _ _ ae) (PairedM.imp (λb c z=>s7 _ _ (d _ _ z)) pu) (ShC.of (dk.perm pm) bc)
end
def Wp(H:Hp)(S:R_)(ψ:D_)(t:R_):Prop:=∃(L:R_)(ts:H_)(rs:List Cl),H t=n_ (.tup [.ref L,.int (bxL ψ),.int (bxT ψ)])/\H L=n_ (.lst (ts.map V.ref))/\L≠S/\Paired (OH H) ts rs/\ShC ψ rs
theorem Wp.kp{H a:Hp}{S t:R_}{ψ:D_}(h:Wp H S ψ t)(e:∀b xs,H b=n_ (.tup xs)->a b=n_ (.tup xs))(k:∀b xs,b≠S->H b=n_ (.lst xs)->a b=n_ (.lst xs)):Wp a S ψ t:=by
 obtain⟨L,m,l,f,g,d,i,j⟩:=h;exact⟨L,m,l,e _ _ f,k _ _ d g,d,PairedM.imp (λb c z=>e _ _ z) i,j⟩
theorem SA{H:Hp}{D t:R_}{a:List (List Key×V)}{ys:List V}(b:Rd H D (.dT a))(e:H t=n_ (.lst ys)):t≠D:=λz=>by
 rw[z]at e;rcases b with h|⟨o,h⟩<;>rw[h]at e<;>cases e
theorem WU{H b:Hp}{D a:R_}{c:List (List Key×V)}(d:Rd H D (.dT c))(n:D≠a)(f:FrO a H b):Rd b D (.dT c):=by
 rcases d with h|⟨o,h⟩
 .exact .inl (f _ _ h n)
 .exact .inr ⟨o,f _ _ h n⟩
theorem aHS{H:Hp}{D:R_}{u v:List (List Key×V)}(h:Rd H D (.dT u))(k:Rd H D (.dT v)):u=v:=by
 rcases h with h|⟨o,h⟩<;>rcases k with k|⟨o',k⟩<;>rw[h]at k<;>cases k<;>rfl
def aC7(c:Cl):List Int:=[c.x,c.y,(c.s:Int)]
theorem rowI_inj{c d:List Cl}:c.map aC7=d.map aC7↔c=d:=List.map_inj_right λa b e=>by
 injection e with e1 e2
 injection e2 with e2 e3
 injection e3 with e3
 cases a;cases b;cases e1;cases e2;cases A1b e3;rfl
theorem Vq{H:Hp}:∀{e:H_}{d:List Cl},Paired (OH H) e d->∃b:List (Addr×List Int),(b.map λq=>V.ref q.1)=e.map V.ref/\b.map (·.2)=d.map aC7/\∀q∈b,H q.1=n_ (.tup (q.2.map V.int))
|_,_,.nil=>⟨[],Z,Z,λq a=>nomatch a⟩
|t::e,c::d,.cons h pr=>by
 refine AX (Vq pr) λb f g hit=>⟨(t,aC7 c)::b,by rw[F8,f];rfl,by rw[F8,g];rfl,λq a=>?_⟩
 rcases C1.mp a with rfl|a
 .exact h
 .exact hit q a
theorem JP.fini{ds:List Cl}{φ:D_}(dk:JP ds φ):QM φ:=⟨ds.map λc=>(c.x,c.y),λu v z=>D0.mpr ⟨⟨u,v,φ u v⟩,(dk.mem _).mpr ⟨P0 z,Z⟩,Z⟩⟩
section
variable{P:N_}{w:Q_}{K:O_}{mg:C_}{n8:T_}{a:Ad}
inductive aEM(vs:List V)(H:Hp)(Q:VK):Prop
|mk (H0:Hp) (q D:R_) (r:AC) (ds:List Cl) (φ:D_) (k:Nat) (_:vs=[.ref q,.ref D,.int (k:Int)]) (_:Il H0 q r) (_:FJ r) (_:Cz r 0 BF=0) (_:Ay H0 H) (_:H0 D=o0) (_:Rd H D (.dT (kvC ds))) (_:JP ds φ) (_:ds.length<64) (_:k<=24) (_:∀c,c<k->∃(X Y:Int)(W B:Nat),InW (sFN r c φ) X Y W B/\(W<=19/\B<=18)/\(-(2^41)<=X/\X<=2^41/\-(2^41)<=Y/\Y<=2^41))
  (_:∀c d,1<=d->c+d<=k->(∀i j,j<i->i<c+d->¬ET (sFN r j φ) (sFN r i φ))->ET (sFN r c φ) (sFN r (c+d) φ)->∀(t:R_)(H':Hp),FrO D H H'->Rd H' D (.dT (kvC ds))->H' t=n_ (.tup [.int (c:Int),.int (d:Int),.int (bxL (sFN r (c+d) φ)-bxL (sFN r c φ)),.int (bxT (sFN r (c+d) φ)-bxT (sFN r c φ))])->Q (.ref t) H')
  (_:(∀i j,j<i->i<=k->¬ET (sFN r j φ) (sFN r i φ))->∀(H':Hp),FrO D H H'->Rd H' D (.dT (kvC ds))->Q .non H'):aEM vs H Q
def aHr:Sp:=λvs H Q _=>aEM vs H Q
theorem aHM(F:Fun K "_law_walked" "_law_walked" Ix f fd)(T:Top K mg a)(bO:Cal P w K mg n8 CX0 6 "_law_shape" Fz ZV)(cS:Cal P w K mg n8 CX0 4 "_law_step" LE ZR):AM P w K mg n8 CX0 7 f fd IH aHr:=by
 refine F.ok CN D_9 λbo A bh s H vs Q E hr h=>?_
 obtain⟨H0,q,D,r,ds,φ,k,rfl,hq,ro,re,s0,n0,rd,dk,bf,bp,a6,kt,kn⟩:=h;refine⟨_,(Ae (Am (i:=3) CN.nd Z O_9 (BO (Aa (Ar bO (rm hr) Z Aq (Aa (pv 1) Ab)) Ab))) (Ae (BX A1c Z (Cm Z T.U_ (Aa (pv 2) Ab)) (Bd (i:=4) CN.nd Z O_9) (Ae (Am (i:=1) CN.nd Z O_9 (Ar cS (rm hr) Z Aq (Aa (pv 0) (Aa (pv 1) Ab)))) (Ae (Am (i:=5) CN.nd Z O_9 (Ar bO (rm hr) Z Aq (Aa (pv 1) Ab))) (Ae (BX A1c Z (Cm Z T.U_ (Aa (AN BJ Z T.j_ A2g (Aa (pv 3) Ab)) Ab)) (Bd (i:=6) CN.nd Z O_9) (Ah (AO (AA (Uw hr.units) (Aj Al (Aj Az (pv 3) (pv 6) R_9) Ac R_9) (Aj Al (pv 5) Ac R_9) (AD _)) (Ah (Au (BH (Aa (pv 6) (AT Bq (AN BJ Z T.j_ A2g (Aa (pv 3) Ab)) (pv 6) (AT Bq (Aj Al (pv 5) Ac R_9) (Aj Al (Aj Az (pv 3) (pv 6) R_9) Ac R_9) (AT Bq (Aj Al (pv 5) Ac R_9) (Aj Al (Aj Az (pv 3) (pv 6) R_9) Ac R_9) Ab))))))) AB))) (Ah (BP (Du A1g A1h A2a BL (pv 3) (Aa (pv 5) Ab)))))))) (Ah (Au Cg)))),?_⟩;refine Bc ?_;intro r1 s1 k1 ba E1;refine aGZ ?_;refine xq1 Z ⟨D,ds,φ,Z,rd,dk,.inl bf,λt L ts rs H1 f1 ai nt nL ht hL pr sh=>?_⟩;refine⟨S_1,λS hS=>?_⟩;generalize e2:upd H1 S _=H2;obtain⟨s2,a9⟩:=alc hS e2;have aw:∀{x:R_},H1 x=o0->H x=o0:=λ{x} n=>by
  cases e:H x with
  |none=>rfl
  |some u =>
   by_cases z:x=D
   .rw[z]at n;rcases ai with e|⟨o,e⟩<;>rw[n]at e<;>cases e
   .rw[f1 _ _ e z]at n;cases n
 have nS:=aw hS;have f2:FrO D H H2:=λb u e n=>s2 _ _ (f1 b u e n);have ay:=Ul ai s2;have a3:Wp H2 S (sFN r 0 φ) t:=⟨L,ts,rs,s2 _ _ ht,s2 _ _ hL,Av hL hS,PairedM.imp (λb c z=>s2 _ _ z) pr,sh⟩
 clear e2 s2 ht hL pr sh f1 ai aw hS nt nL;refine ba (Bc ?_);intro r2 s3 k2 bb E2;refine xw2 Z Z ⟨by lia,by lia,?_⟩;rw[M4];refine Ce (n:=k) (λi σ I=>∃(Di:R_)(di:List Cl)(us:H_)(u4 u5 u6:Option V),σ=[n_ (.ref q),n_ (.ref Di),n_ (.int (k:Int)),n_ (.ref S),u4,u5,u6]/\FrO D H I/\Rd I D (.dT (kvC ds))/\Rd I Di (.dT (kvC di))/\(Di=D\/H Di=o0)/\H0 Di=o0/\JP di (sFN r i φ)/\di.length<=500/\I S=n_ (.lst (us.map V.ref))/\us.length=i+1/\(∀j u,us[j]?=n_ u->Wp I S (sFN r j φ) u/\QM (sFN r j φ))/\(∀i' j,j<i'->i'<=i->¬ET (sFN r j φ) (sFN r i' φ))) ⟨D,ds,[t],o0,o0,o0,Z,f2,ay,ay,.inl Z,n0,dk,by lia,a9,Z,λj u e=>?_,λi' j h1 h2=>by lia⟩ ?_ ?_
 .match j,e with
  |0,e =>
   cases e;exact⟨a3,dk.fini⟩
 .intro i σ I hi aj;obtain⟨Di,di,us,u4,u5,u6,rfl,f3,m,g,Dn,as,al,ar,O,ag,see,ab⟩:=aj;obtain⟨X,Y,W,B,aq,wb,xb⟩:=a6 i hi;refine Bc ?_;intro r5 s5 k5 bc E5;have a2:Ay H0 I:=λb u e=>f3 _ _ (s0 _ _ e) (Av e n0);refine xw2 Z Z ⟨H0,q,Di,r,di,_,X,Y,W,B,Z,hq,ro,re,a2,as,g,al,aq,ar,wb,xb,λD' d' H4 f4 ad aa N l bg a5=>?_⟩;refine bc ?_;have l:JP d' (sFN r (i+1) φ):=l;have ac:D≠D':=λz=>by
   rw[<-z]at aa;rcases m with e|⟨o,e⟩<;>rw[aa]at e<;>cases e
  have az:Rd H4 D (.dT (kvC ds)):=by
   rcases Dn with e|e
   .subst e;rw[aHS m g];exact ad
   .refine WU m (λz=>?_) f4;rw[<-z]at e;rcases rd with a1|⟨o1,a1⟩<;>rw[e]at a1<;>cases a1
  have p:H D'=o0:=by
   cases e:H D' with
   |none=>rfl
   |some u=>rw[f3 _ _ e (A1a ac)]at aa;cases aa
  have am:FrO D H H4:=λb u e n=>f4 _ _ (f3 b u e n) (λz=>by
   rcases Dn with y|y
   .exact n (z.trans y)
   .rw[z,y]at e;cases e)
  have R:=f4 _ _ O (SA g O);have C:∀j u,us[j]?=n_ u->Wp H4 S (sFN r j φ) u/\QM (sFN r j φ):=λj u e=>⟨(see j u e).1.kp (λb xs e=>f4 _ _ e (Sz g e)) (λb xs _ e=>f4 _ _ e (SA g e)),(see j u e).2⟩
  clear see O g ad m f3 f4 aq wb xb a2;refine Bc ?_;intro r6 s6 k6 bd E6;refine xq1 Z ⟨D',d',_,Z,.inl N,l,.inr ⟨by lia,a5⟩,λt5 L5 bm bj H5 f5 a0 br au U ao ax a4=>?_⟩;refine bd ?_;have an:FrO D H H5:=λb u e n=>f5 _ _ (am b u e n) (Av e p);have v:=WU az ac f5;have d:=f5 _ _ R (AI R N A6);have G:∀j u,us[j]?=n_ u->Wp H5 S (sFN r j φ) u/\QM (sFN r j φ):=λj u e=>⟨(C j u e).1.kp (λb xs e=>f5 _ _ e (AI e N A6)) (λb xs _ e=>f5 _ _ e (AI e N A6)),(C j u e).2⟩
  have av:L5≠S:=λz=>by rw[z,R]at au;cases au
  clear C R am az f5;refine Bc ?_;intro r7 s7 k7 be E7;refine xq1 Z ⟨S,us.map V.ref,Z,.inl (SqL.of d),(xq1 Z ⟨by rw[B7];lia,by rw[B7];lia,?_⟩)⟩;rw[B7,M4];refine Ce (n:=us.length) (λb σ M=>∃u6:Option V,σ=[n_ (.ref q),n_ (.ref D'),n_ (.int (k:Int)),n_ (.ref S),n_ (.int (0+(i:Int))),n_ (.ref t5),u6]/\M=H5/\∀j,j<b->¬ET (sFN r j φ) (sFN r (i+1) φ)) ⟨u6,Z,Z,λj hj=>absurd hj (N3 _)⟩ ?_ ?_
  .intro b σ M hb ak;obtain⟨bn,rfl,rfl,ah⟩:=ak;rw[U7];obtain⟨u,eu⟩:∃u,us[b]?=n_ u:=⟨_,C4 hb⟩
   have ae:(us.map V.ref)[b]?=n_ (.ref u):=by rw[C0,eu];rfl
   obtain⟨⟨Lb,bu,bt,hu,a8,bq,bi,bl⟩,a7⟩:=G b u eu;obtain⟨is,i1,i2,i3⟩:=Vq bi;obtain⟨js,j1,j2,j3⟩:=Vq ax;refine gnm ?_;refine xw2 Z Z ⟨S,us.map V.ref,(b:Int),.ref u,Z,Z,SqL.of d,Ai ae,?_⟩;refine⟨u,_,0,.ref Lb,Z,Z,SqT.of hu,Ai (j:=0) Z,?_⟩;refine xwi Z Z Z (SqT.of U) (Ai (j:=0) Z) ⟨Lb,L5,is,js,Z,Z,by rw[i1];exact SqL.of a8,by rw[j1];exact SqL.of ao,i3,j3,(xq1 Z ?_)⟩;rw[i2,j2];have iff:=rowI_inj.trans (ShC.iff a7 l.fini bl a4);by_cases sm:ET (sFN r b φ) (sFN r (i+1) φ)
   .rw[A0e (iff.mpr sm)];refine BR ?_;refine xq1 Z (xq1 Z ⟨S,us.map V.ref,Z,.inl (SqL.of d),(xq1 Z (xq2 Z Z ?_))⟩);refine xwi Z Z Z (SqT.of U) (Ai (j:=1) Z) (xw2 Z Z ⟨S,us.map V.ref,(b:Int),.ref u,Z,Z,SqL.of d,Ai ae,⟨u,_,1,_,Z,Z,SqT.of hu,Ai (j:=1) Z,(xq2 Z Z ?_)⟩⟩);refine xwi Z Z Z (SqT.of U) (Ai (j:=2) Z) (xw2 Z Z ⟨S,us.map V.ref,(b:Int),.ref u,Z,Z,SqL.of d,Ai ae,⟨u,_,2,_,Z,Z,SqT.of hu,Ai (j:=2) Z,(xq2 Z Z ?_)⟩⟩);refine⟨S_4,λt9 h9=>?_⟩;generalize e9:upd M t9 _=H9;obtain⟨s9,g9⟩:=alc h9 e9;have ec:b+(i+1-b)=i+1:=by lia
    refine kt b (i+1-b) A3 A3 (λi' j h1 h2=>ab i' j h1 A3) (by rw[ec];exact sm) t9 H9 (λb u e n=>s9 _ _ (an b u e n)) (Ul v s9) ?_;rw[ec,g9];have:((us.map V.ref).length:Int)-(b:Int)=((i+1-b:Nat):Int):=by rw[B7];lia
    exact A2c (λz:Int=>n_ (HO.tup [.int (b:Int),.int z,.int (bxL (sFN r (i+1) φ)-bxL (sFN r b φ)),.int (bxT (sFN r (i+1) φ)-bxT (sFN r b φ))])) this
   .rw[A0f (λz=>sm (iff.mp z))];apply Ba;refine⟨_,Z,Z,λj hj=>?_⟩;by_cases z:j=b
    .rw[z];exact sm
    .exact ah j A3
  .intro σ M ak;obtain⟨bn,rfl,rfl,ah⟩:=ak;refine be ?_;refine xq1 Z ⟨.inl ⟨Z,_,SqL.of d⟩,(xq1 Z ⟨S,(xq2 Z Z ⟨d,by rw[B7];exact DU A3,?_⟩)⟩)⟩;have fS:FrO S M (upd M S (.lst (us.map V.ref++[.ref t5]))):=λb u e n=>by rw[Ax n];exact e
   have hU:upd M S (.lst (us.map V.ref++[.ref t5])) S=n_ (.lst ((us++[t5]).map V.ref)):=by rw[Af,C7];rfl
   generalize upd M S (.lst (us.map V.ref++[.ref t5]))=H7 at fS hU⊢;have tp:∀b xs,M b=n_ (.tup xs)->H7 b=n_ (.tup xs):=λb xs e=>fS _ _ e (AI e d A6);refine⟨D',d',us++[t5],_,_,_,Z,λb u e n=>fS _ _ (an b u e n) (Av e nS),WU v (A1a (SA v d)) fS,WU a0 (A1a (SA a0 d)) fS,.inr p,Ay.noneN s0 p,l,bg,hU,by rw[C6,ag];rfl,λj u e=>?_,λi' j h1 h2=>?_⟩
   .by_cases hj:j<us.length
    .rw[N5 hj]at e;exact⟨(G j u e).1.kp tp (λb xs n e=>fS _ _ e n),(G j u e).2⟩
    .have af:=(B9.mp e).1;rw[C6]at af;have af:j<us.length+1:=af;have ej:j=us.length:=by lia
     rw[ej,List.getElem?_concat_length]at e;cases e;rw[ej,ag];exact⟨⟨L5,bm,bj,tp _ _ U,fS _ _ ao av,av,PairedM.imp (λb c z=>tp _ _ z) ax,a4⟩,l.fini⟩
   .by_cases z:i'=i+1
    .rw[z]at h1⊢;exact ah j A3
    .exact ab i' j h1 A3
 .intro σ I aj;obtain⟨Di,di,us,u4,u5,u6,rfl,f3,m,g,Dn,as,al,ar,O,ag,see,ab⟩:=aj;refine bb ?_;exact kn ab I f3 m
end
theorem aEu(K:O_):kitOne K (.type "tuple") (.type "tuple")=n_ o4:=by kernel_rfl
section
variable{P:N_}{w:Q_}{K:O_}{mg:C_}{n8:T_}{a:Ad}
inductive aCF(vs:List V)(H:Hp)(Q:VK):Prop
|no (_:vs=[.non,.non]) (_:Q (.bl o4) H):aCF vs H Q
|mk (t u:R_) (b c d e:Int) (_:vs=[.ref t,.ref u]) (_:H t=n_ (.tup [.int b,.int c,.int d,.int e])) (_:H u=n_ (.tup [.int b,.int c,.int d,.int e])) (_:Q (.bl o4) H):aCF vs H Q
def aHm:Sp:=λvs H Q _=>aCF vs H Q
theorem aHG(F:Fun K "_law_right" "_law_right" Jo f fd)(T:Top K mg a):AM P w K mg n8 CX0 1 f fd JE aHm:=by
 refine F.ok Ms (λvs H Q E h=>?_) (λG A C s H vs Q E L h=>?_)
 .cases h with
  |no e _=>rw[e];rfl
  |mk t u b c d e x _ _ _=>rw[x];rfl
 .refine⟨_,(Ae (AO (PW.pt (Nt (AA El (pv 1) Cg (AD _)) (Jv (AA El (pv 0) Cg (AD _))))) (Ah (Au (Lx (DY El (pv 0) Cg (AD _)) (MS (DY El (pv 1) Cg (AD _)))))) AB) (Ae (AO (PW.pt (Nt (Dr (CP (AN GT Z T.X_ A2h (Aa (pv 0) (Aa (Jx (v:=.ty "tuple") Z T.f_ A2f Z) Ab))))) (Jv (AA JV (AN BJ Z T.j_ A2g (Aa (pv 0) Ab)) Ac (AD _))))) (Ah (Au OK)) AB) (Ae (BX A1c Z (SB (pv 0)) (Bd (i:=2) Ms.nd Z O_9) (Ah (AO (PW.pt (Nt (Dr (CP (AN GT Z T.X_ A2h (Aa (pv 2) (Aa (Jx (v:=.ty "int") Z T.aAP A4f Z) Ab))))) (Jv (CP (AN GT Z T.X_ A2h (Aa (pv 2) (Aa (Jx (v:=.ty "bool") Z T.aAn PyProof.Rows.boot_bool Z) Ab))))))) (Ah (Au OK)) AB))) (Ah (Au (DY (Rx L.units) (pv 0) (pv 1) (AD _))))))),?_⟩;cases h with
  |no e k =>
   subst e;refine Bc ?_;intro O R N m D;refine xq1 Z ⟨Z,(xq1 Z (BR (BR ?_)))⟩;exact xq1 Z ⟨Z,⟨_,Z,BR (xq1 Z ⟨Z,k⟩)⟩⟩
  |mk t u b c d e x o M k =>
   subst x;refine Bc ?_;intro O R N m D;refine xq1 Z ⟨Z,(xq1 Z (Ba (xq1 Z ⟨Z,(xq1 Z (Ba (m ?_)))⟩)))⟩;refine Bc ?_;intro r2 s2 Y y W;refine xq1 Z ⟨_,_,_,.type "tuple",o4,Z,Z,.of (.tup o),aEu K,o4,Z,Ba (xq1 Z ⟨t,(xq1 Z ⟨.inr (SqT.of o),Z,(xq1 Z (RI Z ?_))⟩)⟩)⟩;refine y ?_;refine Bc ?_;intro r3 s3 k3 B X;refine xq1 Z ⟨t,Z,⟨_,SqT.of o⟩,?_⟩;refine aCR (xs:=[.int b,.int c,.int d,.int e]) (λn σ r=>H=r/\∃S:Option V,σ=[n_ (.ref t),n_ (.ref u),S]) ⟨Z,o0,Z⟩ (λn σ r _ ⟨e,_⟩=>SqT.of (e▸o)) ?_ ?_
   .intro n v σ r I p;refine xa p λj g=>xe g λU l=>?_;clear g;clear p;subst j;subst l;obtain⟨z,rfl⟩:∃z:Int,v=.int z:=by
     have:=D8 I;simp only[C1,D9,A2e]at this;rcases this with e|e|e|e<;>exact⟨_,e⟩
    exact xq1 Z ⟨_,_,_,.type "int",o4,Z,Z,.of (.int z),(Yj K).1,o4,Z,Ba (xq1 Z ⟨_,_,_,.type "int",o5,Z,Z,.of (.int z),(Yj K).2,o5,Z,Ba ⟨Z,_,Z⟩⟩)⟩
   .intro σ r q;refine xa q λj g=>xe g λU l=>?_;clear g;clear q;subst j;subst l;refine B ?_;refine xw2 Z Z ⟨t,u,[b,c,d,e],[b,c,d,e],Z,Z,SqT.of o,SqT.of M,?_⟩;rw[A0e rfl];exact k
structure Mp8(M:I_):Prop where
len:M.length=8
ok:∀x∈M,0<=x/\x<=7
inductive aDg(K:O_)(vs:List V)(H:Hp)(Q:VK):Prop
|mk (l:R_) (ns:I_) (m:Int) (_:vs=[.ref l,.int m]) (_:SqL K H l (ns.map V.int)) (_:1<=m) (_:m<=7) (_:∀(L:R_)(M:I_)(H':Hp),Ay H H'->H' L=n_ (.lst (M.map V.int))->Mp8 M->Q (.ref L) H'):aDg K vs H Q
def ZX(K:O_):Sp:=λvs H Q _=>aDg K vs H Q
theorem aFG(F:Fun K "_law_round" "_law_round" Jn f fd)(T:Top K mg a)(G:Cal P w K mg n8 CX0 1 "_law_at" Zb (YJ K)):AM P w K mg n8 CX0 2 f fd JD (ZX K):=by
 refine F.ok Iq D_9 λI A B s H vs Q E R h=>?_
 obtain⟨l,ns,m,rfl,O,Y,m7,k⟩:=h;refine⟨_,(Ae (Am (i:=2) Iq.nd Z O_9 (BO (AG Ab))) (Ae (BX A1c Z (IV Z T.U_ (AG (AG Ab))) (Bd (i:=3) Iq.nd Z O_9) (Ah (AO (AA Mv (pv 3) (pv 1) (AD _)) (Ah (BP (Du A1g A1h A2a BL (pv 2) (AT AR (AE Bf (pv 3) (pv 1)) Ac Ab)))) (Ah (BP (Du A1g A1h A2a BL (pv 2) (AT Bf (AE AR (pv 3) (Ar G (rm R) Z Aq (Aa (pv 0) (AT AR Ac (pv 3) Ab)))) Ac Ab))))))) (Ah (Au (pv 2))))),?_⟩;refine⟨S_1,λL C=>?_⟩;generalize N:upd H L _=W;obtain⟨U,r⟩:=alc C N;refine⟨1,8,Z,⟨by decide,by decide,by decide,by decide⟩,?_⟩;refine Ce (n:=7) (λi σ c=>∃(M:I_)(o:Option V),σ=[n_ (.ref l),n_ (.int m),n_ (.ref L),o]/\Ay H c/\c L=n_ (.lst (M.map V.int))/\M.length=i+1/\∀x∈M,0<=x/\x<=7) ⟨[0],o0,Z,U,r,Z,λx t=>by rw[D4.mp t];exact⟨by decide,by decide⟩⟩ ?_ ?_
 .intro i σ c X g;obtain⟨M,o,rfl,p,j,v,d⟩:=g;refine gnm ?_;have put:∀{y:Int},0<=y/\y<=7->∃(q:I_)(o:Option V),[n_ (V.ref l),n_ (.int m),n_ (.ref L),n_ (.int (1+(i:Int)))]=[n_ (.ref l),n_ (.int m),n_ (.ref L),o]/\Ay H (upd c L (.lst (M.map V.int++[.int y])))/\upd c L (.lst (M.map V.int++[.int y])) L=n_ (.lst (q.map V.int))/\q.length=i+1+1/\∀x∈q,0<=x/\x<=7:=λ{y} S=>⟨M++[y],_,Z,λb u e=>by rw[Ax (Av e C)];exact p _ _ e,by rw[Af,C7];rfl,by rw[C6,v];rfl,λx t=>by
   rcases F6.mp t with z|z
   .exact d x z
   .rw[D4.mp z];exact S⟩
  have D:(M.map V.int).length<sizeLine:=by rw[B7];exact DU A3
  refine xw2 Z Z (xq2 Z Z (xq1 Z (IN (λh=>?_) (λh=>?_))))
  .have h:=A2b h;refine xq1 Z ⟨.inl ⟨Z,_,SqL.of j⟩,(xw2 Z Z (xq2 Z Z ⟨by lia,(xq2 Z Z ⟨L,(xq2 Z Z ⟨j,D,put ?_⟩)⟩)⟩))⟩;have:=P3 (1+(i:Int)) (by lia:m≠0);have:=O5 (1+(i:Int)) (by lia:0<m);exact⟨by lia,by lia⟩
  .refine xq1 Z ⟨.inl ⟨Z,_,SqL.of j⟩,(xq1 Z (xq1 Z (xq1 Z (xq2 Z Z ⟨l,ns,_,Z,p.seq O,by lia,(xq2 Z Z (xq2 Z Z ⟨B3,⟨L,(xq2 Z Z ⟨j,D,put ?_⟩)⟩⟩))⟩))))⟩;exact⟨P3 _ A4,by have:=O5 (1+(i:Int)+atN ns (20+(1+(i:Int)))) (by decide:(0:Int)<8);lia⟩
 .intro σ c g;obtain⟨M,o,rfl,p,j,v,d⟩:=g;exact xq1 Z (k L M c p j ⟨v,d⟩)
end
end J
namespace J
open PySem L2
theorem ng72:ng 1 12 5 4<=150000:=by decide +kernel
theorem Nd.mono(h:Nd Κ N)(e:N<=a):Nd Κ a:=by
 exact xea h.ls λM b c=>⟨⟨M,C5 b e,c⟩,h.ext⟩
theorem InW.step(b:Cz r 0 BF=0)(h:InW φ X Y W B)(n:Nat):InW (sFN r n φ) (X-n) (Y-n) (W+2*n) (B+2*n):=λu v z=>by
 exact Dx (Lm b z) λx y g i j k a=>xa3 (h x y a) λc d e f=>⟨by lia,by lia,by lia,by lia⟩
theorem InW.ps{ψ:D_}{X Y:Int}{W D:Nat}(h:InW ψ X Y W D):∃ps:List (Int×Int),ps.length<=W*D/\∀u v,ψ u v≠0->(u,v)∈ps:=by
 refine⟨(List.range W).flatMap λi=>(List.range D).map λj=>(X+((i:Nat):Int),Y+((j:Nat):Int)),?_,λu v z=>?_⟩
 .have:=NN (λi:Nat=>(List.range D).map λj=>(X+((i:Nat):Int),Y+((j:Nat):Int))) D (List.range W) λi _=>by rw[B7,O8];exact B8 _
  rw[O8]at this;exact this
 .refine xa3 (h u v z) λa b c d=>U5.mpr ⟨(u-X).toNat,M8.mpr A3,D0.mpr ⟨(v-Y).toNat,M8.mpr A3,?_⟩⟩;refine Prod.ext ?_ ?_<;>dsimp only<;>lia
def Un0(r:AC):Prop:=∀ar,Cz r 0 ar=0
theorem un0(r:AC):Un0 (⟨n_ 0,[],0⟩::r):=λa=>Z
theorem InW.stay{r:AC}(a:Un0 r){φ:D_}{X Y:Int}{W B:Nat}(h:InW φ X Y W B):∀n,InW (sFN r n φ) X Y W B
|0=>h
|n+1=>λu v z=>h.stay a n u v λe=>z (by
 show sF r (sFN r n φ) u v=0;unfold sF;rw[e];exact A2c Int.toNat (a _))
structure Bk(r:AC)(φ:D_)(X Y:Int)(k A:Nat):Prop where
ro:FJ r
re:Cz r 0 BF=0
inb:InW φ X Y 5 4
x1:-(2^38)<=X/\X<2^38
y1:-(2^38)<=Y/\Y<2^38
k12:k<=12
bx:∀c,c<=k->∃(x y:Int)(W B:Nat),InW (sFN r c φ) x y W B/\(W<=19/\B<=18)/\(-(2^41)<=x/\x<=2^41/\-(2^41)<=y/\y<=2^41)/\W*B<=A
gk:(12800+196*A)*(k+1)<=470000
theorem aGc{r:AC}{φ:D_}{X Y:Int}{k:Nat}(d:FJ r)(b:Cz r 0 BF=0)(a:InW φ X Y 5 4)(e:-(2^38)<=X/\X<2^38)(f:-(2^38)<=Y/\Y<2^38)(h:k<=6):Bk r φ X Y k 272:=by
 refine⟨d,b,a,e,f,by lia,λc g=>⟨_,_,_,_,a.step b c,⟨by lia,by lia⟩,⟨by lia,by lia,by lia,by lia⟩,Nat.mul_le_mul (show 5+2*c<=17 by lia) (show 4+2*c<=16 by lia)⟩,by lia⟩
theorem aGd{r:AC}{φ:D_}{X Y:Int}{k:Nat}(e:FJ r)(d:Un0 r)(a:InW φ X Y 5 4)(f:-(2^38)<=X/\X<2^38)(g:-(2^38)<=Y/\Y<2^38)(b:k<=12):Bk r φ X Y k 20:=⟨e,d _,a,f,g,b,λc h=>⟨_,_,_,_,a.stay d c,⟨by decide,by decide⟩,⟨by lia,by lia,by lia,by lia⟩,by decide⟩,by lia⟩
section
variable{r:AC}{φ:D_}{X Y:Int}{k A:Nat}
theorem Bk.le(h:Bk r φ X Y k A){n:Nat}(e:n<=k):Bk r φ X Y n A:=⟨h.ro,h.re,h.inb,h.x1,h.y1,C5 e h.k12,λc a=>h.bx c (C5 a e),C5 (M9 _ (Q5 e)) h.gk⟩
theorem Bk.fin(h:Bk r φ X Y k A):Nd (Kg r [φ] 12) 150000:=(aEt h.re (qs:=[(φ,X,Y)]) (W:=5) (D:=4) fun ψ a u v z=>by
 rw[D4.mp a]at z⊢;exact xa3 (h.inb u v z) λb c d e=>⟨X,Y,by simp,b,c,d,e⟩).mono ng72
theorem Bk.near(h:Bk r φ X Y k A){c:Nat}(f:c<k):Vp (sFN r c φ) 1:=λu v z=>by
 have:=h.x1;have:=h.y1;have:=h.k12;exact xa3 (h.inb.step h.re c u v z) λa b d e=>⟨by lia,by lia,by lia,by lia⟩
inductive Ans(r:AC)(φ:D_)(k:Nat)(H:Hp):V->Prop
|yes (c d:Nat) (t:R_) (_:1<=d) (_:c+d<=k) (_:∀i j,j<i->i<c+d->¬ET (sFN r j φ) (sFN r i φ)) (_:ET (sFN r c φ) (sFN r (c+d) φ)) (_:H t=n_ (.tup [.int (c:Int),.int (d:Int),.int (bxL (sFN r (c+d) φ)-bxL (sFN r c φ)),.int (bxT (sFN r (c+d) φ)-bxT (sFN r c φ))])):Ans r φ k H (.ref t)
|no (_:∀i j,j<i->i<=k->¬ET (sFN r j φ) (sFN r i φ)):Ans r φ k H .non
theorem Ans.kp{H a:Hp}{v:V}(h:Ans r φ k H v)(f:∀t xs,H t=n_ (.tup xs)->a t=n_ (.tup xs)):Ans r φ k a v:=by
 cases h with
 |yes c d t b e g i j=>exact .yes c d t b e g i (f _ _ j)
 |no h=>exact .no h
theorem ET.sy{φ ψ:D_}(h:ET φ ψ):ET ψ φ:=λu v=>(h u v).symm
theorem ET.tr{φ ψ χ:D_}(h:ET φ ψ)(k:ET ψ χ):ET φ χ:=λu v=>(h u v).trans (k u v)
theorem Zn{F:Nat->Int->Int->Nat}{c d a d':Nat}(l:1<=d)(f:1<=d')(n:∀i j,j<i->i<c+d->¬ET (F j) (F i))(s:ET (F c) (F (c+d)))(h:∀i j,j<i->i<a+d'->¬ET (F j) (F i))(b:ET (F a) (F (a+d'))):c=a/\d=d':=by
 have e:c+d=a+d':=by
  rcases Nat.lt_trichotomy (c+d) (a+d')with z|z|z
  .exact absurd s (h _ _ A3 z)
  .exact z
  .exact absurd b (n _ _ A3 z)
 have g:c=a:=by
  rw[<-e]at b;rcases Nat.lt_trichotomy c a with z|z|z
  .exact absurd (s.tr b.sy) (n _ _ z A3)
  .exact z
  .exact absurd (b.tr s.sy) (n _ _ z A3)
 exact⟨g,by lia⟩
theorem Ans.rt{H:Hp}{v l:V}{Q:VK}(h:Ans r φ k H v)(h':Ans r φ k H l)(q:Q (.bl o4) H):aCF [v,l] H Q:=by
 cases h with
 |yes c d t p s u j w =>
  cases h' with
  |yes m d' t' b e f a i =>
   refine xa (Zn p b u j f a) λn o=>?_;subst n;subst o;exact .mk t t' _ _ _ _ Z w i q
  |no g=>exact absurd j (g _ _ A3 s)
 |no h =>
  cases h' with
  |yes m d' t' b e f a i=>exact absurd a (h _ _ A3 e)
  |no g=>exact .no Z q
end
theorem ZS.tup{a:Ad}{H c:Hp}{g:GA}{G:Gv}{Κ:KTy}{N b:Nat}{p dx mem d:R_}{r:AC}{m:MA}{t:R_}{xs:List V}(e:ZS a H g G Κ N b p dx mem d r m)(f:FrZ g m H c)(h:H t=n_ (.tup xs)):c t=n_ (.tup xs):=e.keep f h (by intro xs z;cases z) (by intro xs z;cases z) (by intro xs z;cases z)
theorem aGv{H:Hp}{g:GA}{m:MA}(ng:∀y∈DV g,H y=o0)(fr:∀y∈m.l::m.kc::m.ds,H y=o0):∀y∈[g.br,m.l]++zL g m,H y=o0:=λy a=>by
 simp only[zL,List.cons_append,List.nil_append,C1]at a;rcases a with rfl|rfl|rfl|rfl|rfl|rfl|rfl|rfl|a
 .exact ng _ (by simp[DV])
 .exact fr _ B0
 .exact ng _ (by simp[DV])
 .exact ng _ (by simp[DV])
 .exact ng _ (by simp[DV])
 .exact ng _ (by simp[DV])
 .exact ng _ (by simp[DV])
 .exact fr _ B0
 .exact fr _ (by simp[a])
structure Y9(a:Ad)(Hd H:Hp)(g:GA)(G:Gv)(b:Nat)(p dx mem pr:R_)(r:AC)(m:MA)(φ:D_)(D:R_)(ds:List Cl)(f:Nat):Prop where
zs:ZS a H g G (Kg r [φ] 12) 150000 b p dx mem pr r m
sm:Ay Hd H
nn:∀y∈[g.br,m.l]++zL g m,Hd y=o0/\y≠D
nD:Hd D=o0
rd:Rd H D (.dT (kvC ds))
fv:Fv G f φ
section
variable{a:Ad}{Hd H H':Hp}{g:GA}{G:Gv}{b:Nat}{p dx mem pr D:R_}{r:AC}{m:MA}{φ:D_}{ds:List Cl}{f k A:Nat}{X Y:Int}{Q:VK}
theorem Y9.fo(h:Y9 a Hd H g G b p dx mem pr r m φ D ds f)(fo:FrO D H H')(c:Rd H' D (.dT (kvC ds))):Y9 a Hd H' g G b p dx mem pr r m φ D ds f:=⟨h.zs.fx (fo.fx h.rd) λx d z=>(h.nn x d).2 (D4.mp z),λb o e=>fo _ _ (h.sm _ _ e) (Av e h.nD),h.nn,h.nD,c,h.fv⟩
theorem Y9.fz(h:Y9 a Hd H g G b p dx mem pr r m φ D ds f)(fz:FrZ g m H H'){c:Gv}{n i:Nat}(l:ZS a H' g c (Kg r [φ] 12) 150000 n p dx mem pr r m)(go:AJ G c i):Y9 a Hd H' g c n p dx mem pr r m φ D ds f:=by
 have q:∀y∈zL g m,Hd y=o0/\y≠D:=λy d=>h.nn y (F6.mpr (.inr d));have fx:=fz.fx h.zs;refine⟨l,Ay.fxn h.sm fx λy d=>(q y d).1,h.nn,h.nD,?_,h.fv.app h.zs.fu.ok go⟩;have j:D∉zL g m:=λz=>(q D z).2 Z;rcases h.rd with e|⟨o,e⟩
 .exact .inl (fx.get j e)
 .exact .inr ⟨o,fx.get j e⟩
theorem Y9.ca(h:Y9 a Hd H g G b p dx mem pr r m φ D ds f)(bk:Bk r φ X Y k A)(few:b<=2000000)(o:∀(v:V)(l:Gv)(H':Hp),Y9 a Hd H' g l (b+470000) p dx mem pr r m φ D ds f->Ans r φ k H' v->(∀t xs,H t=n_ (.tup xs)->H' t=n_ (.tup xs))->Q v H'):aEL a [.ref p,.int (f:Int),.int (k:Int)] H Q:=by
 refine⟨p,dx,mem,pr,g,G,_,φ,150000,b,r,m,f,k,12800+196*A,Z,h.zs,bk.fin,aGs bk.ro bk.re _ _,λc n=>aEr B0 (by have:=bk.k12;lia),h.fv,λc n=>?_,C5 bk.k12 A4,bk.gk,D6 (Q9 (Q9 few _) _) A4,λc n=>bk.near n,λc d s q no E t l H' i fz j go z=>?_,λno l H' i fz j go=>?_⟩
 .obtain⟨x,y,W,B,u,_,_,F⟩:=bk.bx c n;refine xea u.ps λps C w=>⟨ps,T0 (M9 196 (C5 C F)) _,w⟩
 .exact o _ l H' (h.fz fz j go) (.yes c d t s q no E z) λt xs e=>h.zs.tup fz e
 .exact o _ l H' (h.fz fz j go) (.no no) λt xs e=>h.zs.tup fz e
theorem Y9.wk(h:Y9 a Hd H g G b p dx mem pr r m φ D ds f)(bk:Bk r φ X Y k A){q:R_}(w:Il Hd q r)(dk:JP ds φ)(j:ds.length<64)(l:∀(v:V)(H':Hp),Y9 a Hd H' g G b p dx mem pr r m φ D ds f->Ans r φ k H' v->(∀t xs,H t=n_ (.tup xs)->H' t=n_ (.tup xs))->Q v H'):aEM [.ref q,.ref D,.int (k:Int)] H Q:=by
 refine⟨Hd,q,D,r,ds,φ,k,Z,w,bk.ro,bk.re,h.sm,h.nD,h.rd,dk,j,C5 bk.k12 A4,λc s=>?_,λc d o n no C t H' fo i z=>?_,λno H' fo i=>?_⟩
 .obtain⟨x,y,W,B,u,E,F,_⟩:=bk.bx c (Q7 s);exact⟨x,y,W,B,u,E,F⟩
 .exact l _ H' (h.fo fo i) (.yes c d t o n no C z) λt xs e=>fo _ _ e (Sz h.rd e)
 .exact l _ H' (h.fo fo i) (.no no) λt xs e=>fo _ _ e (Sz h.rd e)
end
seal L2.PA L2.PE L2.PS L2.PSs L2.PT L2.PW
theorem cut2(xs:List V):Tl xs o0 (n_ 2)=xs.take 2:=by
 unfold Tl;simp[HT.sIx]
theorem OM{α β:Type}{F:α->β->Prop}:∀(n:Nat){xs:List α}{ys:List β},Paired F xs ys->Paired F (xs.take n) (ys.take n)
|0,_,_,_=>.nil
|n+1,_,_,.nil=>.nil
|n+1,_,_,.cons h p=>.cons h (OM n p)
theorem Qk{α β:Type}{F:α->β->Prop}{a:List α}{b:List β}(q:Paired F a b):∀{xs:List α}{ys:List β},Paired F xs ys->Paired F (xs++a) (ys++b)
|_,_,.nil=>q
|_,_,.cons h p=>.cons h (Qk q p)
theorem aDl{c:Option Int}{ns:I_}(a:wOk c)(h:(Bw.am 0 ns).ok):(⟨c,[.am 0 ns],0⟩:AY).ok where
 cell:=a
 makes:=⟨R8 0,by show(0:Int)<8;decide⟩
 few:=by show 1<=50;decide
 conds:=λd b=>by
  rw[D4.mp b];exact h
def c67:AY:=⟨n_ 0,[.am 0 [6,7,8]],0⟩
def c78:AY:=⟨o0,[.am 0 [7,8]],0⟩
theorem aET:c67.ok:=aDl ⟨by decide,by decide⟩ ⟨⟨by decide,by decide⟩,by simp,by decide,by decide⟩
theorem aEU:c78.ok:=aDl trivial ⟨⟨by decide,by decide⟩,by simp,by decide,by decide⟩
theorem aAx(r:AC):Cz (c67::r) 0 BF=0:=by
 unfold Cz;rw[S5];have:c67.fits 0 BF=o4:=by decide
 rw[this];rfl
theorem aEF{c m:Int}(a:IU c)(b:IU m):(⟨n_ c,[],m⟩:AY).ok:=⟨a,b,by show 0<=50;decide,λd e=>nomatch e⟩
theorem aCb(x q:Int):∃a:Nat,x%5+(if(if q-13<8 then q-13 else 8) > 0 then(if q-13<8 then q-13 else 8)else 0)=(a:Int)/\a<=12:=by
 by_cases z:q-13<8
 .rw[A0g z];by_cases y:q-13 > 0
  .rw[A0g y];exact⟨(x%5+(q-13)).toNat,by lia,by lia⟩
  .rw[A0d y];exact⟨(x%5).toNat,by lia,by lia⟩
 .rw[A0d z,A0g A4];exact⟨(x%5+8).toNat,by lia,by lia⟩
theorem ZQ(h:Dd ds n x y):InW (stC ds) x y 5 4:=λu v z=>by
 rcases Pe ds u v with ⟨c,d,a,b,_⟩|⟨_,e⟩
 .subst a;subst b;exact(h.ok c d).2
 .exact absurd e z
section
variable{P:N_}{w:Q_}{K:O_}{mg:C_}{n8:T_}{a:Ad}
theorem aE5(F:Fun K "law" "law" WP f fd)(T:Top K mg a)(dJ:Tz P w K mg n8 CX0 2 "Grove" a.N1 JI (Sn a))(a9:Cal P w K mg n8 CX0 1 "_law_at" Zb (YJ K))(bG:Cal P w K mg n8 CX0 4 "_law_clauses_by" EN (aHf K))(cR:Cal P w K mg n8 CX0 2 "_law_text" LD aHo)(cJ:Cal P w K mg n8 CX0 2 "_law_round" JD (ZX K))(cM:Cal P w K mg n8 CX0 8 "read_rule" IF (aHl a))(bY:Cal P w K mg n8 CX0 1 "_law_base" Qu VB)(bN:Cal P w K mg n8 CX0 2 "_law_cells_by" FR (aD4 K))(aX:Cal P w K mg n8 CX0 5 "_law_listed" Fz WJ)(bM:Cal P w K mg n8 CX0 7 "_law_walked" IH aHr)(cW:Cal P w K mg n8 CX0 56 "field_of" MW (aD8 a))(dH:Tz P w K mg n8 CX0 3 "Jumps" a.M3 ST (Sl a))(bB:Cal P w K mg n8 CX0 152 "comes_again" IG (aHa a))(bF:Cal P w K mg n8 CX0 1 "_law_right" JE aHm):AM P w K mg n8 CX0 153 f fd aDz (WK K):=by
 refine F.ok Ed D_9 λef A dv s H vs Q E t h=>?_
 obtain⟨l,ns,rfl,hS,d1,kq⟩:=h;refine⟨_,(Ae (Am (i:=1) Ed.nd Z O_9 (Ar bG (rm t) Z Aq (Aa (pv 0) (AG (AT Bf (Ar a9 (rm t) Z Aq (Aa (pv 0) (AG Ab))) Ac Ab))))) (Ae (AO (AA CQ (AE Bf (AE CF (Ar a9 (rm t) Z Aq (Aa (pv 0) (AG Ab))) Ac) Ac) Ac (AD _)) (Ah (Am (i:=1) Ed.nd Z O_9 (AE Oo (BO (AV (AG (IC (AV (MT (AG (IC (AG (AG (AG Ab))) Ab))) Ab) (AG Ab))) (AV (AG (IC (AV (MT (AG (IC (AG (AG Ab)) Ab))) Ab) (AG Ab))) Ab))) (pv 1)))) AB) (Ae (Am (i:=2) Ed.nd Z O_9 (AE Bf (Ar a9 (rm t) Z Aq (Aa (pv 0) (AG Ab))) Ac)) (Ae (AO (AA CQ (AE Bf (AE CF (Ar a9 (rm t) Z Aq (Aa (pv 0) (AG Ab))) Ac) Ac) Ac (AD _)) (Ae (Am (i:=3) Ed.nd Z (Or.inr Z) (Ar cJ (rm t) Z Aq (Aa (pv 0) (AT AR Ac (AE Bf (AE CF (Ar a9 (rm t) Z Aq (Aa (pv 0) (AG Ab))) Ac) Ac) Ab)))) (Ae (Am (i:=1) Ed.nd Z O_9 (AE Oo (AE Oo (BO (AV (AG (IC Ab (AG Ab))) Ab)) (Qh Ss (pv 1) WW (Pm Ac))) (BT Z (Bl.of (So:=Ak WP) (No:=dZ) (N:=["_law_state","_law_made"]) (k:=1) (cs:=[3]) Z Z A0) (IV Z T.U_ (AG (AG Ab))) (λ_ _ _=>(AW (i:=0) A0 Z Z)) (λ_ _ _=>Bm) (λ_ _ _=>(BH (Aa (pv 0) (IC Ab (Aa (Aj (UR (K:=K) Z) (pv 1) (pv 0) R_9) Ab)))))))) (Ah (Am (i:=2) Ed.nd Z O_9 (AE Bf (Ar a9 (rm t) Z Aq (Aa (pv 0) (AG Ab))) Ac))))) AB) (Ae (Am (i:=4) Ed.nd Z O_9 (AE AR (AE Bf (Ar a9 (rm t) Z Aq (Aa (pv 0) (AG Ab))) Ac) (AN (RT Z) Z T.aAM A4b (AG (Aa (AN (RS Z) Z T.aAJ A3b (AG (AT Bq (AN BJ Z T.j_ A2g (Aa (pv 0) Ab)) Ac Ab))) Ab))))) (Ae (Am (i:=5) Ed.nd Z O_9 (Ar bY (rm t) Z Aq (Aa (Ar a9 (rm t) Z Aq (Aa (pv 0) (AG Ab))) Ab))) (Ae (Am (i:=6) Ed.nd Z O_9 (Ar bN (rm t) Z Aq (Aa (pv 0) (AG (Aa (pv 4) (Aa (pv 5) (Aa (Ar bY (rm t) Z Aq (Aa (Ar a9 (rm t) Z Aq (Aa (pv 0) (AG Ab))) Ab)) Ab))))))) (Ae (Am (i:=7) Ed.nd Z O_9 (aB1 dJ (rm t) Z Aq)) (Ae (Am (i:=8) Ed.nd Z O_9 (Nz dH (rm t) Z Aq (Aa (pv 7) (Aa (Ar cM (rm t) Z Aq (Aa (Ar cR (rm t) Z Aq (Aa (pv 1) Ab)) Ab)) Ab)))) (Ae (Am (i:=9) Ed.nd Z O_9 (Ar cW (rm t) Z Aq (Aa (pv 7) (Aa (Ar aX (rm t) Z Aq (Aa (pv 6) Ab)) Ab)))) (Ae (Am (i:=10) Ed.nd Z O_9 (Ar bM (rm t) Z Aq (Aa (pv 1) (Aa (pv 6) (Aa (pv 2) Ab))))) (Ae (AO (Dr (CP (Ar bF (rm t) Z Aq (Aa (Ar bB (rm t) Z Aq (Aa (pv 8) (Aa (pv 9) (Aa (pv 2) Ab)))) (Aa (pv 10) Ab))))) (Ah (Au OK)) AB) (Ae (Am (i:=11) Ed.nd Z O_9 (AE CF (pv 2) Ac)) (Ae (AO (Dr (CP (Ar bF (rm t) Z Aq (Aa (Ar bB (rm t) Z Aq (Aa (pv 8) (Aa (pv 9) (Aa (pv 11) Ab)))) (Aa (Ar bM (rm t) Z Aq (Aa (pv 1) (Aa (pv 6) (Aa (pv 11) Ab)))) Ab))))) (Ah (Au OK)) AB) (Ah (Au (Ar bF (rm t) Z Aq (Aa (Ar bB (rm t) Z Aq (Aa (pv 8) (Aa (pv 9) (Aa (pv 2) Ab)))) (Aa (pv 10) Ab))))))))))))))))))),?_⟩;refine Bc ?_;intro r1 s1 k1 dc E1;refine xq1 Z (xq1 Z ⟨l,ns,8,Z,hS,by decide,(xq2 Z Z ⟨(by show(0:Int)<7;decide),?_⟩)⟩);refine⟨l,ns,0,atN ns 8%7,Z,hS,by decide,P3 _ A4,by lia,λq1 r1 H1 au a8 be cr _ dr=>?_⟩;refine dc (Bc ?_);intro r2 s2 k2 de E2;have bw:=au.seq hS;apply RB (T:=k2) (fun σ' H2=>∃(q:R_)(r:AC),σ'=[n_ (.ref l),n_ (.ref q),o0,o0,o0,o0,o0,o0,o0,o0,o0,o0]/\Ay H H2/\Il H2 q r/\FJ r/\Cz r 0 BF=0/\r.length<=9)
 .intro S;refine xq1 Z ⟨l,ns,8,Z,bw,by decide,(xq2 Z Z ⟨⟨by decide,by decide⟩,(xq2 Z Z ⟨B2,Z,(xq1 Z (IN (λ_=>?_) (λ_=>S _ _ ⟨q1,r1,Z,au,a8,be,cr,by lia⟩)))⟩)⟩)⟩;refine⟨S_3,λb1 W=>?_⟩;generalize e1:upd H1 b1 _=J1;obtain⟨I,g1⟩:=alc W e1;refine⟨S_3,λb2 aa=>?_⟩;generalize e2:upd J1 b2 _=J2;obtain⟨u,g2⟩:=alc aa e2;refine⟨S_1,λb3 aj=>?_⟩;generalize e3:upd J2 b3 _=J3;obtain⟨d,g3⟩:=alc aj e3;refine⟨S_3,λb4 ak=>?_⟩;generalize e4:upd J3 b4 _=J4;obtain⟨C,g4⟩:=alc ak e4;have c1:JX J4 b4 c67:=⟨b3,[b2],g4,C _ _ g3,.cons (.am (ns:=[6,7,8]) (C _ _ (d _ _ g2)) (C _ _ (d _ _ (u _ _ g1)))) .nil⟩
  have dp:=a8.same (((I.trans u).trans d).trans C);have dy:=au.trans (((I.trans u).trans d).trans C);clear e1 e2 e3 e4 I u d C g1 g2 g3 g4 W aa aj ak;refine⟨S_2,λb5 al=>?_⟩;generalize e5:upd J4 b5 _=J5;obtain⟨ab,g5⟩:=alc al e5;refine⟨S_3,λb6 aq=>?_⟩;generalize e6:upd J5 b6 _=J6;obtain⟨G,g6⟩:=alc aq e6;refine⟨S_1,λb7 bx=>?_⟩;generalize e7:upd J6 b7 _=J7;obtain⟨O,g7⟩:=alc bx e7;refine⟨S_3,λb8 bz=>?_⟩;generalize e8:upd J7 b8 _=J8;obtain⟨U,g8⟩:=alc bz e8;have c2:JX J8 b8 c78:=⟨b7,[b6],g8,U _ _ g7,.cons (.am (ns:=[7,8]) (U _ _ (O _ _ g6)) (U _ _ (O _ _ (G _ _ g5)))) .nil⟩
  have dw:=((ab.trans G).trans O).trans U;clear e5 e6 e7 e8 ab G O U g5 g6 g7 g8 al aq bx bz;refine⟨S_2,λb9 db=>?_⟩;generalize e9:upd J8 b9 _=J9;obtain⟨ad,g9⟩:=alc db e9;have bg:=dw.trans ad;refine xea ((dp.same bg).ex) λcs ar pr=>?_;have lp:=A1e pr;refine xq1 Z ⟨b9,q1,(xq2 Z Z ⟨g9,ar,FB (by simp only[F0,P9,B7];lia),λq hq=>?_⟩)⟩;have sq:=As (o:=.lst ([V.ref b4,V.ref b8]++cs.map V.ref)) hq;refine S _ _ ⟨q,c67::c78::r1,Z,(dy.trans bg).trans sq,⟨b4::b8::cs,Af,.cons ((c1.same bg).same sq) (.cons ((c2.same ad).same sq) (Paired.imp (λ_ _ z=>z.same sq) pr))⟩,⟨by simp only[F0];lia,λc hc=>?_⟩,aAx _,by simp only[F0];lia⟩;rcases C1.mp hc with rfl|hc
  .exact aET
  .rcases C1.mp hc with rfl|hc
   .exact aEU
   .exact be.ok c hc
 .rintro σ' H2 bj;obtain⟨q,r,rfl,av,as,ro,re,ln⟩:=bj;clear a8 be cr dr bw au;have ah:=av.seq hS;refine de (Bc ?_);intro r3 s3 k3 df E3;obtain⟨n1,a7⟩:=M0 (P3 (atN ns 9) (by decide:(7:Int)≠0));have bb:n1<=6:=by have:=O5 (atN ns 9) (by decide:(0:Int)<7);lia
  refine xq1 Z ⟨l,ns,9,Z,ah,by decide,(xq2 Z Z ⟨(by show(0:Int)<7;decide),?_⟩)⟩;rw[show(λi j:Int=>V.int (i%j)) _ _=V.int (n1:Int)from A2c V.int a7];refine df (Bc ?_);intro r4 s4 k4 dg E4;apply RB (T:=k4) (fun σ' H5=>∃(q:R_)(r:AC)(k:Nat)(u3:Option V),σ'=[n_ (.ref l),n_ (.ref q),n_ (.int (k:Int)),u3,o0,o0,o0,o0,o0,o0,o0,o0]/\Ay H H5/\Il H5 q r/\FJ r/\((Cz r 0 BF=0/\k<=6)\/(Un0 r/\k<=12)))
  .intro S;refine xq1 Z ⟨l,ns,8,Z,ah,by decide,(xq2 Z Z ⟨⟨by decide,by decide⟩,(xq2 Z Z ⟨B2,Z,(xq1 Z (IN (λ_=>?_) (λ_=>S _ _ ⟨q,r,n1,o0,Z,av,as,ro,.inl ⟨re,bb⟩⟩)))⟩)⟩)⟩;refine Bc ?_;intro r5 s5 k5 a5 E5;refine xq1 Z (xq1 Z ⟨l,ns,9,Z,ah,by decide,(xq2 Z Z ⟨⟨by decide,by decide⟩,(xq2 Z Z ⟨(by show(0:Int)<7;decide),(xq2 Z Z ?_)⟩)⟩)⟩);refine⟨l,ns,_,Z,ah,by lia,by lia,λL M H3 d hL mp=>?_⟩;refine a5 (Bc ?_);intro r6 s6 k6 a6 E6;have dx:=av.trans d;have dn:=as.same d;clear as d re a7 bb;refine⟨S_0,λb1 W=>?_⟩;generalize e1:upd H3 b1 _=J1;obtain⟨I,g1⟩:=alc W e1;refine⟨S_3,λb2 aa=>?_⟩;generalize e2:upd J1 b2 _=J2;obtain⟨u,g2⟩:=alc aa e2;refine⟨S_1,λb3 aj=>?_⟩;generalize e3:upd J2 b3 _=J3;obtain⟨d,g3⟩:=alc aj e3;have c1:JX J3 b2 ⟨n_ 0,[],0⟩:=⟨b1,[],d _ _ g2,d _ _ (u _ _ g1),.nil⟩
   have bf:=(I.trans u).trans d;clear e1 e2 e3 I u d g1 g2 W aa aj;refine xea ((dn.same bf).ex) λcs ar pr=>xq1 Z (xq1 Z ⟨q,cs.map V.ref,Z,SqL.of ar,λb4 ak=>?_⟩);generalize e4:upd J3 b4 _=J4;obtain⟨C,g4⟩:=alc ak e4;rw[cut2,<-List.map_take]at g4;have lc:(cs.take 2).length<=2:=List.length_take_le ..;refine⟨b3,b4,(xq2 Z Z ⟨C _ _ g3,g4,FB (by simp only[F0,P9,B7];lia),λb5 al=>?_⟩)⟩;generalize e5:upd J4 b5 _=J5;obtain⟨ab,g5⟩:=alc al e5;have p5:Paired (JX J5) (b2::cs.take 2) (⟨n_ 0,[],0⟩::r.take 2):=.cons (c1.same (C.trans ab)) (OM 2 (Paired.imp (λ_ _ z=>z.same (C.trans ab)) pr));have cu:=(bf.trans C).trans ab;clear e4 e5 C ab g4 ak al g3 c1 ar pr bf;refine⟨1,8,Z,⟨by decide,by decide,by decide,by decide⟩,?_⟩;refine OE (lo:=1) (n:=7) (λi a3 H5=>∃(us:H_)(ds:AC),Ay J5 H5/\a3=us.map V.ref/\Paired (JX H5) us ds/\ds.length=i/\∀c∈ds,c.ok) ⟨[],[],Ay.refl _,Z,.nil,Z,λc hc=>nomatch hc⟩ ?_ ?_
   .intro i a3 H5 hi bi;obtain⟨us,ds,sm,rfl,pu,ld,bd⟩:=bi;have lu:=A1e pu;obtain⟨x,ex⟩:∃x,M[i+1]?=n_ x:=⟨_,C4 (by have:=mp.len;lia)⟩
    have ox:=mp.ok x (D8 ex);refine⟨⟨[n_ (.int (1+(i:Int)))],Z,Z⟩,by rw[B7];exact DU A3,FY ?_⟩;refine xq1 Z ⟨S_0,λb1 W=>?_⟩;generalize e1:upd H5 b1 _=J6;obtain⟨I,g1⟩:=alc W e1;refine xw2 Z Z ⟨L,M.map V.int,1+(i:Int),.int x,Z,Z,SqL.of (I _ _ (sm _ _ (cu _ _ hL))),(by rw[show(1:Int)+(i:Int)=((i+1:Nat):Int) by lia];exact Ai (by rw[C0,ex];rfl)),S_3,λb2 aa=>?_⟩;generalize e2:upd J6 b2 _=J7;obtain⟨u,g2⟩:=alc aa e2;have cN:JX J7 b2 ⟨n_ (1+(i:Int)),[],x⟩:=⟨b1,[],g2,u _ _ g1,.nil⟩
    refine⟨us++[b2],ds++[⟨n_ (1+(i:Int)),[],x⟩],(sm.trans I).trans u,by rw[C7];rfl,A3f (Paired.imp (λ_ _ z=>(z.same I).same u) pu) cN,by rw[C6,ld];rfl,λc hc=>?_⟩;rcases F6.mp hc with z|z
    .exact bd c z
    .rw[D4.mp z];exact aEF ⟨by lia,by lia⟩ ⟨ox.1,by lia⟩
   .intro a3 H5 bi b6 aq;obtain⟨us,ds,sm,rfl,pu,ld,bd⟩:=bi;have lu:=A1e pu;generalize e6:upd H5 b6 _=J6;obtain⟨G,g6⟩:=alc aq e6;refine⟨b5,b6,(xq2 Z Z ⟨G _ _ (sm _ _ g5),g6,FB (by simp only[C6,F0,P9,B7];lia),λq' dm=>?_⟩)⟩;generalize e7:upd J6 q' _=J7;obtain⟨O,g7⟩:=alc dm e7;have cv:=(sm.trans G).trans O;have dq:Il J7 q' ((⟨n_ 0,[],0⟩::r.take 2)++ds):=⟨(b2::cs.take 2)++us,by rw[g7];simp,Qk (Paired.imp (λ_ _ z=>(z.same G).same O) pu) (Paired.imp (λ_ _ z=>z.same cv) p5)⟩
    refine a6 ?_;have cw:=(dx.trans cu).trans cv;obtain⟨n2,dl⟩:=M0 (P3 (atN ns 9) (by decide:(13:Int)≠0));have dt:n2<=12:=by have:=O5 (atN ns 9) (by decide:(0:Int)<13);lia
    refine xq1 Z ⟨l,ns,9,Z,cw.seq hS,by decide,(xq2 Z Z ⟨(by show(0:Int)<13;decide),?_⟩)⟩;rw[show(λi j:Int=>V.int (i%j)) _ _=V.int (n2:Int)from A2c V.int dl];refine S _ _ ⟨q',_,n2,n_ (.ref L),Z,cw,dq,⟨?_,λc hc=>?_⟩,.inr ⟨un0 _,dt⟩⟩
    .have lr:(r.take 2).length<=2:=List.length_take_le ..;simp only[C6,F0];lia
    .rcases F6.mp hc with z|z
     .rcases C1.mp z with rfl|z
      .exact aEF ⟨by decide,by decide⟩ ⟨by decide,by decide⟩
      .exact ro.ok c (List.mem_of_mem_take z)
     .exact bd c z
  .rintro σ' H5 bj;obtain⟨q,r,k,u3,rfl,dz,ba,ro,kd⟩:=bj;clear as ln ah av re a7 bb;have ai:=dz.seq hS;refine dg (Bc ?_);intro r5 s5 k5 a5 E5;refine xea (aCb (atN ns 12) ((ns.map V.int).length:Int)) λmy cf ao=>xq1 Z ⟨l,ns,12,Z,ai,by decide,(xq2 Z Z ⟨(by show(0:Int)<5;decide),(xq1 Z ⟨l,(xq1 Z ⟨.inl ai,(xq2 Z Z ⟨_,_,Z,_,_,Z,(xq2 Z Z ?_)⟩)⟩)⟩)⟩)⟩;rw[show(λi j:Int=>V.int (i+j)) _ _=V.int (my:Int)from A2c V.int cf];refine a5 (Bc ?_);intro r6 s6 k6 a6 E6;refine xq1 Z ⟨l,ns,10,Z,ai,by decide,_,Z,λX X1 X2=>?_⟩;refine a6 (Bc ?_);intro r7 s7 k7 dh E7;refine xw3 Z Z Z (xq1 Z ⟨l,ns,11,Z,ai,by decide,_,Z,λY Y1 Y2=>?_⟩);refine⟨l,ns,13,X,Y,my,Z,ai,by decide,C5 ao A4,by lia,by lia,by lia,by lia,λD ds Hd sd nD hD dd=>?_⟩;refine dh (Bc ?_);intro r8 s8 k8 di E8;have da:s8=[n_ (.ref l),n_ (.ref q),n_ (.int (k:Int)),u3,n_ (.int (my:Int)),n_ (.int X),n_ (.ref D),o0,o0,o0,o0,o0]:=rfl
   clear_value s8
   subst da;have dk:=dd.dk;have co:∀c∈ds,Zx c:=λc hc=>(dd.ok c hc).1.1;have el:ds.length<=12:=C5 dd.len ao;have bk:∃A,Bk r (stC ds) X Y k A:=by
    rcases kd with ⟨re,k6⟩|⟨un,ch⟩
    .exact⟨_,aGc ro re (ZQ dd) ⟨by lia,by lia⟩ ⟨by lia,by lia⟩ k6⟩
    .exact⟨_,aGd ro un (ZQ dd) ⟨by lia,by lia⟩ ⟨by lia,by lia⟩ ch⟩
   generalize stC ds=φ at dk bk;obtain⟨B,bk⟩:=bk;clear kd cf ao dd X1 X2 Y1 Y2;refine λx' c8 nx cm du=>⟨x',c8,Z,Af,λg H6 bu N=>⟨Z,?_⟩⟩
   have G:Ay Hd H6:=λb o e=>N.kp b o (by rw[Ax (Av e nx),Ax (Av e cm)];exact e) (bu▸Av e nx);subst bu;have bt:=Be.new N;have ng:=N.none;clear N nx cm du;refine di (Bc ?_);intro r9 s9 k9 dj E9;have cg:=ba.same (sd.trans G);refine xq1 Z (xq1 Z ⟨q,r,Z,cg,ro,λH7 O=>⟨r,Z,ro,bk.re,λpr H8 U hR=>λp c9 np cl cn=>?_⟩⟩);have bh:=O.trans U;refine jnew (Κ:=Kg r [φ] 12) (N:=150000) (b:=1000) (bt.same bh) ro bk.re hR np cl cn (by rw[Tf];decide) λH9 mem m ad bl bq _ _ _=>⟨Z,?_⟩
   have aw:=G.trans bh;have bc:=aGv ng (λy hy=>Ay.noneN aw (bq y hy));have nn:∀y∈[g.br,m.l]++zL g m,H5 y=o0/\y≠D:=λy hy=>⟨Ay.noneN sd (bc y hy),λz=>by
    have:=bc y hy;rw[z,hD]at this;cases this⟩
   have cx:=(sd.trans aw).trans ad;have a4:=ad _ _ (aw _ _ hD);clear cg O U bh ad bq bc ng bt np cl cn G hR aw;refine dj (Bc ?_);intro em es eh b0 d2;refine xw2 Z Z ⟨D,ds,Z,.inl a4,dk.nd,.inl A3,λo1 L1 ew eg ea ae az ck bv cq cp _=>?_⟩;have ac:=bl.fx (ae.fx (.inl a4)) λx hx z=>(nn x hx).2 (D4.mp z);refine aEd ac.fu bv (Ap.new bl.fu.at' ck) cq cp dk co A3 (by rw[Tf];decide) λf1 G1 c4 af ax ay fv=>?_;have ag:=(Fr.z af).fx ac;have cy:Y9 a H5 c4 g G1 20000 p c9 mem pr r m φ D ds f1:=⟨(ac.fr af ax ay).mono A4,Ay.fxn (λb o e=>ae _ _ (cx _ _ e) (Av e nD)) ag λy hy=>(nn y (F6.mpr (.inr hy))).1,nn,nD,.inr ⟨o1,ag.get (λz=>(nn D (F6.mpr (.inr z))).2 Z) az⟩,fv⟩
   clear bl ac ae az bv cq cp ck af ax ay fv ag cx a4 nn nD hD sd co;have cj:ds.length<64:=by lia
   refine b0 (Bc ?_);intro en ct ei cb d3;have bp:ct=[n_ (.ref l),n_ (.ref q),n_ (.int (k:Int)),u3,n_ (.int (my:Int)),n_ (.int X),n_ (.ref D),n_ (.ref g.p),n_ (.ref p),n_ (.int (f1:Int)),o0,o0]:=rfl
   clear_value ct
   subst bp;refine xw3 Z Z Z (cy.wk bk ba dk cj λv eb cz bm _=>?_);clear cy;refine cb (Bc ?_);intro eo et ch cc d4;refine xw3 Z Z Z (cz.ca bk A4 λey d7 ec c0 bn a0=>?_);have R:=bm.kp a0;clear cz bm a0;refine xq1 Z (bn.rt R ⟨o4,Z,Ba ?_⟩);clear bn;refine cc (Bc ?_);intro ep eu ej cd d5;refine xq1 Z (xq2 Z Z ⟨⟨by decide,by decide⟩,?_⟩);rw[show(λi j:Int=>V.int (i/j)) _ _=V.int ((k/2:Nat):Int)from rfl];have bo:=bk.le (Nat.div_le_self k 2);refine cd (Bc ?_);intro er ev ek ce d6;refine xw3 Z Z Z (c0.ca bo A4 λez d8 ed c3 a2 a1=>?_);replace R:=R.kp a1;clear c0 a1;refine xw3 Z Z Z (c3.wk bo ba dk cj λe0 ee d0 c6 an=>?_);replace R:=R.kp an;replace a2:=a2.kp an;clear c3 an;refine a2.rt c6 ⟨o4,Z,Ba ?_⟩;refine ce ?_;refine xw3 Z Z Z (d0.ca bk A4 λfa d9 c5 fb c7 ci=>?_);exact xq1 Z (c7.rt (R.kp ci) (kq c5))
end
end J
namespace J
open PySem L2
theorem ar1{α:Type}:∀us:List α,us.length=1->∃a,us=[a]
|[a],_=>⟨a,Z⟩
theorem ar2{α:Type}:∀us:List α,us.length=2->∃a b,us=[a,b]
|[a,b],_=>⟨a,b,Z⟩
theorem ar3{α:Type}:∀us:List α,us.length=3->∃a b c,us=[a,b,c]
|[a,b,c],_=>⟨a,b,c,Z⟩
theorem ar4{α:Type}:∀us:List α,us.length=4->∃a b c d,us=[a,b,c,d]
|[a,b,c,d],_=>⟨a,b,c,d,Z⟩
theorem ar5{α:Type}:∀us:List α,us.length=5->∃a b c d e,us=[a,b,c,d,e]
|[a,b,c,d,e],_=>⟨a,b,c,d,e,Z⟩
structure Fg(K:O_)(x:Str)(st:Stmt)(f:R_)(fd:E_):Prop where
at_:W.nsIn K mainGlobals x=n_ (n_ (.ref f))
fn:Fun K x x st f fd
structure Fm(K:O_)(C:R_)(m q:Str)(st:Stmt)(f:R_)(fd:E_):Prop where
me:Ri K C m f
fn:Fun K m q st f fd
structure Fi(K:O_)(C:R_)(q:Str)(st:Stmt)(f:R_)(fd:E_):Prop where
mk_:Mk K C f
fn:Fun K "__init__" q st f fd
theorem bnd{K:O_}{x q:Str}{st:Stmt}{f:R_}{g:E_}{ps:K_}(F:Fun K x q st f g)(h:∀(kV d l:S_)(j:Option Addr)(c k:S_)(us:F_),us.length=ps.length->bindArgs (W.fnOf x q (NR st) (Mg st) (Ak st) .none kV d l j c k) ⟨us,[]⟩=pure (ps.zip us):=by intro _ _ _ _ _ _ us a;first|(obtain⟨b,rfl⟩:=ar1 us a;exact rfl)|(obtain⟨b,e,rfl⟩:=ar2 us a;exact rfl)|(obtain⟨b,e,i,rfl⟩:=ar3 us a;exact rfl)|(obtain⟨b,e,i,m,rfl⟩:=ar4 us a;exact rfl)|(obtain⟨b,e,i,m,n,rfl⟩:=ar5 us a;exact rfl)):CY K g ps []:=F.binds h
theorem fin{l:W.OpenLaw}{w:Q_}{K:O_}{h:T_}{mg:C_}{fa:R_}(X:K.In h)(G:h.Ns mainGlobals mg)(j6:mg "law"=n_ (.ref fa)){j:R_}{f4:R_}  (dL:W.nsIn K mainGlobals "Amounts"=n_ (n_ (.ref i)))(dM:W.nsIn K mainGlobals "Places"=n_ (n_ (.ref r)))(dN:W.nsIn K mainGlobals "Clause"=n_ (n_ (.ref j)))(dS:W.nsIn K mainGlobals "Grove"=n_ (n_ (.ref a)))(dU:W.nsIn K mainGlobals "Rule"=n_ (n_ (.ref O)))(dR:W.nsIn K mainGlobals "Jumps"=n_ (n_ (.ref g)))(ay:Cls K i)(a3:Cls K r)(a2:Cls K j)(n:Cls K a)(bn:Cls K O)(t:Cls K g)(aa:findIn K (.ref i) "state"=n_ o0)(P:findIn K (.ref i) "numbers"=n_ o0)(ad:findIn K (.ref r) "wanted"=n_ o0)(ao:findIn K (.ref j) "cell"=n_ o0)(H:findIn K (.ref j) "conditions"=n_ o0)(ah:findIn K (.ref j) "makes"=n_ o0)(ai:findIn K (.ref a) "levels"=n_ o0)(as:findIn K (.ref a) "parts"=n_ o0)(ac:findIn K (.ref a) "numbers"=n_ o0)(aq:findIn K (.ref a) "bares"=n_ o0)(ab:findIn K (.ref a) "amounts"=n_ o0)(ar:findIn K (.ref a) "boxes"=n_ o0)(a0:findIn K (.ref O) "text"=n_ o0)(aj:findIn K (.ref O) "clauses"=n_ o0)(au:findIn K (.ref g) "grove"=n_ o0)(U:findIn K (.ref g) "memories"=n_ o0)(ax:findIn K (.ref g) "rule"=n_ o0)(A:findIn K (.ref g) "known_squares"=n_ o0)(I:findIn K (.ref g) "known_cells"=n_ o0)(g0:Fg K "is_whole" MJ f0 d0)(g1:Fg K "is_state" MK f1 d1)(g2:Fg K "takes" Sy f2 d2)(g3:Fg K "read_clause" Fs f3 d3)(g4:Fg K "read_state" Jj f4 d4)(g5:Fg K "read_wanted" Iu f5 d5)(g6:Fg K "read_condition" EY f6 d6)(g7:Fg K "read_amounts" Gu f7 d7)(g8:Fg K "read_numbers" Gs f8 d8)(g9:Fg K "read_places" Fq f9 d9)(bq:Fg K "shifted_box" Ir hq ej)(br:Fg K "least_box" DA hr ek)(bt:Fg K "lies_within" Iv hs el)(bu:Fg K "reach_of" MH ht em)(bv:Fg K "bare_field" Jm hu en)(bw:Fg K "widened" Oc hv eo)(bx:Fg K "trimmed" Od hw ep)(bz:Fg K "middle_of" Id hx er)(b0:Fg K "is_bare_around" EZ hy es)(b1:Fg K "widened_over" Gr hz et)(b2:Fg K "widened_to" Jh h0 eu)(b3:Fg K "planted" Oe h1 ev)(bf:Fg K "replaced" MG h2 ew)(b4:Fg K "field_of" MN h3 ey)(b5:Fg K "box_of" Qb h4 ez)(b6:Fg K "jump" VF h5 e0)(b7:Fg K "road" VE h6 e1)(b8:Fg K "check_leap" Jl h7 e2)(b9:Fg K "level_for" Lj h8 e3)(cb:Fg K "moved_by" MI h9 e4)(bg:Fg K "seen_at" LX ia e5)(cc:Fg K "without_unseen" EX ib e6)(cd:Fg K "seen_quarters" DX ic e7)(ce:Fg K "rows_of_quarters" Ee ie e8)(cf:Fg K "shape_of" MF ig e9)(cg:Fg K "comes_again" Iw ih fb)(ch:Fg K "clause_texts" Gw ii fc)(ci:Fg K "read_rule" Li ij fe)(cj:Fg K "deciding" MO ik ff)(ck:Fg K "becomes" Of il fg)(cl:Fg K "shown_rule" Ji im fh)(cm:Fg K "nine_parts" Jk io fi)(cn:Fg K "fours_of" ML ip fj)(co:Fg K "met_in_the_middle" DN iq fk)(cp:Fg K "_law_at" Og ir fl)(cq:Fg K "_law_mix" MP is fm)(cr:Fg K "_law_state_by" FN it fp)(cs:Fg K "_law_condition_by" CK iu fq)(ct:Fg K "_law_clause_by" Fa iv ft)(cu:Fg K "_law_holds" Jp iw fu)(cv:Fg K "_law_decides" Gx ix fv)(cw:Fg K "_law_becomes" Gz iy fw)(cx:Fg K "_law_clauses_by" EF iz fy)(cy:Fg K "_law_word" FE i0 ga)(cz:Fg K "_law_text" Ie i1 gb)(c0:Fg K "_law_by_rows" Gy i2 gc)(c1:Fg K "_law_listed" Iy i3 ge)(c2:Fg K "_law_step" Es i4 gf)(c3:Fg K "_law_cells_by" FO i5 gg)(c4:Fg K "_law_base" Lk i6 gh)(c5:Fg K "_law_shape" DF i7 gi)(c6:Fg K "_law_walked" Ix i8 gj)(c7:Fg K "_law_round" Jn i9 gk)(c8:Fg K "_law_right" Jo ja gl)(c9:Fg K "law" WP jb ei)(db:Fm K i "holds" "Amounts.holds" FP jd gn)(dd:Fm K r "holds" "Places.holds" EG jf gr)(df:Fm K j "fits" "Clause.fits" Fu jh gt)(dh:Fm K a "kept" "Grove.kept" Jt jj gv)(di:Fm K a "linked" "Grove.linked" GB jk gw)(dj:Fm K a "check_square" "Grove.check_square" DC jm gx)(dl:Fm K a "leaf" "Grove.leaf" Js jn gy)(dm:Fm K a "level_of" "Grove.level_of" Fc jo gz)(dn:Fm K a "state_of" "Grove.state_of" Fb jp ha)(j7:Fm K a "living" "Grove.living" Qc jq hb)(j8:Fm K a "counted" "Grove.counted" OV js hc)(dp:Fm K a "span" "Grove.span" Jr jt hd)(bh:Fm K a "boxed" "Grove.boxed" Ft ju he)(dq:Fm K a "measured" "Grove.measured" DH jv hf)(dt:Fm K g "change" "Jumps.change" EH jy hi)(du:Fm K g "after" "Jumps.after" IA jz hj)(dv:Fm K g "check_jump" "Jumps.check_jump" Ef j0 hk)(bi:Fm K g "reckoned" "Jumps.reckoned" DG j1 hl)(dw:Fm K g "fresh" "Jumps.fresh" CH j2 hm)(dx:Fm K g "four_halfway" "Jumps.four_halfway" BD j3 hn)(dy:Fm K g "middle_after" "Jumps.middle_after" DB j4 ho)(dz:Fm K g "cell_after" "Jumps.cell_after" Da j5 hp)(da:Fi K i "Amounts.__init__" GC jc gm)(dc:Fi K r "Places.__init__" Iz je gp)(de:Fi K j "Clause.__init__" IB jg gs)(dg:Fi K a "Grove.__init__" Ju ji gu)(dr:Fi K O "Rule.__init__" Ig jw hg)(ds:Fi K g "Jumps.__init__" Jq jx hh)(ea:W.nsIn K mainGlobals "all"=n_ o0)(bo:W.nsIn K mainGlobals "bool"=n_ o0)(ba:W.nsIn K mainGlobals "enumerate"=n_ o0)(eb:W.nsIn K mainGlobals "int"=n_ o0)(a1:W.nsIn K mainGlobals "isinstance"=n_ o0)(ec:W.nsIn K mainGlobals "len"=n_ o0)(bp:W.nsIn K mainGlobals "list"=n_ o0)(ed:W.nsIn K mainGlobals "max"=n_ o0)(ee:W.nsIn K mainGlobals "min"=n_ o0)(bl:W.nsIn K mainGlobals "range"=n_ o0)(be:W.nsIn K mainGlobals "sorted"=n_ o0)(ef:W.nsIn K mainGlobals "str"=n_ o0)(eg:W.nsIn K mainGlobals "sum"=n_ o0)(bm:W.nsIn K mainGlobals "tuple"=n_ o0)(eh:W.nsIn K mainGlobals "zip"=n_ o0)(bd:W.nsIn K mainGlobals "STATES"=n_ (n_ (.int 8 a4)))(az:W.nsIn K mainGlobals "NEIGHBOURS"=n_ (n_ (.int 8 R)))(ag:W.nsIn K mainGlobals "STATE_FIGURES"=n_ (n_ (.str D B)))(Y:D=Str.ofString "01234567")(V:W.nsIn K mainGlobals "AMOUNT_FIGURES"=n_ (n_ (.str y u)))(S:y=Str.ofString "012345678")(bb:W.nsIn K mainGlobals "ANY_SIGN"=n_ (n_ (.str al ak)))(a8:al=Str.ofString "*")(a5:W.nsIn K mainGlobals "TOP_LEVEL"=n_ (n_ (.int 48 ae)))(bj:W.nsIn K mainGlobals "LIMIT"=n_ (n_ (.int 1099511627776 bc)))(aw:W.nsIn K mainGlobals "LEAST_LEVEL"=n_ (n_ (.int 1 M)))(av:W.nsIn K mainGlobals "CLAUSE_MARK"=n_ (n_ (.str N L)))(an:N=Str.ofString "; ")(am:W.nsIn K mainGlobals "LEAST_JUMPED"=n_ (n_ (.int 2 E))):∃fd:FuncData,(∀(s:P_)(v:S_),BindsTo s fd ⟨[v],[]⟩ [("_law_script",v)])/\∀Q:Heap,K.In Q->Q.Ns mainGlobals mg->AM l.prog w K mg Q CX0 153 fa fd ["_law_script"] (WK K):=by
 have e:=j6.symm.trans (A2d X G c9.at_);cases e;have no:∀{x:Str},W.nsIn K mainGlobals x=n_ o0->mg x=o0:=λz=>W.mg_none_of X G z;subst an;subst a8;subst S;subst Y;have T:Top K mg (⟨i,r,j,a,O,g⟩:Ad):=⟨no ea,no bo,no ba,no eb,no a1,no ec,no bp,no ed,no ee,no bl,no be,no ef,no eg,no bm,no eh,⟨a4,A2d X G bd⟩,⟨R,A2d X G az⟩,⟨B,A2d X G ag⟩,⟨u,A2d X G V⟩,⟨ak,A2d X G bb⟩,⟨ae,A2d X G a5⟩,⟨bc,A2d X G bj⟩,⟨M,A2d X G aw⟩,⟨L,A2d X G av⟩,⟨E,A2d X G am⟩,A2d X G dL,ay,aa,P,A2d X G dM,a3,ad,A2d X G dN,a2,ao,H,ah,A2d X G dS,n,ai,as,ac,aq,ab,ar,A2d X G dU,bn,a0,aj,A2d X G dR,t,au,U,ax,A,I⟩
 refine⟨ei,λs v=>(by obtain⟨_,_,_,_,_,_,_,_,_,rfl,_⟩:=c9.fn.ex;exact .of_eq Z),λQ _ _=>?_⟩;have d:∀{CX:CXT}{k:Nat}{x:Str}{st:Stmt}{f:R_}{fd:E_}{ps:K_}{sp:Sp},Fg K x st f fd->AM l.prog w K mg Q CX k f fd ps sp->CY K fd ps []->Cal l.prog w K mg Q CX k x ps sp:=λF o b=>⟨_,_,o,A2d X G F.at_,F.fn.kp,b⟩
 have p:∀{CX:CXT}{k:Nat}{C:R_}{x q:Str}{st:Stmt}{f:R_}{fd:E_}{ps:K_}{sp:Sp},Fm K C x q st f fd->Cls K C->AM l.prog w K mg Q CX k f fd ps sp->CY K fd ps []->Co l.prog w K mg Q CX k C x ps sp:=λF c o b=>⟨⟨_,_,o,F.me,b⟩,c⟩
 have af:∀{CX:CXT}{k:Nat}{C:R_}{x q:Str}{st:Stmt}{f:R_}{fd:E_}{ps:K_}{sp:Sp},Fi K C q st f fd->mg x=n_ (.ref C)->AM l.prog w K mg Q CX k f fd ps sp->CY K fd ps []->Tz l.prog w K mg Q CX k x C ps sp:=λF m o b=>⟨_,_,o,F.mk_,m,b⟩
 have aE:=d g0 (aG8 g0.fn T) (bnd g0.fn);have bJ:=d g1 (aG7 g1.fn T aE) (bnd g1.fn);have aU:=p dh n (aCp dh.fn T) (bnd dh.fn);have dJ:=af dg T.aCZ (aBp dg.fn T aU) (bnd dg.fn)
 have a6:=p di n (aCr di.fn T aU) (bnd di.fn);have aI:=p dj n (aE1 dj.fn T aE) (bnd dj.fn);have aT:=p dl n (aCq dl.fn T bJ) (bnd dl.fn);have a7:=p dm n (aE6 dm.fn T aI) (bnd dm.fn);have bH:=p dn n (aFL dn.fn T a7) (bnd dn.fn);have aB:=d bq (aBy bq.fn T) (bnd bq.fn);have bD:=d br (aBs br.fn T) (bnd br.fn);have bA:=p bh n (aBm bh.fn dq.fn T bh.me (bnd bh.fn) dq.me (bnd dq.fn) aB bD 49) (bnd bh.fn);have cE:=p dp n (aCw dp.fn T aI bA) (bnd dp.fn);have aC:=d bt (aE7 bt.fn T) (bnd bt.fn);have aD:=d bu (aBv bu.fn T a7) (bnd bu.fn);have bP:=d bw (aFN bw.fn T a7 a6) (bnd bw.fn);have cO:=d bz (aFC bz.fn T a6) (bnd bz.fn);have bK:=d b0 (aGx b0.fn T) (bnd b0.fn);have aQ:=d bx (aCx bx.fn T a7 bK cO) (bnd bx.fn);have aR:=d b1 (aHN b1.fn T aC aD bP) (bnd b1.fn);have aY:=d bv (aBl bv.fn T) (bnd bv.fn);have bS:=d bf (aBw bf.fn T (A2d X G bf.at_) (bnd bf.fn) aT a6 50) (bnd bf.fn);have cZ:=d b3 (aBt b3.fn T aC bJ aD aR bS aQ) (bnd b3.fn);have cW:=d b4 (aE3 b4.fn T aY cZ) (bnd b4.fn);have bE:=d b5 (aBn b5.fn T cE aD aB) (bnd b5.fn);have cT:=d g2 (aBz g2.fn) (bnd g2.fn);have dA:=af da T.aAU (YS da.fn T) (bnd da.fn)
 have dE:=af dc T.aBY (YQ dc.fn T) (bnd dc.fn)
 have dF:=af de T.aBX (YR de.fn T) (bnd de.fn)
 have dB:=p db ay (VM db.fn T) (bnd db.fn);have dD:=p dd a3 (VL dd.fn T cT) (bnd dd.fn);have cA:=p df a2 (aCk df.fn T cT dB dD) (bnd df.fn);have cX:=d cj (aE2 cj.fn T cA) (bnd cj.fn);have bQ:=d ck (aEx ck.fn T cX) (bnd ck.fn);have aN:=d g4 (aHF g4.fn T) (bnd g4.fn);have aW:=d g5 (aHH g5.fn T aN) (bnd g5.fn);have bT:=d g8 (aHC g8.fn T) (bnd g8.fn);have bU:=d g7 (aFE g7.fn T aN bT dA) (bnd g7.fn);have cB:=d g9 (aFI g9.fn T aW dE) (bnd g9.fn);have bI:=d g6 (aBu g6.fn T bU cB) (bnd g6.fn);have cC:=d g3 (aHA g3.fn T aN aW bI dF) (bnd g3.fn);have bV:=d ch (aG4 ch.fn T) (bnd ch.fn);have dQ:=af dr T.aEw (aHB dr.fn T bV cC) (bnd dr.fn)
 have cM:=d ci (aHE ci.fn T dQ bQ) (bnd ci.fn);have cG:=d cl (aCv cl.fn T) (bnd cl.fn);have bR:=p dt t (aE0 dt.fn T cG) (bnd dt.fn);have dH:=af ds T.aCa (aBr ds.fn T bR) (bnd ds.fn)
 have aK:=p dz t (aEz dz.fn T bH aT bQ) (bnd dz.fn);have aH:=p dy t (aCs dy.fn T a6 aK) (bnd dy.fn);have aO:=d cm (aCt cm.fn T a6) (bnd cm.fn);have aV:=d cn (aBo cn.fn T) (bnd cn.fn);have aJ:=d co (aFB co.fn T a6) (bnd co.fn);have aG:=p bi t (WY bi.fn dx.fn dw.fn T bi.me (bnd bi.fn) dx.me (bnd dx.fn) dw.me (bnd dw.fn) aH a6 aO aV aJ 46) (bnd bi.fn);have bC:=p dv t (aG0 dv.fn T a7 aE) (bnd dv.fn);have bZ:=p du t (YO du.fn T A4 bC aG) (bnd du.fn);have cH:=d b8 (aCn b8.fn T aE bE aC) (bnd b8.fn);have cP:=d b9 (aE9 b9.fn T aD) (bnd b9.fn);have cF:=d b2 (aHO b2.fn T a7 bP) (bnd b2.fn);have dO:=d b7 (aFF b7.fn T cH aY cP cF bZ aQ) (bnd b7.fn);have dP:=d b6 (aE4 b6.fn T dO aQ) (bnd b6.fn);have aP:=d cc (aHP cc.fn T) (bnd cc.fn);have aM:=d ce (aHD ce.fn T) (bnd ce.fn);have cD:=d bg (aDy bg.fn cd.fn T (A2d X G bg.at_) (bnd bg.fn) (A2d X G cd.at_) (bnd cd.fn) aP aM a6 50) (bnd bg.fn);have cV:=d cb (aG9 cb.fn T bE aB aC aR aD a7 aQ cD) (bnd cb.fn);have cU:=d cf (aBx cf.fn T bE cV) (bnd cf.fn);have bB:=d cg (aGz cg.fn T aE dP cU) (bnd cg.fn);have a9:=d cp (aGw cp.fn T) (bnd cp.fn);have aF:=d cq (aFD cq.fn) (bnd cq.fn);have aA:=d cr (aHJ cr.fn) (bnd cr.fn);have aZ:=d cs (aG2 cs.fn T aF aA) (bnd cs.fn);have bL:=d ct (aG1 ct.fn T aF aA aZ) (bnd ct.fn);have cK:=d cu (aG6 cu.fn T) (bnd cu.fn);have bW:=d cv (aG5 cv.fn T cK) (bnd cv.fn);have aS:=d cw (aGy cw.fn T bW) (bnd cw.fn);have bG:=d cx (aG3 cx.fn T a9 bL aS) (bnd cx.fn);have cQ:=d cy (aHL cy.fn T) (bnd cy.fn);have cR:=d cz (aHK cz.fn T cQ) (bnd cz.fn);have bX:=d c0 (aFH c0.fn T) (bnd c0.fn);have aX:=d c1 (aE8 c1.fn T bX) (bnd c1.fn);have bY:=d c4 (aCl c4.fn T) (bnd c4.fn);have bN:=d c3 (aEy c3.fn T a9 aF aA) (bnd c3.fn);have cS:=d c2 (aFM c2.fn T aS) (bnd c2.fn);have bO:=d c5 (aFK c5.fn T aX) (bnd c5.fn);have bM:=d c6 (aHM c6.fn T bO cS) (bnd c6.fn);have bF:=d c8 (aHG c8.fn T) (bnd c8.fn);have cJ:=d c7 (aFG c7.fn T a9) (bnd c7.fn);exact aE5 c9.fn T dJ a9 bG cR cJ cM bY bN aX bM cW dH bB bF
theorem walk{l:W.OpenLaw}{q:N_}{c:K_}{m:(Str->Option Value)->Heap->Prop}{g:World->Heap->Prop}{d:DefRec}{K:Params->W.Frag}(t:l.most=n_ 63)(e:d.params.defaults=[])
  (p:∀(w:Q_)(h:T_),g w h->(K w.params).In h)
  (F:∀(w:Q_)(mg:C_)(i:R_)(h:T_),(K w.params).In h->h.Ns mainGlobals mg->mg d.name=n_ (.ref i) ->
   ∃j:FuncData,(∀(s:P_)(u:S_),BindsTo s j ⟨[u],[]⟩ [("_law_script",u)])/\∀b:Heap,(K w.params).In b->b.Ns mainGlobals mg->AM l.prog w (K w.params) mg b CX0 153 i j ["_law_script"] (WK (K w.params))) :
  W.WalkO q c m g l.row.toRowW d [] (λf vs=>PySem.call f vs) :=
 L2.Wt (n:=63) (k:=153) (x:="_law_script") (CX:=λ_=>CX0) (sp:=λw=>WK (K w.params)) t A4 e ⟨Z,by decide,by decide⟩ p F (λ_ _ a ns r _ o=>⟨a,ns,Z,o,r,λ_=>Z⟩) λ_ _ _ _ _ z=>z
end J
structure PySem.W.Fast:Prop where(tw18052391034276877817 tw11143179807226090206 tw5461196433727794598 tw15343729014411740100 tw7822664194206616332 tw443580063120699340 tw2750412898317904668 tw15723410447632390179 tw16047948091798644045 tw10774204734696244245 tw16251461413452345840 tw936757271987738656 tw13433773280090727024 tw5153147079390171674 tw440482280391122103 tw13186850897026342668 tw8029005367141213256 tw3537236221633199644 tw15547055083914441804 tw662799281855437745 tw7265564821056603555 tw7132886471603036396 tw6320661463528495139 tw11617925215758681926 tw5262313683074313116 tw14977588399289747315 tw8375864060036917432 tw5711894536055940526 tw12109573543660554424 tw17338223397325676396 tw15893607785475057519 tw7828619121242766543 tw6844046890460397278 tw14959473872525674043 tw850913158560628381 tw8883884717253910054 tw1754536844254458602 tw12922169682489939251 tw5163599646097860821 tw9127906841197276129 tw1387284661497245373 tw18195942606333405166 tw6198178776989666908 tw5399848173176475096 tw15911032099178905555 tw3219835458504412159 tw10504911830170426295 tw13291589083013805891 tw14789550577790329671 tw13580996458438070871 tw7639276285993476693 tw11784316926547545239 tw12360193040975395801 tw9752520867182087981 tw2947426769981062176 tw14645604298516196105 tw7238186489749121366 tw14317585720267005843 tw17891324947853412224 tw14166830573012862481 tw15880641639455834226 tw17381775281354683679 tw17579548552911955223 tw18146348877883252971 tw8283937191783268521 tw3072702871514106469 tw4756288758841484266 tw9580122245190112205 tw5571689355883543282 tw10126291250888535266 tw6462121070482755059 tw8346023753069673924 tw13442860449150253540 tw15414875632951541001 tw7728195599916932403 tw11186389251348605979 tw9787705350060732239 tw7864575567152859126 tw17373267796114944118 tw18337849519461256848 tw2899869964074736445 tw5727054642343542381 tw4390248699928645756 tw10628863140366816348 tw16488370551691357203 tw11414708751093732669 tw3808002151443332925 tw16586908150662576991 tw6662306864535729998 tw14948375958042494917 tw8864761932058423578 tw10763258904088647176 tw16247959956631861545 tw9013284666972621869 tw7474242047873823925 tw15491377353809786117 tw8467962395972064798 tw17675500548668551176 tw15682910057501364712 tw10534179832086406532 tw5172040808964890950 tw17971421942825816861 tw18326381092592727266 tw16956469905315576809 tw17935611192194372729 tw5051726833717385303 tw11138994760516209631 tw18017161449797997949 tw1091821767528715229 tw7934885641019341397 tw7619099252215848030 tw17428970855646716774 tw10828205935956594218 tw3642289819296613628 tw3015875812949159066 tw2111046401489060064 tw12676870279403589289 tw3370358596957573160 tw16761307029800809723 tw1206331589771063782 tw3134652974158286303 tw14412605917728961285 tw3126379457220926556 tw7265457655640184792 tw15162632756366252382 tw5520749616543480038 tw9946788206884291987 tw2031477830160997901 tw14964893282954791354 tw10075365372572244754 tw17770832998145072244 tw13442899510898458444 tw17635175011970779980 tw11167188761495104155 tw12745739056050669329 tw16997755108937595684 tw7730561910365305868 tw18085471695611759460 tw13479074550004379687 tw10973166447962879698 tw5947569935341902202 tw13104638878465859732 tw10938192629642623457 tw54072285472338256 tw9573489312613086786 tw12252269513437418350 tw9330366012180973987 tw18220564557715897875 tw5816029683626510024 tw18111183684308385830 tw14268873400685698820 tw3876394318442826039 tw1669953765575523779 tw7457526864231207224 tw2201175126665324859 tw9797497546547896 tw4968892487279395044 tw13095916040980397968 tw16494219242479631495 tw4449469385251470425 tw15761765214604500492 tw7520725840422518474 tw17503743544380237467 tw15841051349725403426 tw12532566757348589967 tw5429790888985055936 tw12393716220325338771 tw992634925989811821 tw1037885920275994983 tw9077843011973131181 tw8340117681834509056 tw4089846654351227763 tw13165307731578348468 tw4382284849373128048 tw10686370916247154862 tw10146792441535987839 tw13827407867846095413 tw8406984016553907073 tw9416614758008948759 tw7511925811692634205 tw7719703441118652051 tw4784324515623878512 tw6282733251800096011 tw2246910464669575032 tw17371874792308368493 tw1348808013893713303 tw2416135582157562873 tw12940270901420582463 tw15222256990305921626 tw15495455203423630893 tw12789848743975689311 tw15239451046847062282 tw16054851467227866566 tw17224964919367289384 tw8960357026380979106 tw15575380751714559150 tw12371262166450290922 tw14126450419555313283 tw10218566513149990977 tw16981080583029186921 tw16543515431080293667 tw16167148438024757292 tw4982061184507759178 tw4644212130957307501 tw5993263763926147179 tw15017131250463927405 tw7177237291737712551 tw14533377983774896408 tw4195312352542017409 tw12667662892995895111 tw6578603104414061136 tw14852384137555574122 tw7323244200858284405 tw4529785897926779540 tw16392516509987917579 tw16033842637220254462 tw8666440362963965699 tw966096231900169421 tw11878612888893822206 tw13718670162660855494 tw1956663491015419543 tw14918974867534801516 tw18326876546174142387 tw2401168599062565265 tw10512854468945863386 tw7224517195387586701 tw16847423501585490495 tw9921560639872588275 tw3086087459749350619 tw1156746586341725690 tw4998318278792536197 tw1840916236661115980 tw11557092168165395312 tw10735555766779206849 tw17623432238365785486 tw14559754116318236061 tw17441499641040711348 tw13867615606748732823 tw12490445237520508691 tw604632596639879546 tw5726396837857052735 tw2917374845804815492 tw10721584639549908644 tw17619559401167433956 tw15002674439035726869 tw8867571616531686099 tw16053171813142569845 tw600708259747559097 tw257807015388774869 tw8266733670422545987 tw7244353832192374815 tw919561708544933772 tw3041201592500383645 tw14243771584846000862 tw6709881485355442031 tw18204703276685105300 tw2859167250655061995 tw3983683667224914748 tw17657609936846782038 tw13224726892661350599 tw14755832797965610620 tw4872406916841340523 tw9069128382806641792 tw17619590700499302652 tw11520841753895302476 tw9705644764190469472 tw9923242785240781365 tw727313373169774493 tw4597746920414152764 tw2633774323181308444 tw15488324424583676087 tw15144395285843692645 tw18300584063993807505 tw16868594443733738369 tw8691628965398522980 tw523912035544503109 tw10814282770214510685 tw16725994966107497045 tw2867635493744278843 tw102633615364292770 tw7360170312130687070 tw10492868109082689210 tw9396548295372679556 tw2801078809940421919 tw8924133543550388703 tw4339099632684968131 tw4898750544044754371 tw189513377827287733 tw4005293475212828627 tw13433344592448192686 tw12097482641167281555 tw7993062697655415554 tw7487397344588689260 tw8559999168667096175 tw2013004080695024483 tw15398866598256423971 tw7067866980473075570 tw2779531042657903925 tw17940384249122614959 tw3660881059164043788 tw2649649662080178912 tw10003781693042525573 tw7832082392737912671 tw2740140548194949378 tw18428165106611972587 tw85391114144888094 tw6888484563873741141 tw8443728196092467421 tw852775418810785926 tw6990662518113045211 tw8279748281561883435 tw15033531257950148039 tw3794284089227418888 tw17195264604400433226 tw5785171373687397360 tw3601839847652039580 tw12337392515178904180 tw106528833011402882 tw13208529318106858248 tw2579150485365395550 tw2820795901034604044 tw16119058112955202145 tw7842882648465328966 tw18241201263226352862 tw18407649675762200301 tw15205967946779166771 tw16819492232443869502 tw11431676797538241052 tw14823758811442065034 tw700007387063698730 tw16810308715563406573 tw10661179455773004668 tw9751857432473311289 tw14093637274109034832 tw17196226290262514090 tw14993018933486070064 tw9055427128816110336 tw13606598138553901493 tw15193701387106149128 tw8025672844389583506 tw5121059732331903659 tw16413290475930844378 tw1952678707878520972 tw18138249307516231649:True)
open PySem PySem.W PyProof.Rows
set_option maxRecDepth 100000 in
set_option maxHeartbeats 0 in
theorem PySem.Challenge.cw_jumpfield_k72_comes_again_holds : PySem.Challenge.rw_jumpfield_k72_comes_again.Holds := by
 w_on; o_law; k_head; (case hw=>w_witness2)
 k_fill
 refine J.walk (l:=PySem.Challenge.rw_jumpfield_k72_comes_again) rfl rfl (fun w h Y=>PySem.W.kIn_of Y) ?F
 case F =>
  intro w mg fa h KX G hmg;refine' J.fin KX G hmg ..;any_goals first|(apply J.Fg.mk; k_is; apply L2.Wi<;>k_is)|(apply J.Fm.mk; (apply L2.Ri.mk<;>k_is); apply L2.Wi<;>k_is)|(apply J.Fi.mk; (apply L2.Mk.mk<;>k_is); apply L2.Wi<;>k_is)|(refine' ⟨?_,?_,?_,?_⟩<;>k_is)|k_is|decide +kernel
