import PyProof.Rows.All
import Wide.All
import OpenK.AllK
import Wide.FinOn
import Lean
import PyProof.EqAt
import PyProof.EqKinds
import PyProof.TupleCall
import PyProof.Rows.CatFin
import PyProof.StrLawsIn
import KE.IntTextLaws
import KE.IntTextText
import PyProof.StrLawsTight
import PyProof.StrLawsChain
import PyProof.Rows.StrLawsPart
import PyProof.Rows.StrFirst
import PyProof.Rows.ReprOcc
import PyProof.Rows.StrItems
import PyProof.SumAny
import PyProof.SeqI3
import PyProof.WalkInts
import PyProof.NeKinds
import KE.KDictLaws
import PyProof.DictIter
import PyProof.DictWalks
import PyProof.Rows.DictUnroll
import KE.KSortTup
import KE.KSortKey
import KE.KDictSum
import PyProof.Rows.SortRuns
import PySem.Challenge.RW_jumpfield_k62_whole_change_of_rule
set_option compiler.extract_closed false
set_option bootstrap.genMatcherCode false
set_option Elab.async false
set_option linter.all false
set_option genSizeOfSpec false
set_option maxRecDepth 100000
set_option maxHeartbeats 8000000
open Option renaming some->n8,none->n9
open Bool renaming true->o0,false->o3
theorem Z{α:Sort u}{a:α}:a=a:=rfl
abbrev A_:=List (PySem.Addr×PySem.Obj)
abbrev B_:=PySem.Value->PySem.Shared->Prop
abbrev C_:=PySem.Str->Option PySem.Value
abbrev D_:=Int->Int->Nat
abbrev E_:=PySem.FuncData
abbrev F_:=List PySem.Value
abbrev H_:=List PySem.Addr
abbrev I_:=List Int
abbrev J_:=List Nat
abbrev K_:=List PySem.Str
abbrev L_:=Nat->Nat
abbrev M_:=Array PySem.Value
abbrev N_:=PySem.Program
abbrev O_:=PySem.W.Frag
abbrev P_:=PySem.Shared
abbrev Q_:=PySem.World
abbrev R_:=PySem.Addr
abbrev S_:=PySem.Value
abbrev T_:=PySem.Heap
section
open Lean Syntax Parser
def m9n(a:Array Syntax:=#[]):=Syntax.node .none `null a
def m9k(k:String)(a:Array Syntax):=Syntax.node .none (.str `Lean.Parser.Tactic k) a
def m9m(k:String)(a:Array Syntax):=Syntax.node .none (.str `Lean.Parser.Term k) a
def m9l(k:String)(a:Array Syntax):=m9k "rcasesPatLo" #[m9k "rcasesPatMed" #[m9n #[Syntax.node .none (.str `Lean.Parser.Tactic.rcasesPat k) a]],m9n]
def m9p(s:Syntax):Syntax:=s.rewriteBottomUp fun n=>if n.isIdent then m9l "one" #[n] else if n.isOfKind ``Term.hole then m9l "ignore" #[n[0]] else if n.isOfKind ``Term.tuple then m9l "tuple" #[n[2],m9n (#[n[1][0],n[1][1]]++n[1][2].getArgs),n[2]] else n
def m9a(f:Syntax):=m9n (if f.isOfKind ``Term.app then #[f[0]]++f[1].getArgs else #[f])
def m9h(x y z:Syntax)(t:Array Syntax):=m9k "tacticHave__" #[x,m9m "letConfig" #[m9n],m9m "letDecl" #[m9m "letIdDecl" #[m9m "letId" #[x],m9n,m9n t,y,z]]]
def m9t(r:Syntax):Syntax:=
 let e:=r[1];let x:=e[0];let y:=e[1];let k:=e.getKind.toString false
 if r[0].getNumArgs>0 then m9k "subst" #[r,m9a e] else
 if k=="term_=_" then if x.isIdent then m9h x y e[2] #[] else if x.isOfKind ``Term.tuple then m9k "obtain" #[x,m9n #[(m9p x)[0]],m9n,m9n #[y,m9n #[e[2]]]] else m9h x[1] y e[2] #[m9m "typeSpec" #[x[2],x[3][0]]] else
 if k=="Lean.Parser.Term.typeAscription" then if y.isIdent then Syntax.node .none `«tacticBy_cases_:_» #[x,m9n #[y,e[2]],e[3][0]] else m9k "show" #[x,e[3][0]] else
 if k=="term-_" then m9k "clear" #[x,m9a y] else
 if k=="term!_" then m9k "cases" #[x,m9n #[m9k "elimTarget" #[m9n,y]],m9n,m9n] else
 if k=="term¬_" then m9k "unfold" #[x,m9a y,m9n] else
 if k=="term[_]" then m9k "rwSeq" #[x,m9k "optConfig" #[m9n],m9k "rwRuleSeq" #[x,m9n (y.getArgs.map fun a=>if a.isAtom then a else if a.isOfKind `«term-_» then m9k "rwRule" #[m9n #[a[0]],a[1]] else m9k "rwRule" #[m9n,a]),e[2]],m9n] else
 let a:=m9a e;let x:=mkAtom ""
 if a[0].isOfKind ``Term.syntheticHole then m9k "intro" #[x,m9n (#[a[0][1]]++a.getArgs.drop 1)] else m9k "refine" #[x,e]
end
section
local macro_rules(kind:=Lean.Parser.Tactic.tacticErw___)|s=>`(tactic|($[$(s[2][1].getSepArgs.map fun r=>⟨m9t r⟩):tactic];*))
local macro_rules|`(($a,$b,*))=>`(⟨$a,$b,*⟩)
local macro_rules|`(#[$a,$b])=>`(Prod.mk $a $b)|`(#[$a,$b,$c,*])=>`(Prod.mk $a #[$b,$c,*])
theorem xa{p q g:Prop}(h:p/\q)(k:p->q->g):g:=k h.1 h.2
theorem xe{p:α->Prop}{g:Prop}(h:∃x,p x)(k:∀x,p x->g):g:=h.elim k
theorem xa2{p q r g:Prop}(h:p/\q/\r)(k:p->q->r->g):g:=xa h.2 (k h.1)
theorem xea{p q:α->Prop}{g:Prop}(h:∃x,p x/\q x)(k:∀x,p x->q x->g):g:=h.elim λa h=>xa h (k a)
theorem xe2{p:α->β->Prop}{g:Prop}(h:∃x y,p x y)(k:∀x y,p x y->g):g:=h.elim λa h=>xe h (k a)
theorem xa3{p q r P g:Prop}(h:p/\q/\r/\P)(k:p->q->r->P->g):g:=xa2 h.2 (k h.1)
theorem JC{p g:Prop}{q r:α->Prop}(h:p/\∃x,q x/\r x)(k:p->∀x,q x->r x->g):g:=xea h.2 (k h.1)
theorem AI{p q r:α->Prop}{g:Prop}(h:∃x,p x/\q x/\r x)(k:∀x,p x->q x->r x->g):g:=h.elim λa h=>xa2 h (k a)
theorem BM{p q:α->β->Prop}{g:Prop}(h:∃x y,p x y/\q x y)(k:∀x y,p x y->q x y->g):g:=h.elim λa h=>xea h (k a)
theorem xe3{p:α->β->γ->Prop}{g:Prop}(h:∃x y z,p x y z)(k:∀x y z,p x y z->g):g:=h.elim λa h=>xe2 h (k a)
theorem xa4{p q r P Q g:Prop}(h:p/\q/\r/\P/\Q)(k:p->q->r->P->Q->g):g:=xa3 h.2 (k h.1)
theorem CW{p q g:Prop}{r P:α->Prop}(h:p/\q/\∃x,r x/\P x)(k:p->q->∀x,r x->P x->g):g:=JC h.2 (k h.1)
theorem Od{p g:Prop}{q r:α->β->Prop}(h:p/\∃x y,q x y/\r x y)(k:p->∀x y,q x y->r x y->g):g:=BM h.2 (k h.1)
theorem CP{p q r P:α->Prop}{g:Prop}(h:∃x,p x/\q x/\r x/\P x)(k:∀x,p x->q x->r x->P x->g):g:=h.elim λa h=>xa3 h (k a)
theorem AK{p q r:α->β->Prop}{g:Prop}(h:∃x y,p x y/\q x y/\r x y)(k:∀x y,p x y->q x y->r x y->g):g:=h.elim λa h=>AI h (k a)
theorem xe4{p:α->β->γ->δ->Prop}{g:Prop}(h:∃x y z w,p x y z w)(k:∀x y z w,p x y z w->g):g:=h.elim λa h=>xe3 h (k a)
theorem xa5{p q r P Q R g:Prop}(h:p/\q/\r/\P/\Q/\R)(k:p->q->r->P->Q->R->g):g:=xa4 h.2 (k h.1)
theorem DH{p g:Prop}{q r P:α->β->Prop}(h:p/\∃x y,q x y/\r x y/\P x y)(k:p->∀x y,q x y->r x y->P x y->g):g:=AK h.2 (k h.1)
theorem CG{p q r P:α->β->Prop}{g:Prop}(h:∃x y,p x y/\q x y/\r x y/\P x y)(k:∀x y,p x y->q x y->r x y->P x y->g):g:=h.elim λa h=>CP h (k a)
theorem Dl{p q r:α->β->γ->Prop}{g:Prop}(h:∃x y z,p x y z/\q x y z/\r x y z)(k:∀x y z,p x y z->q x y z->r x y z->g):g:=h.elim λa h=>AK h (k a)
theorem xe5{p:α->β->γ->δ->ε->Prop}{g:Prop}(h:∃x y z w u,p x y z w u)(k:∀x y z w u,p x y z w u->g):g:=h.elim λa h=>xe4 h (k a)
theorem Ci{p q r P Q:α->β->Prop}{g:Prop}(h:∃x y,p x y/\q x y/\r x y/\P x y/\Q x y)(k:∀x y,p x y->q x y->r x y->P x y->Q x y->g):g:=h.elim λa h=>h.elim λb h=>xa4 h (k a b)
theorem Fk{p q r P:α->β->γ->Prop}{g:Prop}(h:∃x y z,p x y z/\q x y z/\r x y z/\P x y z)(k:∀x y z,p x y z->q x y z->r x y z->P x y z->g):g:=h.elim λa h=>CG h (k a)
theorem Ch{p q r P Q:α->β->γ->Prop}{g:Prop}(h:∃x y z,p x y z/\q x y z/\r x y z/\P x y z/\Q x y z)(k:∀x y z,p x y z->q x y z->r x y z->P x y z->Q x y z->g):g:=h.elim λa h=>Ci h (k a)
theorem Cd{p q r P Q:α->β->γ->δ->Prop}{g:Prop}(h:∃x y z w,p x y z w/\q x y z w/\r x y z w/\P x y z w/\Q x y z w)(k:∀x y z w,p x y z w->q x y z w->r x y z w->P x y z w->Q x y z w->g):g:=h.elim λa h=>Ch h (k a)
theorem O_9{α:Sort u}{a:α}{q:Prop}:a=a∨q:=Or.inl Z
theorem R_9{α:Sort u}{β:Sort v}{γ:Sort w}{f:α->β->γ}:∀a b,f a b=f a b:=λ_ _=>Z
theorem S_4{p:Prop}(h:p:=by show 4<=PySem.sizeLine;decide):p:=h
theorem S_0{p:Prop}(h:p:=by show 0<=PySem.sizeLine;decide):p:=h
theorem S_1{p:Prop}(h:p:=by show 1<=PySem.sizeLine;decide):p:=h
theorem S_2{p:Prop}(h:p:=by show 2<=PySem.sizeLine;decide):p:=h
theorem S_3{p:Prop}(h:p:=by show 3<=PySem.sizeLine;decide):p:=h
theorem D_9{p:Prop}(h:p:=by intro _ _ _ _ h;rcases h;subst_vars;rfl):p:=h
theorem A0{p:Prop}(h:p:=by decide +kernel):p:=h
theorem A3{p:Prop}(h:p:=by lia):p:=h
theorem A4{p:Prop}(h:p:=by intro z; cases z):p:=h
theorem A6{p:Prop}(h:p:=by decide):p:=h
theorem B0{p:Prop}(h:p:=by simp):p:=h
theorem B1{p:Prop}(h:p:=by intro _ z; cases z):p:=h
theorem B2{p:Prop}(h:p:=by omega):p:=h
theorem B3{p:Prop}(h:p:=by intro _ _ _ z; cases z):p:=h
theorem B4{p:Prop}(h:p:=by show (0:Int) < 4; decide):p:=h
theorem B5{p:Prop}(h:p:=by show 0 < 1000; decide):p:=h
theorem B6{p:Prop}(h:p:=by show (0:Int) < 8; decide):p:=h
theorem B7{p:Prop}(h:p:=by show (0:Int) < 3; decide):p:=h
theorem B8{p:Prop}(h:p:=by show (0:Int) < 2; decide):p:=h
theorem B9{p:Prop}(h:p:=by show 1 < 1000; decide):p:=h
open List renaming length_map->C0,getElem?_eq_some_iff->C2,getElem?_map->C3,mem_cons->C4,mem_singleton->C5,getElem?_eq_getElem->C7,mem_of_getElem?->D0,length_append->D3,map_append->D4,mem_cons_self->D5,mem_cons_of_mem->D6,getD_eq_getElem?_getD->D9,mem_map->F0,length_cons->F2,not_mem_nil->F7,take_add_one->F9,map_cons->J0,size_toArray->J3,getElem?_of_mem->J6,take_length->J7,length_take->J8,mem_append->J9,getElem?_append_right->L5,getElem?_append_left->M5,mem_append_right->M7,map_map->N5,nodup_cons->N8,mem_range->N9,nodup_iff_pairwise_ne->O2,append_assoc->O3,lookup_cons->O7,getElem_mem->P2,length_range->P3,nodup_nil->Q0,pairwise_map->Q5,nodup_append->Q6,range_succ->Q7,map_eq_nil_iff->Q8,sum_cons->R0,length_replicate->S1,drop_eq_getElem_cons->S3,getElem?_range->S7,length_nil->T0,find?_cons->T1,append_nil->T3,length_singleton->T7,getElem?_eq_none->T8,flatten_cons->U0,all_eq_true->U5,replicate_succ->U8,foldl_cons->U9,findIdx?_eq_some_iff_getElem->V3,take_of_length_le->V7,flatMap_cons->V8,mem_flatMap->W3,cons_append->W4,any_cons->W6,pairwise_append->W7,mem_append_left->W8,nil_append->Y5,mem_filter->Y6,length_pos_iff->Y7,filterMap_cons->Y8,map_nil->Z2,pairwise_iff_getElem->Z8,getElem?_zip_eq_some->Z9,findIdx?_eq_none_iff->X4,getElem?_take_of_lt->K0,mem_reverse->K3,getElem_map->K4,getElem?_replicate->K5,getElem?_cons_succ->K6,countP_cons->K7,any_eq_true->K8,getElem?_set_self->A0a,length_zip->A0e,take_append_drop->A0g,mem_iff_getElem->A1b,pairwise_cons->A1g,getElem?_drop->A1h
open Nat renaming le_refl->C1,le_trans->C9,lt_of_lt_of_le->D8,lt_of_le_of_lt->F3,le_add_right->F5,zero_le->L7,ne_of_lt->L9,le_of_lt->M0,le_of_not_lt->M4,pow_succ->M6,mod_lt->N4,mul_le_mul_left->N7,not_lt_zero->O1,div_add_mod->O5,le_of_lt_succ->O8,zero_add->P0,lt_succ_self->P1,le_add_left->P4,div_eq_of_lt->P6,pow_le_pow_right->P8,add_mul_div_left->P9,succ_le_succ->R3,mod_eq_of_lt->R4,min_le_right->R5,sub_le->R8,add_mul_mod_self_left->S2,le_succ->S4,lt_irrefl->S6,lt_of_succ_le->T9,add_le_add_right->U2,add_le_add->U3,add_le_add_left->U7,sub_add_cancel->V0,sub_self->V4,lt_one_iff->V5,le_succ_of_le->V6,ne_of_gt->Y9,lt_trans->Z0,le_of_eq->Z1,pos_of_ne_zero->Z5,succ_le_of_lt->X5,pow_pos->X6,lt_succ_of_lt->X7,lt_succ_iff_lt_or_eq->X9,lt_of_not_le->K1,add_sub_cancel_left->K2,mul_comm->K9,div_lt_iff_lt_mul->A0f,pow_lt_pow_right->A1a,add_zero->A2a
open PySem.Heap renaming get?_push_of_some->C6,get?_push_size->F4,lt_size->F8,size_push->O9,get?_none_of_le->Q4,get?_update_ne->Q9,get?_update_other->A0c,get?_update_self->A0h
open Array renaming getElem?_eq_getElem->C8,length_toList->F1,getElem?_toList->M8,getElem?_eq_some_iff->N1,toList_push->N3,append_empty->S0,getElem_toList->S5,extract_eq_empty_of_le->T6,toList_extract->U4,size_extract->V2,getElem?_extract->W0,getElem?_eq_none->W1,reverse_reverse->W2,toList_reverse->W9,reverse_append->Y4,getD_eq_getD_getElem?->Z4,perm_iff_toList_perm->Z7,append_push->X8
open Option renaming map_eq_some_iff->D7,toList_some->R7,map_some->A0d
open Bool renaming false_ne_true->F6,false_eq_true->O0,and_eq_true->R6,eq_iff_iff->T5,not_true->A1f,eq_false_iff->A2d
open Int renaming eq_ofNat_of_zero_le->L6,toNat_natCast->M9,natCast_pow->N6,natCast_nonneg->O4,natCast_add->O6,natCast_mul->P5,le_of_eq->P7,emod_lt_of_pos->R9,toNat_of_nonneg->S8,add_sub_cancel->S9,emod_nonneg->T4,zero_add->U6,add_zero->V9,lt_of_not_ge->W5,le_of_lt->Z3,fdiv_eq_ediv_of_nonneg->Z6,pow_succ->A0b,mul_add->A1c,mul_assoc->A1d,add_assoc->A1e,ne_of_gt->A2b,mul_comm->A2c
open PySem renaming wpAny_bind->A2e,wpAny_pure->A3c,boot_len->A5c,wpAny_truthy_bool->A5h,wpAny_mono->A6a,mem_of_lookup->A6c,wpAny_field->A7a,wpAny_call_entry->A7d,wpAny_seqItems->A7e,wpAny_typeNameOfWhole_keyiter->A7h,wpAny_Call_Name_kw->A8a,wpAny_setField_rec->A8b,wpAny_passesOwn->A8c,wpAny_holding->A8e,wpAny_attempt->A8f,wpAny_pyIter_list->A8g,wpAny_newObj_type->A8h,wpAny_rule->A9b,wpAny_typeNameOf_keyiter->A9f,call_meets->A9g,tupleKind_room_in1->A9h,wpAny_dictEntries->B1c,codeAny_mono->B1e,typeIs_str->B1f,wpAny_execs_nil->B1h,wpAny_setField->B2f,wpAny_updateSeq_pair->B2g,wpAny_standAt->B2h,wpAny_onRaise->B3a
open PyProof.Rows renaming wpS_bind->A3b,wpS_pure->A3d,boot_isinstance->A5b,wpS_forRange->A5e,boot_tuple->A5f,wpS_mono->A6d,callWith_type1->A6e,boot_min->A6g,boot_max->A6h,wpS_modify->A7c,boot_int->A7f,boot_str->A7g,wpS_get->B1b
open PySem.Paired renaming length->A3e,snoc->A5d
open Ne renaming symm->A3f
open PySem.PassesOwn renaming never->A3g
open Option.some renaming inj->A3h
open PySem.F renaming plainAttrs_list->A4a,slot_list_append->A4b,type_list_append->A4c,plainAttrs_str->A6b,slot_dict_get->A6f,slot_dict_keyiterator_next->A8d,slot_tuple_iterator_next->A9a,entry_dict_get->A9e,slot_str_join->B0a,type_str_join->B0b,slot_zip_next->B2a,args_str_split_2->B3b
open Int.ofNat renaming inj->A4d
open PySem.W renaming mg_of->A4g,kia_one->A5g,plainGet_of->B1d,callWith_K->B2b
open Classical renaming byContradiction->A4h
open List.Perm renaming refl->B0e
open PySem.Heap.SameBut renaming update->B0f
open PySem.Calls renaming spliced_cons->B0g,callWith_builtin->B1g,evalArgs_plain->B2e
open PySem.Obj renaming data_mapFields->B1a
abbrev A2f:=@if_neg
abbrev A2g:=@decide_eq_true
abbrev A2h:=@if_pos
abbrev A3a:=@decide_eq_false
abbrev A4e:=@congrArg
abbrev A4f:=@of_decide_eq_true
abbrev A5a:=@or_false
abbrev A7b:=@if_false
abbrev A9c:=@not_false_eq_true
abbrev A9d:=@decide_eq_true_eq
abbrev B0c:=@if_true
abbrev B0d:=@not_or
abbrev B0h:=@beq_self_eq_true
abbrev B2c:=@beq_iff_eq
abbrev B2d:=@of_decide_eq_false
open PySem.W (instObj methodObj lookIn plainGet hasDictIn findIn handedIn isFn plainOver takerIn any_some makesIn emptyDict keepIn specialIn takesIn mroIn kitOne kitx_list kitx_dict notCls clsIn)
namespace L2
open PySem PySem.Spec PyProof.Rows
abbrev Key:=Sum Int Str
noncomputable def Rp:Key->Value->Bool
|.inl k,v=>Value.isInt k v
|.inr x,v=>Value.isStrOf x v
noncomputable def keyH(w:Q_):Key->Int
|.inl k=>hashInt k
|.inr x=>hashStr w x
theorem Cw:∀{k:Key}{v:S_},Rp k v=o0->(∃i t,k=Sum.inl i/\v=Value.int i t)\/(∃x t,k=Sum.inr x/\v=Value.str x t)
|.inl i,v,h=>by
 erw[(t,e)=Value.isInt_shape (k:=i) (v:=v) h,.inl (i,t,Z,e)]
|.inr x,v,h=>by
 erw[(t,e)=Value.isStrOf_shape (x:=x) (v:=v) h,.inr (x,t,Z,e)]
theorem Zj(i:Int)(t:Tok):Rp (.inl i) (.int i t)=o0:=by simp[Rp,Value.isInt]
theorem Zi(x:Str)(t:Tok):Rp (.inr x) (.str x t)=o0:=by simp[Rp,Value.isStrOf]
theorem aEm(a b:Int):decide ((Sum.inl a:Key)=Sum.inl b)=(a==b):=by
 erw[(e:a=b)]
 .subst e;simp
 .erw[(h:¬(Sum.inl a:Key)=Sum.inl b)=λq=>e (Sum.inl.inj q),[A3a h],(beq_eq_false_iff_ne.mpr e).symm]
theorem aEp(a b:Str):decide ((Sum.inr a:Key)=Sum.inr b)=decide (a=b):=by
 erw[(e:a=b)]
 .subst e;simp
 .erw[(h:¬(Sum.inr a:Key)=Sum.inr b)=λq=>e (Sum.inr.inj q),[A3a h,A3a e]]
theorem aEn(a:Int)(b:Str):decide ((Sum.inl a:Key)=Sum.inr b)=o3:=A3a (λq=>nomatch q)
theorem aEo(a:Str)(b:Int):decide ((Sum.inr a:Key)=Sum.inl b)=o3:=A3a (λq=>nomatch q)
noncomputable def Cp(prog:N_)(w:Q_):PySem.KeyKind prog w Key where
 is:=Rp
 hash:=keyH w
 inj:=λv a b ha hb=>by
  rcases Cw ha with ⟨i,t,rfl,rfl⟩|⟨x,t,rfl,rfl⟩
  .rcases Cw hb with ⟨j,u,rfl,e⟩|⟨y,u,rfl,e⟩
   .injection e with e1 _;rw[e1]
   .erw[nomatch e]
  .rcases Cw hb with ⟨j,u,rfl,e⟩|⟨y,u,rfl,e⟩
   .erw[nomatch e]
   .injection e with e1 _;rw[e1]
 byValue:=λk v h=>by
  rcases Cw h with ⟨i,t,rfl,rfl⟩|⟨x,t,rfl,rfl⟩<;>rfl
 pyHash:=λhv h=>by
  rcases Cw hv with ⟨i,t,rfl,rfl⟩|⟨x,t,rfl,rfl⟩
  .erw[wpAny_pyHash_int h]
  .erw[wpAny_pyHash_str h]
 eqBool:=λhu hv h=>by
  rcases Cw hu with ⟨i,t,rfl,rfl⟩|⟨x,t,rfl,rfl⟩
  .rcases Cw hv with ⟨j,u,rfl,rfl⟩|⟨y,u,rfl,rfl⟩
   .rw[aEm]at h;erw[wpAny_eqBool_int h]
   .rw[aEn]at h;erw[SeqAt.EqAt.int_str i t y u _ _ _ _ h]
  .rcases Cw hv with ⟨j,u,rfl,rfl⟩|⟨y,u,rfl,rfl⟩
   .rw[aEo]at h;erw[SeqAt.EqAt.str_int x t j u _ _ _ _ h]
   .rw[aEp]at h;erw[wpAny_eqBool_str h]
 «strs»:=λk x t v h=>by
  rcases Cw h with ⟨i,u,rfl,e⟩|⟨y,u,rfl,e⟩
  .erw[nomatch e]
  .injection e with e1 _
   subst e1;cases v<;>rfl
theorem Uq(prog:N_)(w:Q_)(i:Int)(t:Tok):(Cp prog w).is (.inl i) (.int i t)=o0:=Zj i t
theorem Uo(prog:N_)(w:Q_)(x:Str)(t:Tok):(Cp prog w).is (.inr x) (.str x t)=o0:=Zi x t
inductive V where
 |non|bl (b:Bool)|int (i:Int)|str (x:Str)|byt (b:Array UInt8)|flt (b:UInt64)|ref (a:R_)|ty (n:String)
 deriving DecidableEq
def Bc:V->Value->Prop
|.non,u=>u=Value.none
|.bl b,u=>u=Value.bool b
|.int i,u=>∃t,u=Value.int i t
|.str x,u=>∃t,u=Value.str x t
|.byt b,u=>∃t,u=Value.bytes b t
|.flt b,u=>∃t,u=Value.float b t
|.ref a,u=>u=Value.ref a
|.ty n,u=>u=Value.type n
abbrev AT:List V->List Value->Prop:=Paired Bc
theorem AT.length(r:AT xs us):xs.length=us.length:=A3e r
theorem AT.get:∀{xs:List V}{us:F_}{i:Nat}{x:V},AT xs us->xs[i]?=n8 x->∃u,us[i]?=n8 u/\Bc x u
|_,_,_,_,.nil,e=>by simp at e
|_,_,0,_,.cons r _,e=>by simp at e;subst e;exact(_,Z,r)
|_,_,i+1,x,.cons _ t,e=>by
 erw[xea (AT.get (i:=i) (x:=x) t (by simpa using e)) λu a b=>(u,by simpa using a,b)]
theorem AT.set(r:Bc x u):∀{xs:List V}{us:F_}(i:Nat),AT xs us->AT (xs.set i x) (us.set i u)
|_,_,_,.nil=>.nil
|_,_,0,.cons _ t=>.cons r t
|_,_,i+1,.cons q t=>.cons q (AT.set r i t)
theorem AT.append:∀{xs ys:List V}{us a:F_},AT xs us->AT ys a->AT (xs++ys) (us++a)
|_,_,_,_,.nil,s=>s
|_,_,_,_,.cons r t,s=>.cons r (AT.append t s)
theorem AT.take:∀{xs:List V}{us:F_}(n:Nat),AT xs us->AT (xs.take n) (us.take n)
|_,_,0,_=>.nil
|_,_,_+1,.nil=>.nil
|_,_,n+1,.cons r t=>.cons r (AT.take n t)
theorem AT.drop:∀{xs:List V}{us:F_}(n:Nat),AT xs us->AT (xs.drop n) (us.drop n)
|_,_,0,r=>r
|_,_,_+1,.nil=>.nil
|_,_,n+1,.cons _ t=>AT.drop n t
theorem AT.none_of:∀{xs:List V}{us:F_}{i:Nat},AT xs us->xs[i]?=n9->us[i]?=n9:=λ{xs us i} r e=>by
 erw[a=r.length,b=List.getElem?_eq_none_iff.mp e,List.getElem?_eq_none_iff.mpr A3]
def JF:Option V->Option Value->Prop
|some v,n8 u=>Bc v u
|none,n9=>True
|_,_=>False
def KV{κ:Type}:List (κ×V)->List (κ×Value)->Prop:=Paired λ(p:κ×V)(q:κ×Value)=>p.1=q.1/\Bc p.2 q.2
noncomputable def kV:Key->V
|.inl i=>.int i
|.inr x=>.str x
inductive HO where
|lst (xs:List V)
|tup (xs:List V)
|dK (kvs:List (Key×V))|dT (kvs:List (List Key×V))
|set (S:Int->Bool) (n:Nat)
|ins (C dx:R_) (fs:List (Str×V))
|own (x:R_)
|xd (fs:List (Str×V))
|met (f x:R_)
|rng (lo hi:Int)
|frz (o:Obj) (u:HO)
|tbl (ps:M_)
|ext (φ:Heap->Prop)
abbrev Hp:=Addr->Option HO
noncomputable def upd(H:Hp)(a:R_)(o:HO):Hp:=λb=>if b=a then n8 o else H b
theorem Af:upd H a o a=n8 o:=by unfold upd;rw[A2h rfl]
theorem Aq{H:Hp}{a b:R_}{o:HO}(h:b≠a):upd H a o b=H b:=by unfold upd;rw[A2f h]
theorem FK:upd (upd H a o) a u=upd H a u:=by
 funext b;unfold upd;split<;>rfl
theorem AC{H:Hp}{a b:R_}{o u:HO}(h:H a=n8 o)(h':H b=n8 u)(d:o≠u):a≠b:=by
 erw[?e,<-e];rw[h]at h';erw[d (A3h h')]
theorem Am{H:Hp}{a b:R_}{o:HO}(h:H a=n8 o)(h':H b=n9):a≠b:=by
 erw[?e,<-e];rw[h]at h';cases h'
section
variable(P:N_)(w:Q_)
def BU(H:Hp)(h:T_)(a:R_):HO->Prop
|.lst xs=>xs.length<=sizeLine/\∃(its:F_)(n:Nat),AT xs its/\h.get? a=n8 {cls:=.type "list",data:=.seq its.toArray n}
|.tup xs=>xs.length<=sizeLine/\∃its:List Value,AT xs its/\IsTup h a its.toArray
|.dK kvs=>kvs.length<=sizeLine/\(a==sysModules)=o3/\∃vs,KV kvs vs/\h.DictOf (Cp P w) a vs
|.dT kvs=>kvs.length<=sizeLine/\(a==sysModules)=o3/\∃xs:List (List Key×Addr×Value),
  Paired (λ(p:List Key×V)(q:List Key×Addr×Value)=>p.1=q.1/\H q.2.1=n8 (.tup (p.1.map kV))/\Bc p.2 q.2.2) kvs xs /\
  ∃o es ep,h.get? a=n8 o/\o.ExactDict/\o.data=.dict es ep/\es.toList=xs.map (entryOfKey (tupleKind (Cp P w)))/\(xs.map (·.1)).Nodup
|.set S n=>h.SetOf (intKind P w) a S n
|.ins C dx fs=>H dx=n8 (.own a)/\fs.length<=1000/\dx≠a/\h.get? a=n8 (instObj C dx) /\
  ∃mA,h.Ns1 dx mA/\(∀f,JF (fs.lookup f) (mA f))/\PySem.Within mA (fs.map (·.1))
|.own _=>∃o,h.get? a=n8 o
|.xd fs=>∃mA,h.Ns1 a mA/\∀f,JF (fs.lookup f) (mA f)
|.rng lo hi=>∃t u v,h.get? a=n8 {cls:=.type "range",data:=.fields [.int lo t,.int hi u,.int 1 v].toArray}
|.frz o u=>h.get? a=n8 o/\BU H h a u
|.tbl ps=>h.get? a=n8 {cls:=.none,data:=.fields ps}
|.met f x=>h.get? a=n8 (methodObj (.ref f) (.ref x))
|.ext φ=>φ h/\(∃o,h.get? a=n8 o)/\∀h1 h2:Heap,φ h1->(∀o,h1.get? a=n8 o->h2.get? a=n8 o)->φ h2
def HOk(H:Hp)(h:T_):Prop:=∀a o,H a=n8 o->BU P w H h a o
end
section
variable{P:N_}{w:Q_}{H H':Hp}{h h':T_}{a:R_}{o:HO}
theorem BU.lt(x:BU P w H h a o):a<h.objs.size:=by
 cases o with
 |lst xs=>erw[Od x λ_ _ _ _ e=>F8 e]
 |tup xs=>erw[JC x λ_ _ _ p=>p.lt]
 |dK kvs=>erw[CW x λ_ _ _ _ b=>xe3 b λo _ _ c=>xa c λe _=>F8 e]
 |dT kvs=>erw[CW x λ_ _ _ _ b=>xe3 b λo _ _ c=>xa c λe _=>F8 e]
 |set S n=>erw[xe4 x λo _ _ _ b=>xa b λe _=>F8 e]
 |ins C d fs=>erw[xa4 x λ_ _ _ e _=>F8 e]
 |own y=>erw[(_,e)=x,F8 e]
 |xd fs=>erw[(_,(_,_,_,e,_),_)=x,F8 e]
 |rng lo hi=>erw[(_,_,_,e)=x,F8 e]
 |frz g u=>erw[(e,_)=x,F8 e]
 |tbl i=>erw[F8 (show h.get? a=n8 _ from x)]
 |met f y=>erw[F8 (show h.get? a=n8 _ from x)]
 |ext φ=>erw[(_,(_,e),_)=x,F8 e]
theorem Paired.mapP{α β:Type}{F G:α->β->Prop}:∀{c:List α}{d:List β},Paired F c d->(∀a b,F a b->G a b)->Paired G c d
|_,_,.nil,_=>.nil
|_,_,.cons r t,f=>.cons (f _ _ r) (Paired.mapP t f)
theorem BU.stay(x:BU P w H h a o)(k:∀b u,(b=a\/H b=n8 (.own a))->h.get? b=n8 u->h'.get? b=n8 u)
  (E:∀b,H b=n8 (.own a)->H' b=n8 (.own a)) (F:∀b xs,H b=n8 (.tup xs)->H' b=n8 (.tup xs)):BU P w H' h' a o:=by
 induction o with
 |lst xs=>erw[Od x λz m n r e=>(z,m,n,r,k _ _ (.inl Z) e)]
 |tup xs=>erw[(z,m,r,i,e,c)=x,(z,m,r,i,k _ _ (.inl Z) e,c)]
 |dK kvs=>erw[CW x λz y vs r g=>xe3 g λi l j s=>xa s λe c=>(z,y,vs,r,i,l,j,k _ _ (.inl Z) e,c)]
 |dT kvs =>
  erw[CW x λz y xs r g=>xe3 g λi l j s=>xa s λe c=>(z,y,xs,Paired.mapP r λp q z=>(z.1,F _ _ z.2.1,z.2.2),i,l,j,k _ _ (.inl Z) e,c)]
 |set S n=>erw[xe4 x λi l j t g=>xa g λe c=>(i,l,j,t,k _ _ (.inl Z) e,c)]
 |ins C K fs =>
  erw[(d,z,ne,e,A,(B,l,j,D,c),r)=x,(E _ d,z,ne,k _ _ (.inl Z) e,A,(B,l,j,k _ _ (.inr d) D,c),r)]
 |own y=>erw[(i,e)=x,(i,k _ _ (.inl Z) e)]
 |xd fs=>erw[(A,(B,l,j,e,c),r)=x,(A,(B,l,j,k _ _ (.inl Z) e,c),r)]
 |rng lo hi=>erw[(t,u,v,e)=x,(t,u,v,k _ _ (.inl Z) e)]
 |frz i u G=>erw[(e,q)=x,(k _ _ (.inl Z) e,G q)]
 |tbl I =>
  erw[e=x,(_:h'.get? a=n8 {cls:=.none,data:=.fields I}),k a _ (.inl Z) e]
 |met f y =>
  erw[e=x,(_:h'.get? a=n8 (methodObj (.ref f) (.ref y))),k a _ (.inl Z) e]
 |ext φ=>erw[(p,(o,e),st)=x,(st _ _ p λo q=>k _ _ (.inl Z) q,(o,k _ _ (.inl Z) e),st)]
theorem HOk.lt(x:HOk P w H h)(e:H a=n8 o):a<h.objs.size:=(x a o e).lt
theorem HOk.fresh(x:HOk P w H h)(e:h.objs.size<=a):H a=n9:=by
 cases q:H a with
 |none=>rfl
 |some u=>erw[absurd (D8 (x.lt q) e) (S6 _)]
theorem HOk.kept(x:HOk P w H h)(k:∀b u,h.get? b=n8 u->h'.get? b=n8 u):HOk P w H h':=λa o e =>
 (x a o e).stay (λb u _ q=>k b u q) (λ_ q=>q) λ_ _ q=>q
theorem HOk.laid(x:HOk P w H h)(k:∀b u,h.get? b=n8 u->h'.get? b=n8 u)(g:h.objs.size<=a)(new:BU P w (upd H a o) h' a o):HOk P w (upd H a o) h':=λb u e=>by
 erw[f=x.fresh g,(d:b=a)]
 .subst d;rw[Af]at e;erw[!e,new]
 .rw[Aq d]at e;exact(x b u e).stay (λc v _ q=>k c v q) (λc q=>by erw[[Aq (Am q f)],q]) λc xs q=>by erw[[Aq (Am q f)],q]
end
def Rd(H:Hp)(a:R_)(u:HO):Prop:=H a=n8 u\/∃o,H a=n8 (.frz o u)
theorem Rd.ok{P:N_}{w:Q_}{H:Hp}{h:T_}{a:R_}{u:HO}(r:Rd H a u)(x:HOk P w H h):BU P w H h a u:=by
 rcases r with r|⟨o,r⟩
 .erw[x a u r]
 .erw[(_,q)=x a _ r,q]
def Mut:Option HO->Prop
|some (.lst _)=>True
|some (.dK _)=>True
|some (.dT _)=>True
|some (.set _ _)=>True
|some (.ins _ _ _)=>True
|some (.ext _)=>True
|_=>False
section
variable{P:N_}{w:Q_}{H:Hp}{h h':T_}{x e:R_}{o':HO}
theorem HOk.write(ok:HOk P w H h)(j:Mut (H x))(m:e=x\/H e=n8 (.own x))(k:∀b u,b≠e->h.get? b=n8 u->h'.get? b=n8 u)(l:∃u,h'.get? e=n8 u)
  (new:BU P w (upd H x o') h' x o'):HOk P w (upd H x o') h':=λb u q=>by
 have d:∀c y,H c=n8 (.own y)->c≠x:=λc y r z=>by subst z;rw[r]at j;erw[j]
 have f:∀c xs,H c=n8 (.tup xs)->c≠x:=λc xs r z=>by subst z;rw[r]at j;erw[j]
 erw[(g:b=x)]
 .subst g;rw[Af]at q;erw[!q,new]
 .rw[Aq g]at q;erw[(a:b=e)]
  .have n:H b=n8 (.own x):=by
    rcases m with z|z
    .erw[absurd (a.trans z) g]
    .erw[[a],z]
   rw[q]at n;erw[!n,(v,o)=l,(v,by erw[[a],o])]
  .erw[(ok b u q).stay (λc v i r=>k c v ?_ r) (λc r=>by erw[[Aq (d c b r)],r]) λc xs r=>by erw[[Aq (f c xs r)],r]]
   rcases i with rfl|i
   .erw[a]
   .rintro rfl;rcases m with z|z
    .erw[d c b i z]
    .rw[i]at z;erw[!z,g Z]
end
structure Un(fs ex:H_)(H H':Hp)(h h':T_):Prop where
keep:∀b o,h.get? b=n8 o->H b=n9->b∉fs->b∉ex->h'.get? b=n8 o
slot:∀b o,h.get? b=n8 o->H b=n9->b∈fs->b∉ex->∃sl,h'.get? b=n8 {o with slots:=sl}
free:∀b o,h.get? b=n8 o->H b=n9->b∉ex->H' b=n9
there:∀b o,h.get? b=n8 o->b∉ex->∃o',h'.get? b=n8 o'
tups:∀b xs,H b=n8 (.tup xs)->H' b=n8 (.tup xs)
frzs:∀b o u,H b=n8 (.frz o u)->H' b=n8 (.frz o u)
tbls:∀b ps,H b=n8 (.tbl ps)->∃more,H' b=n8 (.tbl (ps++more))
section
variable{fs fs' ex ex':H_}{H H1 H2:Hp}{h h1 h2 h':T_}{a x e:R_}{o:HO}
theorem Un.any(u:Un fs ex H H1 h h1){c:Obj}(q:h.get? b=n8 c)(n:H b=n9)(f:b∉ex):∃g,h1.get? b=n8 {c with slots:=g}:=by
 erw[(d:b∈fs)]
 .erw[u.slot b c q n d f]
 .exact(c.slots,u.keep b c q n d f)
theorem Un.kept(k:∀b u,h.get? b=n8 u->h'.get? b=n8 u):Un fs ex H H h h' :=
 (λb c q _ _ _=>k b c q,λb c q _ _ _=>(c.slots,k b c q),λ_ _ _ n _=>n,λb c q _=>(c,k b c q),λ_ _ q=>q,λ_ _ _ q=>q,λ_ d q=>(#[],by rw[q];simp))
theorem Un.refl:Un fs ex H H h h:=Un.kept λ_ _ q=>q
theorem Un.laid(k:∀b u,h.get? b=n8 u->h'.get? b=n8 u)(d:h.objs.size<=a)(c:H a=n9):Un fs ex H (upd H a o) h h' where
 keep:=λb u q _ _ _=>k b u q
 slot:=λb u q _ _ _=>(u.slots,k b u q)
 free:=λb u q n _=>by rw[Aq (L9 (D8 (F8 q) d))];exact n
 there:=λb u q _=>(u,k b u q)
 tups:=λb xs q=>by rw[Aq (Am q c)];exact q
 frzs:=λb u xs q=>by rw[Aq (Am q c)];exact q
 tbls:=λb f q=>(#[],by rw[Aq (Am q c),q];simp)
theorem Un.write(d:Mut (H x))(l:e=x\/H e=n8 (.own x))(k:∀b u,b≠e->h.get? b=n8 u->h'.get? b=n8 u)(f:∃u,h'.get? e=n8 u):Un fs ex H (upd H x o) h h':=by
 have j:∀b,H b=n9->b≠x:=λb n z=>by subst z;rw[n]at d;erw[d]
 have i:∀b,H b=n9->b≠e:=λb n z=>by
  subst z;rcases l with r|r
  .erw[j b n r]
  .rw[n]at r;cases r
 have g:∀b u,H b=n8 u->¬Mut (n8 u)->b≠x:=λb u q nm z=>by subst z;rw[q]at d;erw[nm d]
 erw[(λb u q n _ _=>k b u (i b n) q,λb u q n _ _=>(u.slots,k b u (i b n) q),λb u q n _=>by erw[[Aq (j b n)],n],λb u q _=>?_, λb xs q=>by erw[[Aq (g b _ q λz=>z)],q],λb u xs q=>by erw[[Aq (g b _ q λz=>z)],q],λb m q=>(#[],by rw[Aq (g b _ q λz=>z),q];simp))]
 erw[(c:b=e)]
 .erw[<-c,f]
 .exact(u,k b u c q)
end
noncomputable def trk(h:T_)(H:Hp):List Addr:=(List.range h.objs.size).filter λa=>(H a).isSome
noncomputable def SO(h:T_)(H:Hp):Heap:=W.hideAll h (trk h H)
theorem Zm(h:T_)(H:Hp):(SO h H).objs.size=h.objs.size:=W.hideAll_size _ _
theorem aBH(e:h.get? b=n8 o)(n:H b=n9):(SO h H).get? b=n8 o :=
 W.hideAll_get _ e λa=>by
  erw[q=(Y6.mp a).2];rw[n]at q;simp at q
theorem aCr(e:(SO h H).get? b=n8 o):h.get? b=n8 o/\H b=n9:=by
 erw[a=W.of_hideAll (trk h H) e,(a,?_)];cases q:H b with
 |none=>rfl
 |some x =>
  erw[(c:b∈trk h H)=Y6.mpr (N9.mpr (F8 a),by simp[q]),(z:(SO h H).get? b=n9)=W.hideAll_none (trk h H) c];rw[z]at e;cases e
structure Mod(K:O_)(mg:C_)(n6:T_):Prop where
kin:K.In n6
glob:n6.Ns mainGlobals mg
blt:∃mb,n6.Ns builtinsNs mb/\∀x:Str,x≠"__name__" -> mb x=bootBuiltins x
nolimit:n6.NoLimit
structure Cx where
prog:Program
w:World
K:W.Frag
mg:Str->Option Value
n6:Heap
A:Around
N:List Str
s₀:Shared
H₀:Hp
env:Env
outer:List Env
stack:List Env
ex:List Addr
fn:Str->Bool
calm:Bool
pn:List (Addr×Obj)
xe:Value->Shared->Prop
noncomputable def frs(l:List Env):List Addr:=l.filterMap (·.frame)
noncomputable abbrev Cx.fs(X:Cx):List Addr:=frs X.outer
def Vis(sc:Scope)(x:Str):Prop:=sc.names.lookup x=n8 .local\/sc.names.lookup x=n8 .cell\/sc.names.lookup x=n8 .free
def Loc(sc:Scope)(x:Str):Prop:=sc.names.lookup x=n8 .local\/sc.names.lookup x=n8 .cell
def Look(env:Env)(h:T_)(m:C_)(x:Str)(u:S_):Prop :=
 (env.kindOf x=n8 .local/\m x=n8 u)\/((env.kindOf x=n8 .cell\/env.kindOf x=n8 .free)/\∃c,env.cells.lookup x=n8 c/\h.IsCell c (n8 u))
structure Cx.Ok(X:Cx):Prop where
mod:Mod X.K X.mg X.n6
kind:X.env.scope.kind=.function
glob:X.env.globals=mainGlobals
blt:X.env.builtins=builtinsNs
above:X.s₀.heap.objs.size<=X.env.locals
inj:∀x y c,X.env.cells.lookup x=n8 c->X.env.cells.lookup y=n8 c->x=y
has:∀x,(X.env.kindOf x=n8 .cell\/X.env.kindOf x=n8 .free)->∃c,X.env.cells.lookup x=n8 c
cab:∀x c,X.fn x=o0->X.env.cells.lookup x=n8 c->X.s₀.heap.objs.size<=c
hd:X.calm=o0->X.A.handled=n9
frames:X.A.frames=n8 X.stack
stk:X.stack=X.outer\/(X.stack=X.env::X.outer/\X.env.frame=n8 X.env.locals)
exf:∀b∈X.ex,b≠X.env.locals/\∀x c,X.env.cells.lookup x=n8 c->c≠b
bs:∀b o,X.n6.get? b=n8 o->X.s₀.heap.get? b=n8 o/\X.H₀ b=n9
bsz:X.n6.objs.size<=X.s₀.heap.objs.size
noex:∀b o,X.n6.get? b=n8 o->b∉X.ex
exfs:∀b∈X.ex,b∉X.fs
funs:X.s₀.heap.FunFrames X.n6 X.outer
frf:∀b∈X.fs,X.H₀ b=n9
structure Inv(X:Cx)(n7:A_)(σ:List (Option V))(H:Hp)(s:P_):Prop where
ok:X.Ok
os:s.os=X.s₀.os
bare:AllBare s.gens
n6:Un X.fs X.ex X.H₀ H X.s₀.heap s.heap
loc:∃m,s.heap.Ns X.env.locals m/\∀(i:Nat)(x:Str)(v:V),X.N[i]?=n8 x->σ[i]?=n8 (n8 v)->Vis X.env.scope x->∃u,Bc v u/\Look X.env s.heap m x u
cell:∀x c,X.env.cells.lookup x=n8 c->∃v,s.heap.IsCell c v
free:H X.env.locals=n9
freeC:∀x c,X.env.cells.lookup x=n8 c->H c=n9
pin:∀p∈X.pn++n7,s.heap.get? p.1=n8 p.2/\H p.1=n9/\p.1≠X.env.locals/\p.1∉X.fs/\∀v,p.2.data≠.cell v
hok:HOk X.prog X.w H s.heap
len:σ.length=X.N.length
section
variable{X:Cx}{n7:A_}{σ:List (Option V)}{H H':Hp}{s:P_}{h':T_}
theorem Cx.Ok.nofr(ok:X.Ok)(e:X.n6.get? b=n8 o):b∉X.fs:=λa=>by
 have:=(ok.funs.mem a).1;rw[e]at this;cases this
theorem Inv.bs(I:Inv X n7 σ H s):∀b o,X.n6.get? b=n8 o->s.heap.get? b=n8 o/\H b=n9:=λb o e =>
 (I.n6.keep b o (I.ok.bs b o e).1 (I.ok.bs b o e).2 (I.ok.nofr e) (I.ok.noex b o e),I.n6.free b o (I.ok.bs b o e).1 (I.ok.bs b o e).2 (I.ok.noex b o e))
theorem Inv.bk(I:Inv X n7 σ H s):∀b o,X.n6.get? b=n8 o->s.heap.get? b=n8 o:=λb o e=>(I.bs b o e).1
theorem Inv.mod(I:Inv X n7 σ H s):Mod X.K X.mg X.n6:=I.ok.mod
theorem Inv.kIn(I:Inv X n7 σ H s):X.K.In s.heap:=I.ok.mod.kin.keeps I.bk
theorem Inv.lt(I:Inv X n7 σ H s):X.env.locals<s.heap.objs.size:=let ⟨_,hn,_⟩:=I.loc;hn.lt
theorem Inv.sz(I:Inv X n7 σ H s):X.s₀.heap.objs.size<=s.heap.objs.size:=C9 I.ok.above (M0 I.lt)
theorem Inv.nofs(I:Inv X n7 σ H s)(h:s.heap.objs.size<=a):a∉X.fs:=λb=>by
 erw[JC (I.ok.funs.mem b) λ_ o c _=>absurd (D8 (F8 c) (C9 I.sz h)) (S6 _)]
theorem Inv.cne(I:Inv X n7 σ H s):∀x c,X.env.cells.lookup x=n8 c->c≠X.env.locals:=λx c e z=>by
 erw[BM (I.cell x c e) λv o f d=>?_,(m,(i,h,g,b,a,_),_)=I.loc];rw[z,b]at f;cases f;rw[a]at d;cases d
theorem Inv.funs (I:Inv X n7 σ H s):s.heap.FunFrames X.n6 X.outer:=by
 have all:∀(l:List Env),(∀b∈frs l,b∈X.fs)->X.s₀.heap.FunFrames X.n6 l->s.heap.FunFrames X.n6 l:=by
  intro l;induction l with
  |nil=>intro _ _;trivial
  |cons env r m =>
   erw[?d h,(g,(L,o,c,i,j,f),k)=h,hL=d L (by erw[¬frs,[Y8,c],D5]),(n,e)=I.n6.slot L o j (I.ok.frf L hL) hL λz=>I.ok.exfs L z hL,(g,(L,_,c,i,e,f),m (λb a=>d b (by erw[¬frs,[Y8,c],D6 _ a])) k)]
 erw[all X.outer (λ_ a=>a) I.ok.funs]
theorem Inv.stack(I:Inv X n7 σ H s):s.heap.FunFrames X.n6 X.stack:=by
 rcases I.ok.stk with e|⟨e,a⟩
 .erw[[e],I.funs]
 .erw[[e],xea I.loc λm b _=>.cons (by rw[I.ok.kind];decide) a b ?_ I.funs,Q4 (C9 I.ok.bsz I.ok.above)]
theorem Inv.stkSub(I:Inv X n7 σ H s):∀b∈frs X.stack,b∈X.env.locals::X.fs:=λb a=>by
 rcases I.ok.stk with e|⟨e,c⟩
 .rw[e]at a;erw[D6 _ a]
 .rw[e]at a;unfold frs at a;rw[Y8,c]at a;erw[a]
theorem Inv.stkFree(I:Inv X n7 σ H s):∀b∈frs X.stack,H b=n9:=λb a=>by
 rcases C4.mp (I.stkSub b a)with e|a
 .erw[[e],I.free]
 .erw[JC (I.ok.funs.mem a) λ_ o c _=>I.n6.free b o c (I.ok.frf b a) λz=>I.ok.exfs b z a]
theorem Inv.step{g':Array GenState}{t':Nat}{d':Drawn}{ch:H_}(I:Inv X n7 σ H s)
  (h:∀b∈ch,(b∈X.ex\/X.s₀.heap.objs.size<=b)/\b≠X.env.locals/\(∀x c,X.env.cells.lookup x=n8 c->c≠b)/\∀p∈X.pn++n7,p.1≠b)
  (keep:∀b o,b≠X.env.locals->b∉X.fs->b∉ch->s.heap.get? b=n8 o->H b=n9->h'.get? b=n8 o)
  (t:∀b o,b≠X.env.locals->b∈X.fs->b∉ch->s.heap.get? b=n8 o->H b=n9->∃Q,h'.get? b=n8 {o with slots:=Q}) (a:∀b o,b∉ch->s.heap.get? b=n8 o->H b=n9->H' b=n9)
  (there:∀b o,b∉ch->s.heap.get? b=n8 o->∃M,h'.get? b=n8 M)
  (D:∀b xs,H b=n8 (.tup xs)->H' b=n8 (.tup xs)) (B:∀b o u,H b=n8 (.frz o u)->H' b=n8 (.frz o u)) (C:∀b N,H b=n8 (.tbl N)->∃K,H' b=n8 (.tbl (N++K)))
  (ns:∀m,s.heap.Ns X.env.locals m->h'.Ns X.env.locals m) (P:HOk X.prog X.w H' h') (W:AllBare g') :
  Inv X n7 σ H' {s with heap:=h',gens:=g',drawn:=d',toks:=t'}:=by
 have L:∀b o,X.s₀.heap.get? b=n8 o->b≠X.env.locals:=λb o e=>L9 (D8 (F8 e) I.ok.above);have A:∀b o,X.s₀.heap.get? b=n8 o->b∉X.ex->b∉ch:=λb o e f E=>by
  rcases(h b E).1 with z|z
  .erw[f z]
  .erw[absurd (D8 (F8 e) z) (S6 _)]
 have g:∀x c,X.env.cells.lookup x=n8 c->∀v,s.heap.IsCell c v->h'.IsCell c v:=λx c e v ⟨o,F,O⟩=>by
  erw[(j:c∉ch)=λz=>(h c z).2.2.1 x c e Z,(S:c∈X.fs)]
  .erw[(Q,q)=t c o (I.cne x c e) S j F (I.freeC x c e),(_,q,O)]
  .exact(o,keep c o (I.cne x c e) S j F (I.freeC x c e),O)
 erw[(I.ok,I.os,W,(λb o e n E f=>?_,λb o e n E f=>?_,λb o e n f=>?_,λb o e f=>?_,λb xs e=>D b xs (I.n6.tups b xs e),λb o xs e=>B b o xs (I.n6.frzs b o xs e),λb N e=>?_),?_,λx c e=>?_,?_,λx c e=>?_,λp T=>?_,P,I.len)]
 .erw[keep b o (L b o e) E (A b o e f) (I.n6.keep b o e n E f) (I.n6.free b o e n f)]
 .erw[(Q,y)=I.n6.slot b o e n E f,(R,G)=t b _ (L b o e) E (A b o e f) y (I.n6.free b o e n f),(R,G)]
 .erw[(M,y)=I.n6.there b o e f,a b M (A b o e f) y (I.n6.free b o e n f)]
 .erw[(M,y)=I.n6.there b o e f,there b M (A b o e f) y]
 .erw[(m1,y)=I.n6.tbls b N e,(m2,G)=C b _ y,(m1++m2,by rw[G,Array.append_assoc])]
 .erw[xea I.loc λm hn Y=>(m,ns m hn,λi x v y G V=>?_)]
  erw[xea (Y i x v y G V) λu r l=>(u,r,?_)]
  rcases l with l|⟨k,c,e,z⟩
  .erw[.inl l]
  .erw[.inr (k,c,e,g x c e _ z)]
 .erw[(v,z)=I.cell x c e,(v,g x c e v z)]
 .erw[(m,(o,_,_,F,_),_)=I.loc,a _ o (λz=>(h _ z).2.1 Z) F I.free]
 .erw[BM (I.cell x c e) λv o F O=>a c o (λz=>(h c z).2.2.1 x c e Z) F (I.freeC x c e)]
 .erw[xa4 (I.pin p T) λe n ne U d=>?_,(j:p.1∉ch)=λz=>(h p.1 z).2.2.2 p T Z,(keep p.1 p.2 ne U j e n,a p.1 p.2 j e n,ne,U,d)]
theorem Inv.un{t':Nat}(I:Inv X n7 σ H s)(u:Un X.fs [] H H' s.heap h')(g:HOk X.prog X.w H' h'):Inv X n7 σ H' {s with heap:=h',toks:=t'}:=by
 obtain⟨m,⟨o,p,l,i,r⟩,_⟩:=id I.loc;obtain⟨v,hL⟩:=u.any i I.free B0;exact I.step (g':=s.gens) (d':=s.drawn) (ch:=[]) (λ_ z=>nomatch z) (λb o _ f _ e n=>u.keep b o e n f B0) (λb o _ f _ e n=>u.slot b o e n f B0) (λb o _ e n=>u.free b o e n B0) (λb o _ e=>u.there b o e B0) u.tups u.frzs u.tbls (λq j=>by
  refine xe3 j λt d c h=>xa h λa k=>?_;rw[i]at a;cases a;exact(_,d,c,hL,k)) g I.bare
theorem Inv.call{g':Array GenState}{t':Nat}{d':Drawn}{ch:H_}(I:Inv X n7 σ H s)(u:Un (frs X.stack) ch H H' s.heap h')(i:HOk X.prog X.w H' h')(q:AllBare g')
  (d:∀b∈ch,(b∈X.ex\/X.s₀.heap.objs.size<=b)/\b≠X.env.locals/\(∀x c,X.env.cells.lookup x=n8 c->c≠b)/\∀p∈X.pn++n7,p.1≠b) :
  Inv X n7 σ H' {s with heap:=h',gens:=g',drawn:=d',toks:=t'}:=by
 obtain⟨m,⟨o,A,y,k,r⟩,_⟩:=id I.loc;obtain⟨D,hL⟩:=u.any k I.free λz=>(d _ z).2.1 Z;exact I.step (ch:=ch) d (λb o hL l a e n=>u.keep b o e n (λz=>(C4.mp (I.stkSub b z)).elim hL l) a) (λb o _ _ a e n=>u.any e n a) (λb o a e n=>u.free b o e n a) (λb o a e=>u.there b o e a) u.tups u.frzs u.tbls (λB t=>by
  refine xe3 t λC h g j=>xa j λf v=>?_;rw[k]at f;cases f;exact(_,h,g,hL,v)) i q
theorem Inv.turned{t':Nat}{it:R_}(I:Inv X n7 σ H s)(k:∀b o,b≠it->s.heap.get? b=n8 o->h'.get? b=n8 o)(y:H it=n9)(hL:it≠X.env.locals)
  (i:it∈X.ex\/X.s₀.heap.objs.size<=it) (j:∀x c,X.env.cells.lookup x=n8 c->c≠it) (l:∀p∈X.pn++n7,p.1≠it):Inv X n7 σ H {s with heap:=h',toks:=t'}:=by
 have d:∀b u,H b=n8 u->b≠it:=λb u e z=>by rw[z,y]at e;cases e
 erw[I.step (g':=s.gens) (d':=s.drawn) (ch:=[it]) (λb t=>?_) (λb o _ _ a e _=>k b o (λz=>a (by simp[z])) e) (λb o _ _ a e _=>(o.slots,k b o (λz=>a (by simp[z])) e)) (λ_ _ _ _ n=>n) (λb o a e=>(o,k b o (λz=>a (by simp[z])) e)) (λ_ _ e=>e) (λ_ _ _ e=>e) (λb B e=>(#[],by rw[e];simp)) (λm w=>?_) (λb u e=>?_) I.bare]
 .have e:b=it:=by simpa using t
  erw[<-e,(i,hL,j,l)]
 .erw[xe3 w λo h g f=>xa f λA r=>(o,h,g,k _ o (A3f hL) A,r)]
 .erw[(I.hok b u e).stay (λc v a q=>k c v ?_ q) (λ_ q=>q) λ_ _ q=>q];rcases a with z|z
  .erw[[z],d b u e]
  .erw[d c _ z]
theorem Inv.tok(I:Inv X n7 σ H s)(t:Nat):Inv X n7 σ H {s with toks:=t}:=I.un (h':=s.heap) (t':=t) Un.refl I.hok
theorem Inv.kept(I:Inv X n7 σ H s)(k:∀b u,s.heap.get? b=n8 u->h'.get? b=n8 u):Inv X n7 σ H {s with heap:=h',toks:=t'}:=I.un (Un.kept k) (I.hok.kept k)
theorem Inv.laid(I:Inv X n7 σ H s)(k:∀b u,s.heap.get? b=n8 u->h'.get? b=n8 u)(c:s.heap.objs.size<=a)(new:BU X.prog X.w (upd H a o) h' a o) :
 Inv X n7 σ (upd H a o) {s with heap:=h',toks:=t'}:=I.un (Un.laid k c (I.hok.fresh c)) (I.hok.laid k c new)
theorem Inv.write(I:Inv X n7 σ H s)(d:Mut (H x))(c:e=x\/H e=n8 (.own x))(k:∀b u,b≠e->s.heap.get? b=n8 u->h'.get? b=n8 u)(a:∃u,h'.get? e=n8 u)
 (new:BU X.prog X.w (upd H x o) h' x o):Inv X n7 σ (upd H x o) {s with heap:=h',toks:=t'}:=I.un (Un.write d c k a) (I.hok.write d c k a new)
theorem Inv.weak(I:Inv X n7 σ H s)(d:σ'.length=σ.length)(w:∀(i:Nat) v,σ'[i]?=n8 (n8 v)->σ[i]?=n8 (n8 v)):Inv X n7 σ' H s :=
 (I.ok,I.os,I.bare,I.n6,let ⟨m,hn,hl'⟩:=I.loc;(m,hn,λi x v a b c=>hl' i x v a (w i v b) c),I.cell,I.free,I.freeC,I.pin,I.hok,d.trans I.len)
theorem Inv.pins_of(I:Inv X n7 σ H s)(h:∀p∈a,s.heap.get? p.1=n8 p.2/\H p.1=n9/\p.1≠X.env.locals/\p.1∉X.fs/\∀v,p.2.data≠.cell v):Inv X a σ H s :=
 (I.ok,I.os,I.bare,I.n6,I.loc,I.cell,I.free,I.freeC,λp b=>(J9.mp b).elim (λz=>I.pin p (W8 _ z)) (h p),I.hok,I.len)
theorem Ud{N:K_}(e:N.Nodup){i j:Nat}{x:Str}(a:N[i]?=n8 x)(b:N[j]?=n8 x):i=j:=by
 erw[(f,c)=C2.mp a,(g,d)=C2.mp b,(List.getElem_inj e).mp (c.trans d.symm)]
theorem Rb{M:Model}{A:Around}{E:B_}{i:Nat}{x:Str}{v:V}{u:S_}{Q:Unit->Shared->Prop}(I:Inv X n7 σ H s)(hN:X.N.Nodup)(hi:X.N[i]?=n8 x)(B:Loc X.env.scope x)(r:Bc v u)
  (h:∀s',Inv X n7 (σ.set i (n8 v)) H s'->(∃a,Heap.SameBut a s.heap s'.heap/\(a=X.env.locals\/X.env.cells.lookup x=n8 a))->Q () s') (hf:X.fn x=o0\/X.env.scope.names.lookup x=n8 .local:=by first|exact .inl rfl|exact .inr rfl|assumption):wpAny M A (storeName X.env x u) Q E s:=by
 erw[xea (id I.loc) λm hn hl=>?_,(S:(X.env.scope.kind==.class || (X.env.scope.kind==.module && X.env.locals != X.env.globals))=o3)=by rw[I.ok.kind];rfl]
 have F:i<σ.length:=by erw[[I.len],(C2.mp hi).1]
 erw[cne=I.cne];have l:∀{a:R_}{h':T_},(∃o,s.heap.get? a=n8 o/\H a=n9)->Heap.SameBut a s.heap h'->HOk X.prog X.w H h':=λ{a h'} ha f b ob e=>by
  erw[xea ha λ_ _ C=>(I.hok b ob e).stay (λc Y t q=>(f.2 c ?_).trans q) (λ_ q=>q) λ_ _ q=>q];rintro rfl;rcases t with rfl|t
  .rw[C]at e;cases e
  .rw[C]at t;cases t
 rcases B with G|G
 .erw[wpAny_storeName_local G hn (λh' aa f=>?_) S,xe3 (id hn) λoL _ _ ac=>xa ac λab _=>h _ (I.ok,I.os,I.bare,(λb o e n K B=>?_,λb o e n K B=>?_,I.n6.free,λb o e B=>?_,I.n6.tups,I.n6.frzs,I.n6.tbls),(_,aa,λj y v' g D e3=>?_),λy c e=>?_,I.free,I.freeC,λp hp=>?_,l (oL,ab,I.free) f,by simpa using I.len) (_,f,.inl Z)]
  .exact(f.2 b (L9 (D8 (F8 e) I.ok.above))).trans (I.n6.keep b o e n K B)
  .erw[(sl,g)=I.n6.slot b o e n K B,(sl,(f.2 b (L9 (D8 (F8 e) I.ok.above))).trans g)]
  .erw[(o',g)=I.n6.there b o e B,(o',(f.2 b (L9 (D8 (F8 e) I.ok.above))).trans g)]
  .erw[(O:j=i)]
   .subst O;rw[hi]at g;cases g;rw[A0a F]at D;erw[!D,(u,r,.inl (G,by simp))]
   .rw[List.getElem?_set_ne (A3f O)]at D;erw[xea (hl j y v' g D e3) λu' r' q=>(u',r',?_)]
    rcases q with ⟨k,e⟩|⟨k,c,e,z⟩
    .erw[.inl (k,?_)];have:y≠x:=λe=>O (Ud hN g (e▸hi));simp[this,e]
    .erw[.inr (k,c,e,z.sameBut f (cne y c e))]
  .erw[(Y,z)=I.cell y c e,(Y,z.sameBut f (cne y c e))]
  .erw[xa4 (I.pin p hp) λe n ne nf d=>((f.2 p.1 ne).trans e,n,ne,nf,d)]
 .have L:X.fn x=o0:=by
   rcases hf with z|z
   .erw[z]
   .rw[z]at G;cases G
  erw[(c,t)=I.ok.has x (.inl G),(Y,z)=I.cell x c t,wpAny_storeName_cell I.ok.kind G t z (λh' P f=>?_),xea (id z) λoc T U=>h {s with heap:=h'} (I.ok,I.os,I.bare,(λb o e n K B=>?_,λb o e n K B=>?_,I.n6.free,λb o e B=>?_,I.n6.tups,I.n6.frzs,I.n6.tbls),(m,hn.sameBut f (A3f (cne x c t)),λj y v' g D e3=>?_),λy W e=>?_,I.free,I.freeC,λp hp=>?_,l (oc,T,I.freeC x c t) f,by simpa using I.len) (c,f,.inr t)]
  .exact(f.2 b (L9 (D8 (F8 e) (I.ok.cab x c L t)))).trans (I.n6.keep b o e n K B)
  .erw[(sl,g)=I.n6.slot b o e n K B,(sl,(f.2 b (L9 (D8 (F8 e) (I.ok.cab x c L t)))).trans g)]
  .erw[(o',g)=I.n6.there b o e B,(o',(f.2 b (L9 (D8 (F8 e) (I.ok.cab x c L t)))).trans g)]
  .erw[(O:j=i)]
   .subst O;rw[hi]at g;cases g;rw[A0a F]at D;erw[!D,(u,r,.inr (.inl G,c,t,P))]
   .rw[List.getElem?_set_ne (A3f O)]at D;erw[xea (hl j y v' g D e3) λu' r' q=>(u',r',?_)]
    rcases q with q|⟨k,W,e,z'⟩
    .erw[.inl q]
    .erw[.inr (k,W,e,z'.sameBut f ?_)];rintro rfl;erw[O (Ud hN g (I.ok.inj _ _ _ e t▸hi))]
  .erw[(R:W=c)]
   .erw[<-R,(_,P)]
   .erw[(w2,z2)=I.cell y W e,(w2,z2.sameBut f R)]
  .erw[xa4 (I.pin p hp) λe n ne nf d=>((f.2 p.1 ?_).trans e,n,ne,nf,d)]
   intro q;rw[q,T]at e;erw[q'=A3h e,d Y (by erw[[-q'],U])]
theorem Tq(I:Inv X n7 σ H s)(c:X.N.Nodup)(hi:X.N[i]?=n8 x)(e:Loc X.env.scope x)(r:Bc v u)
  (h:∀a,Inv X n7 (σ.set i (n8 v)) H a->Q () a) (d:X.fn x=o0\/X.env.scope.names.lookup x=n8 .local:=by first|exact .inl rfl|exact .inr rfl|assumption):wpAny M A (storeName X.env x u) Q E s :=
 Rb I c hi e r (λa b _=>h a b) d
theorem Inv.call'(I:Inv X n7 σ H s)(h:a.os=s.os)(u:Un (frs X.stack) ch H H' s.heap a.heap)(f:HOk X.prog X.w H' a.heap)(g:AllBare a.gens)
  (d:∀b∈ch,(b∈X.ex\/X.s₀.heap.objs.size<=b)/\b≠X.env.locals/\(∀x c,X.env.cells.lookup x=n8 c->c≠b)/\∀p∈X.pn++n7,p.1≠b):Inv X n7 σ H' a:=by
 erw[(h',g',d',t',i)=a,e=h,<-e,I.call (g':=g') (t':=t') (d':=d') u f g d]
end
abbrev XK:=Value->Option Addr->Hp->Prop
abbrev St:=List (Option V)
abbrev VK:=V->Hp->Prop
abbrev TE:=St->Hp->VK->Prop
abbrev TT:=St->Hp->(Bool->Hp->Prop)->Prop
abbrev TA:=St->Hp->(List V->Hp->Prop)->Prop
structure II where
nx:St->Hp->Prop
rt:VK
bk:St->Hp->Prop:=λ_ _=>False
ct:St->Hp->Prop:=λ_ _=>False
abbrev TS:=II->St->Hp->Prop
def EP(X:Cx)(n7:A_)(σ:St)(Q:VK)(u:S_)(s':P_):Prop:=∃v H',Inv X n7 σ H' s'/\Bc v u/\Q v H'
def TP(X:Cx)(n7:A_)(σ:St)(Q:Bool->Hp->Prop)(b:Bool)(s':P_):Prop:=∃H',Inv X n7 σ H' s'/\Q b H'
def AP(X:Cx)(n7:A_)(σ:St)(Q:List V->Hp->Prop)(us:F_)(s':P_):Prop:=∃vs H',Inv X n7 σ H' s'/\AT vs us/\Q vs H'
def SP(X:Cx)(n7:A_)(D:II)(f:Flow)(s':P_):Prop :=
 match f with
 |.next=>∃σ' H',Inv X n7 σ' H' s'/\D.nx σ' H'
 |.brk=>∃σ' H',Inv X n7 σ' H' s'/\D.bk σ' H'
 |.cont=>∃σ' H',Inv X n7 σ' H' s'/\D.ct σ' H'
 |.ret u=>∃v σ' H',Inv X n7 σ' H' s'/\Bc v u/\D.rt v H'
def PE(X:Cx)(e:Expr)(t:TE):Prop :=
 ∀(n7:A_)(s:P_)(σ:St)(H:Hp)(Q:VK),Inv X n7 σ H s->t σ H Q->wpAny (model X.prog X.w) X.A (eval e X.env) (EP X n7 σ Q) X.xe s
def PT(X:Cx)(e:Expr)(t:TT):Prop :=
 ∀(n7:A_)(s:P_)(σ:St)(H:Hp)(Q:Bool->Hp->Prop),Inv X n7 σ H s->t σ H Q->wpAny (model X.prog X.w) X.A (isTrue e X.env (eval e X.env)) (TP X n7 σ Q) X.xe s
def PW(X:Cx)(e:Expr)(t:TT):Prop :=
 ∀(whole:Sem Value)(n7:A_)(s:P_)(σ:St)(H:Hp)(Q:Bool->Hp->Prop),Inv X n7 σ H s->t σ H Q->wpAny (model X.prog X.w) X.A (isTrue e X.env whole) (TP X n7 σ Q) X.xe s
theorem PW.pt{t:TT}(h:PW X e t):PT X e t:=h _
def PA(X:Cx)(es:List Expr)(t:TA):Prop :=
 ∀(pos:Pos)(n7:A_)(s:P_)(σ:St)(H:Hp)(Q:List V->Hp->Prop),Inv X n7 σ H s->t σ H Q->wpAny (model X.prog X.w) X.A (spliced (backTo pos (starEach es X.env))) (AP X n7 σ Q) X.xe s
def PS(X:Cx)(st:Stmt)(t:TS):Prop :=
 ∀(n7:A_)(s:P_)(σ:St)(H:Hp)(D:II),Inv X n7 σ H s->t D σ H->wpAny (model X.prog X.w) X.A (exec st X.env) (SP X n7 D) X.xe s
def PSs(X:Cx)(st:List Stmt)(t:TS):Prop :=
 ∀(n7:A_)(s:P_)(σ:St)(H:Hp)(D:II),Inv X n7 σ H s->t D σ H->wpAny (model X.prog X.w) X.A (execs st X.env) (SP X n7 D) X.xe s
theorem thn{α:Type}{t:Sem α}{Q b:α->Shared->Prop}{M:Model}{A:Around}{E:B_}{s:P_}(h:wpAny M A t Q E s)(c:∀a s,Q a s->b a s):wpAny M A t b E s:=A6a h c λ_ _ x=>x
section
variable{X:Cx}
def DX(i:Nat):TE:=fun σ H Q=>∃v,σ[i]?=n8 (n8 v)/\Q v H
def tC(v:V):TE:=λ_ H Q=>Q v H
theorem aFW(k:X.N[i]?=n8 x)(q:Vis X.env.scope x)(g:(x==("__debug__" : Str))=o3:=by decide)(f:(x==("__classdict__" : Str))=o3:=by decide):PE X (.Name x pos) (DX i):=by
 erw[?d s σ H Q I h,xea h λv e h=>xea I.loc λm p n=>xea (n i x v k e q) λu r l=>?_,(fin:EP X d σ Q u s)=(v,H,I,r,h)]
 rcases l with ⟨b,o⟩|⟨b,c,j,a⟩
 .erw[wpAny_Name (wpAny_loadName_local I.ok.kind b p o fin) g]
 .rcases b with b|b
  .erw[wpAny_Name (wpAny_loadName_cell I.ok.kind b j a fin) g]
  .erw[wpAny_Name (wpAny_loadName_free I.ok.kind b j a fin f) g]
theorem Ae{i j pos}:PE X (.Constant (.int i) j pos) (tC (.int i)):=λ_ _ _ H _ I h=>wpAny_Constant_int (.int i,H,I.tok _,(_,Z),h)
theorem JT{b j pos}:PE X (.Constant (.bool b) j pos) (tC (.bl b)):=λ_ _ _ H _ I h=>Constant_bool (.bl b,H,I,Z,h)
theorem Dw{j pos}:PE X (.Constant .none j pos) (tC .non):=λ_ _ _ H _ I h=>Constant_none (.non,H,I,Z,h)
theorem FC{x j pos}:PE X (.Constant (.str x) j pos) (tC (.str x)):=λ_ _ _ H _ I h=>Calls.Constant_str (.str x,H,I.tok _,(_,Z),h)
def Gl(X:Cx)(x:Str):Prop:=X.env.kindOf x=n8 .globalImplicit
theorem OT(I:Inv X a σ H s)(c:Gl X x)(d:X.mg x=n8 u)(h:Q u s)
  (b:(x==("__debug__" : Str))=o3:=by decide):wpAny (model X.prog X.w) X.A (eval (.Name x pos) X.env) Q E s :=
 Calls.Name_function_global I.ok.kind c (Calls.loadGlobal_global (by rw[I.ok.glob];exact I.mod.glob.keeps I.bk) d h) b
theorem Lk(I:Inv X a σ H s)(e:Gl X x)(f:X.mg x=n9)(i:bootBuiltins x=n8 u)(h:Q u s)
  (g:x≠"__name__" := by decide) (d:(x==("__debug__" : Str))=o3:=by decide):wpAny (model X.prog X.w) X.A (eval (.Name x pos) X.env) Q E s:=by
 erw[xea I.mod.blt λj b c=>Calls.Name_function_global I.ok.kind e (Calls.loadGlobal_builtin (by erw[[I.ok.glob],I.mod.glob.keeps I.bk]) f (by erw[[I.ok.blt],b.keeps I.bk]) ((c x g).trans i) h) d]
theorem Sf(b:Gl X x)(c:X.mg x=n8 u)(r:Bc v u)(a:(x==("__debug__" : Str))=o3:=by decide):PE X (.Name x pos) (tC v) :=
 λ_ _ _ H _ I h=>OT I b c (v,H,I,r,h) a
theorem GS(b:Gl X x)(c:X.mg x=n9)(e:bootBuiltins x=n8 u)(r:Bc v u)(d:x≠"__name__" := by decide)(a:(x==("__debug__" : Str))=o3:=by decide):PE X (.Name x pos) (tC v) :=
 λ_ _ _ H _ I h=>Lk I b c e (v,H,I,r,h) d a
variable{a b:Expr}{ta tb:TE}{pos:Pos}
def PC(X:Cx)(op:CmpOp)(a b:Expr)(t:TE):Prop :=
 ∀(n7:A_)(s:P_)(σ:St)(H:Hp)(Q:VK),Inv X n7 σ H s->t σ H Q ->
  wpAny (model X.prog X.w) X.A (eval a X.env) (λv s₁=>wpAny (model X.prog X.w) X.A (eval b X.env) (λu s₂=>wpAny (model X.prog X.w) X.A (compareOp op v u) (EP X n7 σ Q) X.xe s₂) X.xe s₁) X.xe s
def tB(t:TE):TT:=fun σ H Q=>t σ H λx H1=>∃c,x=.bl c/\Q c H1
theorem aFa{t:TE}(h:PC X i a b t)(g:behindInMarks i b=o3:=by first|exact nobehind _ A6 A6|rfl):PT X (.Compare a [i] [b] pos) (tB t):=by
 erw[?e s σ H Q I o,wpAny_isTrue_Compare1 (thn (h e s σ H _ I o) λv r g=>thn g λu w m=>thn m λc y n=>?_) g,AK n λx k l p j=>xea j λd f q=>?_,-j,<-f,!p,A5h (k,l,q)]
theorem Dk{e:Expr}{t:TE}(h:PE X e t)(l:∀whole,isTrue e X.env whole=(do let v <-whole;standAt e.pos;holding [v] (truthy v)):=by intro _;rfl):PT X e (tB t):=by
 erw[?c s σ H Q I m,isTrue_plain (thn (h c s σ H _ I m) λv o k=>?_) (l _),AK k λx i j n g=>xea g λd f q=>?_,-g,<-f,!n,A5h (i,j,q)]
variable{tA tB':TT}{rest:List Expr}
def tAnd(t u:TT):TT:=fun σ H Q=>t σ H λc H1=>if c=o0 then u σ H1 Q else Q o3 H1
def tOr(t u:TT):TT:=fun σ H Q=>t σ H λc H1=>if c=o0 then Q o0 H1 else u σ H1 Q
def tNot(t:TT):TT:=fun σ H Q=>t σ H λc H1=>Q (!c) H1
theorem Lw(f:PT X a tA):PW X (.BoolOp .And [a] pos) tA:=by
 erw[?i d s σ H Q I h,isTrue_and (thn (f d s σ H Q I h) λc g e=>?_)];cases c with
 |true=>erw[isTrue_and_nil e]
 |false=>erw[e]
theorem JP(f:PT X a tA):PW X (.BoolOp .Or [a] pos) tA:=by
 erw[?i d s σ H Q I h,isTrue_or (thn (f d s σ H Q I h) λc g e=>?_)];cases c with
 |false=>erw[isTrue_or_nil e]
 |true=>erw[e]
theorem NB(j:PT X a tA)(k:PW X (.BoolOp .And (b::rest) pos) tB'):PW X (.BoolOp .And (a::b::rest) pos) (tAnd tA tB'):=by
 erw[?m d s σ H Q I h,isTrue_and (thn (j d s σ H _ I h) λc l i=>?_),xea i λe f g=>?_];cases c with
 |true=>erw[k m d l σ e Q f g]
 |false=>exact(e,f,g)
theorem MF(j:PT X a tA)(k:PW X (.BoolOp .Or (b::rest) pos) tB'):PW X (.BoolOp .Or (a::b::rest) pos) (tOr tA tB'):=by
 erw[?m d s σ H Q I h,isTrue_or (thn (j d s σ H _ I h) λc l i=>?_),xea i λe f g=>?_];cases c with
 |true=>exact(e,f,g)
 |false=>erw[k m d l σ e Q f g]
theorem DJ(f:PT X a tA):PT X (.UnaryOp .Not a pos) (tNot tA):=by
 erw[?d s σ H Q I h,isTrue_not (f d s σ H (λc e=>Q (!c) e) I h)]
def aHh(ta tb:TE):TE:=fun σ H Q=>ta σ H λx H1=>∃c,x=.bl c/\if c=o0 then tb σ H1 Q else Q (.bl o3) H1
def tOrV(ta tb:TE):TE:=fun σ H Q=>ta σ H λx H1=>∃c,x=.bl c/\if c=o0 then Q (.bl o0) H1 else tb σ H1 Q
def aHm(ta:TE):TE:=fun σ H Q=>ta σ H λx H1=>∃c,x=.bl c/\Q (.bl (!c)) H1
theorem NE{op}{t:TE}(h:PE X a t):PE X (.BoolOp op [a] pos) t:=λc s σ H Q I d=>BoolOp_one (h c s σ H Q I d)
theorem Mj(j:PE X a ta)(k:PE X (.BoolOp .And (b::rest) pos) tb):PE X (.BoolOp .And (a::b::rest) pos) (aHh ta tb):=by
 erw[?d s σ H Q I h,BoolOp_and (thn (j d s σ H _ I h) λv m i=>?_),AK i λx f g l e=>?_,(c,rfl,e)=e,!l,A5h ?_];cases c with
 |true=>erw[k d m σ f Q g e]
 |false=>exact(.bl o3,f,g,Z,e)
theorem aHG(j:PE X a ta)(k:PE X (.BoolOp .Or (b::rest) pos) tb):PE X (.BoolOp .Or (a::b::rest) pos) (tOrV ta tb):=by
 erw[?d s σ H Q I h,BoolOp_or (thn (j d s σ H _ I h) λv m i=>?_),AK i λx f g l e=>?_,(c,rfl,e)=e,!l,A5h ?_];cases c with
 |false=>erw[k d m σ f Q g e]
 |true=>exact(.bl o0,f,g,Z,e)
theorem aFV(j:PE X a ta):PE X (.UnaryOp .Not a pos) (aHm ta):=by
 erw[?d s σ H Q I h,UnaryOp_ (thn (j d s σ H _ I h) λv l i=>?_),AK i λx f g k e=>?_,(c,rfl,e)=e,!k,not_of (A5h (.bl (!c),f,g,Z,e))]
end
def SqL(K:O_)(H:Hp)(a:R_)(xs:List V):Prop :=
 Rd H a (.lst xs) \/
  ∃(o:Obj)(its:M_)(n:Nat),K.lookup a=n8 o/\o.cls=.type "list" /\ o.dict=n9/\o.data=.seq its n/\its.size<=sizeLine/\AT xs its.toList
def SqT(K:O_)(H:Hp)(a:R_)(xs:List V):Prop :=
 Rd H a (.tup xs) \/
  ∃(o:Obj)(its:M_)(n:Nat),K.lookup a=n8 o/\o.cls=.type "tuple" /\ o.data=.seq its n/\its.size<=sizeLine/\AT xs its.toList
noncomputable def absV:Value->Option V
|.none=>n8 .non
|.bool b=>n8 (.bl b)
|.int i _=>n8 (.int i)
|.str x _=>n8 (.str x)
|.bytes b _=>n8 (.byt b)
|.float b _=>n8 (.flt b)
|.ref a=>n8 (.ref a)
|.type n=>n8 (.ty n)
|_=>n9
theorem Bc.abs(r:Bc x u):absV u=n8 x:=by
 cases x with
 |non=>cases r;rfl
 |bl _=>cases r;rfl
 |int _=>erw[(t,rfl)=r];rfl
 |str _=>erw[(t,rfl)=r];rfl
 |byt _=>erw[(t,rfl)=r];rfl
 |flt _=>erw[(t,rfl)=r];rfl
 |ref _=>cases r;rfl
 |ty _=>cases r;rfl
theorem Bc.inj(r:Bc x u)(q:Bc y u):x=y:=A3h (r.abs.symm.trans q.abs)
theorem AT.inj:∀{xs ys:List V}{us:F_},AT xs us->AT ys us->xs=ys
|_,_,_,.nil,.nil=>rfl
|_,_,_,.cons r t,.cons r' t'=>by rw[r.inj r',AT.inj t t']
section
variable{X:Cx}{n7:A_}{σ:St}{H:Hp}{s:P_}{a:R_}{xs ys:List V}
theorem SqL.of{K:O_}(h:H a=n8 (.lst xs)):SqL K H a xs:=.inl (.inl h)
theorem SqT.of{K:O_}(h:H a=n8 (.tup xs)):SqT K H a xs:=.inl (.inl h)
theorem Inv.list(I:Inv X n7 σ H s)(h:SqL X.K H a xs):∃b:List Value,AT xs b/\PlainL s.heap a b.toArray/\xs.length<=sizeLine:=by
 rcases h with h|⟨o,b,n,f,c,d,g,i,r⟩
 .erw[Od (h.ok I.hok) λz b n r e=>(b,r,(_,n,e,Z,Z,Z),z)]
 .erw[(b.toList,r,(o,n,I.kIn a o f,c,d,by simpa using g),?_),e=r.length];simp only[F1]at e;lia
theorem Inv.tuple(I:Inv X n7 σ H s)(h:SqT X.K H a xs):∃b:List Value,AT xs b/\IsTup s.heap a b.toArray/\xs.length<=sizeLine:=by
 rcases h with h|⟨o,b,n,d,c,f,g,r⟩
 .erw[JC (h.ok I.hok) λz b r p=>(b,r,p,z)]
 .erw[(b.toList,r,(o,I.kIn a o d,c,n,by simpa using f),?_),e=r.length];simp only[F1]at e;lia
theorem Inv.list_inj(I:Inv X n7 σ H s)(h:SqL X.K H a xs)(h':SqL X.K H a ys):xs=ys:=by
 erw[(b,r,(o,n,e,_,_,d),_)=I.list h,(its',f,(i,g,c,_,_,d'),_)=I.list h'];rw[e]at c;cases c;rw[d]at d';injection d' with d1 _
 have:b=its':=by simpa using A4e Array.toList d1
 erw[<-this,r.inj f]
theorem Inv.tuple_inj(I:Inv X n7 σ H s)(h:SqT X.K H a xs)(h':SqT X.K H a ys):xs=ys:=by
 erw[(b,r,(o,e,_,n,d),_)=I.tuple h,(its',f,(i,c,_,g,d'),_)=I.tuple h'];rw[e]at c;cases c;rw[d]at d';injection d' with d1 _
 have:b=its':=by simpa using A4e Array.toList d1
 erw[<-this,r.inj f]
end
noncomputable abbrev Cx.wish(X:Cx)(E:B_):Cx:={X with xe:=E}
noncomputable abbrev Cx.nox(X:Cx):Cx:=X.wish λ_ _=>False
theorem Cx.Ok.wish{X:Cx}(ok:X.Ok)(E:B_):(X.wish E).Ok :=
 (ok.mod,ok.kind,ok.glob,ok.blt,ok.above,ok.inj,ok.has,ok.cab,ok.hd,ok.frames,ok.stk,ok.exf,ok.bs,ok.bsz,ok.noex,ok.exfs,ok.funs,ok.frf)
theorem Cx.Ok.unwish{X:Cx}{E:B_}(ok:(X.wish E).Ok):X.Ok :=
 (ok.mod,ok.kind,ok.glob,ok.blt,ok.above,ok.inj,ok.has,ok.cab,ok.hd,ok.frames,ok.stk,ok.exf,ok.bs,ok.bsz,ok.noex,ok.exfs,ok.funs,ok.frf)
section
variable{X:Cx}{n7:A_}{σ:St}{H:Hp}{s:P_}{E:B_}
theorem Inv.wish(I:Inv X n7 σ H s)(E:B_):Inv (X.wish E) n7 σ H s:=(I.ok.wish E,I.os,I.bare,I.n6,I.loc,I.cell,I.free,I.freeC,I.pin,I.hok,I.len)
theorem Inv.unwish(I:Inv (X.wish E) n7 σ H s):Inv X n7 σ H s:=(I.ok.unwish,I.os,I.bare,I.n6,I.loc,I.cell,I.free,I.freeC,I.pin,I.hok,I.len)
theorem SP.unwish{D:II}{f:Flow}{b:P_}(h:SP (X.wish E) n7 D f b):SP X n7 D f b:=by
 cases f with
 |next=>erw[BM h fun σ' a I q=>(σ',a,I.unwish,q)]
 |brk=>erw[BM h fun σ' a I q=>(σ',a,I.unwish,q)]
 |cont=>erw[BM h fun σ' a I q=>(σ',a,I.unwish,q)]
 |ret u=>erw[Dl h λv σ' a I r q=>(v,σ',a,I.unwish,r,q)]
theorem PSs.nox{st:List Stmt}{t:TS}(h:PSs X.nox st t):PSs X st t:=λn7 s σ H D I a =>
 A6a (h n7 s σ H D (I.wish _) a) (λ_ _ q=>q.unwish) λ_ _ z=>False.elim z
end
section
variable{X:Cx}{st:Stmt}{rest:List Stmt}{t u:TS}{e:Expr}{te:TE}{pos:Pos}
def aHl:TS:=λD σ H=>D.nx σ H
def YD(t u:TS):TS:=λD σ H=>t {D with nx:=u D} σ H
theorem Az:PSs X [] aHl:=λ_ _ σ H _ I h=>B1h (σ,H,I,h)
theorem Ac(d:PS X st t)(g:PSs X rest u):PSs X (st::rest) (YD t u):=by
 erw[?a s σ H D I h,wpAny_execs_cons (thn (d a s σ H {D with nx:=u D} I h) λf i q=>?_)];cases f with
 |next =>
  erw[BM q fun σ' b c q=>g a i σ' b D c q]
 |ret v=>erw[q]
 |brk=>erw[q]
 |cont=>erw[q]
theorem Ag(b:PS X st t):PSs X [st] t:=by
 erw[?a s σ H D I h,wpAny_execs_cons (thn (b a s σ H D I h) λf c q=>?_)];cases f with
 |next=>erw[B1h q]
 |ret v=>erw[q]
 |brk=>erw[q]
 |cont=>erw[q]
theorem Inv.quiet{a:A_}{σ:St}{H:Hp}{s:P_}(I:Inv X a σ H s):interactive X.env=o3:=by simp[interactive,I.ok.kind]
def aEK(te:TE):TS:=λD σ H=>te σ H λ_ H1=>D.nx σ H1
theorem Bq(d:PE X e te)(f:swapsWith e n9 pos.line X.env=pure o3:=by rfl):PS X (.Expr e pos) (aEK te):=by
 erw[?a s σ H D I h,wpAny_Expr_any (thn (d a s σ H _ I h) λv j ⟨x,b,c,i,g⟩=>(σ,b,c,g)) I.quiet f]
def aHo(te:TE):TS:=λD σ H=>te σ H D.rt
theorem Av(d:PE X e te):PS X (.Return (n8 e) pos) (aHo te):=by
 erw[?a s σ H D I h,wpAny_Return_some (thn (d a s σ H _ I h) λv i ⟨x,b,c,g,f⟩=>(x,σ,b,c,g,f))]
def aHp:TS:=λD _ H=>D.rt .non H
theorem WG:PS X (.Return n9 pos) aHp:=λ_ _ σ H _ I h=>wpAny_Return_none (.non,σ,H,I,Z,h)
def tIfS(c:TT)(t u:TS):TS:=λD σ H=>c σ H λb H1=>if b=o0 then t D σ H1 else u D σ H1
theorem AS{c:Expr}{tc:TT}(o:PT X c tc)(m:PSs X a t)(n:PSs X b u):PS X (.If c a b pos) (tIfS tc t u):=by
 erw[?f s σ H D I h,wpAny_If (thn (o f s σ H _ I h) λd k l=>?_),xea l λg i j=>?_];cases d with
 |true=>erw[m f k σ g D i j]
 |false=>erw[n f k σ g D i j]
def aFr:TS:=λ_ _ _=>False
theorem Bo:PS X st aFr:=λ_ _ _ _ _ _ h=>h.elim
end
abbrev TG:=V->St->Hp->(St->Hp->Prop)->Prop
abbrev TGs:=List V->St->Hp->(St->Hp->Prop)->Prop
def PG(X:Cx)(target:Expr)(t:TG):Prop :=
 ∀(n7:A_)(s:P_)(σ:St)(H:Hp)(v:V)(u:S_)(Q:St->Hp->Prop),Inv X n7 σ H s->Bc v u->t v σ H Q ->
  wpAny (model X.prog X.w) X.A (assign target X.env u) (λ_ s'=>∃σ' H',Inv X n7 σ' H' s'/\Q σ' H') X.xe s
def PGs(X:Cx)(ts:List Expr)(t:TGs):Prop :=
 ∀(n7:A_)(s:P_)(σ:St)(H:Hp)(vs:List V)(us:F_)(Q:St->Hp->Prop),Inv X n7 σ H s->AT vs us->t vs σ H Q ->
  wpAny (model X.prog X.w) X.A (assignInOrder ((assignEach ts X.env).map (·.2)) us) (λ_ s'=>∃σ' H',Inv X n7 σ' H' s'/\Q σ' H') X.xe s
abbrev aEQ:=V->V->V->Hp->(Hp->Prop)->Prop
def aF2(X:Cx)(t:aEQ):Prop :=
 ∀(n7:A_)(s:P_)(σ:St)(H:Hp)(o i v:V)(ov iv u:S_)(Q:Hp->Prop),Inv X n7 σ H s->Bc o ov->Bc i iv->Bc v u->t o i v H Q ->
  wpAny (model X.prog X.w) X.A (setItem ov iv u) (λ_ s'=>∃H',Inv X n7 σ H' s'/\Q H') X.xe s
section
variable{X:Cx}{pos:Pos}
def JB(i:Nat):TG:=λv σ H Q=>Q (σ.set i (n8 v)) H
theorem AV(c:X.N.Nodup)(hi:X.N[i]?=n8 x)(e:Loc X.env.scope x)(d:X.fn x=o0\/X.env.scope.names.lookup x=n8 .local:=by first|exact .inl rfl|exact .inr rfl|assumption):PG X (.Name x pos) (JB i):=by
 erw[?a s σ H v u Q I r h,wpAny_assign_Name (Tq I c hi e r (λf b=>(_,H,b,h)) d)]
def aEg:TGs:=λvs σ H Q=>vs=[]/\Q σ H
def Ux(t:TG)(u:TGs):TGs:=λvs σ H Q=>∃v r,vs=v::r/\t v σ H fun σ' H'=>u r σ' H' Q
theorem Ly:PGs X [] aEg:=by
 erw[?a s σ H vs us Q I r h,(e,h)=h,<-e,!r,assignInOrder_nil (σ,H,I,h)]
theorem CZ{t:TG}(i:PG X e t)(j:PGs X b u)
  (l:(assignEach (e::b) X.env).map (·.2)=assign e X.env::(assignEach b X.env).map (·.2):=by rfl):PGs X (e::b) (Ux t u):=by
 erw[?a s σ H vs us Q I r h,(v,vr,g,h)=h,<-g];cases r with
 |cons r n =>
  erw[[l],assignInOrder_cons (thn (i a s σ H _ _ _ I r h) λ_ o k=>?_),BM k fun c d f m=>j a o c d _ _ Q f n m]
def aEh(K:O_)(n:Nat)(t:TGs):TG:=λv σ H Q=>∃a xs,v=.ref a/\SqT K H a xs/\xs.length=n/\t xs σ H Q
theorem ND{k:Nat}{t:TGs}(m:X.calm=o0)(h:PGs X d t)
  (q:(assignEach d X.env).length=n:=by rfl) (f:(assignEach d X.env).findIdx? (·.1)=n9:=by rfl):PG X (.Tuple d k pos) (aEh X.K n t):=by
 erw[?c s σ H v u Q I r g,(a,xs,l,w,p,g)=g,<-l,!r,(z,i,x,A)=I.tuple w,assign_Tuple_tuple (I.ok.hd m) x (by simp[q,<-p,i.length]) f λh' y=>?_,j=I.kept (t':=s.toks) λb o e=>y b o (L9 (F8 e)) e,h c _ σ H xs _ Q j (by simpa using i) g]
def gSub(to ti:TE)(t:aEQ):TG:=λv σ H Q=>to σ H λo H1=>ti σ H1 λi H2=>t o i v H2 λH3=>Q σ H3
theorem aB8{to e:TE}{t:aEQ}(p:PE X o to)(hi:PE X i e)(q:aF2 X t)
  (n:∀v,assign (.Subscript o i pos) X.env v=(do
   let b <-holding [v] (eval o X.env);let d <-holding [v,b] (eval i X.env)
   standAt pos
   holding [v,b,d] (setItem b d v)
   release [v,b,d] []):=by intro _;rfl):PG X (.Subscript o i pos) (gSub to e t):=by
 erw[?a s σ H v u Q I r h,[n],A2e (A8e (thn (p a s σ H _ I h) λb D c=>?_)),AK c λx f k B w=>A2e (A8e (thn (hi a D σ f _ k w) λd E c=>?_)),AK c λy g l C z=>A2e (B2h (A2e (A8e (thn (q a E σ g x y v b d u _ l B C r z) λ_ F c=>?_)))),xea c λj m A=>wpAny_release (σ,j,m,A)]
def aDK(te:TE)(g:TG):TS:=λD σ H=>te σ H λx H1=>g x σ H1 D.nx
theorem aCC{c:TE}(k:PE X e c)(l:PG X b g)(m:swapsWithSole [b] e pos.line X.env=pure o3:=by rfl)(n:swappedStores [b] e X.env=pure n9:=by rfl)
  (i:(assignEach [b] X.env).map (·.2)=[assign b X.env]:=by rfl):PS X (.Assign [b] e pos) (aDK c g):=by
 erw[?a s σ H D I h,wpAny_Assign_stores (thn (k a s σ H _ I h) λv r j=>?_) m n,AK j λx d f p o=>?_,[i],thn (l a r σ d x v _ f p o) λ_ t q=>q]
theorem Px{c:TE}(j:X.N.Nodup)(hi:X.N[i]?=n8 x)(o:Loc X.env.scope x)(l:PE X e c)(n:swapsWith e (n8 (.Name x a)) pos.line X.env=pure o3:=by rfl)(m:X.fn x=o0\/X.env.scope.names.lookup x=n8 .local:=by first|exact .inl rfl|exact .inr rfl|assumption) :
  PS X (.Assign [.Name x a] e pos) (aDK c (JB i)):=by
 erw[?b s σ H D I h,wpAny_Assign_Name (thn (l b s σ H _ I h) λv r k=>?_) n,AK k λy d f q p=>Tq f j hi o q (λt g=>(_,d,g,p)) m]
def aFt(c:TT)(tb:TS):TS:=λD σ H=>∃W:Nat->St->Hp->Prop,(∃m,W m σ H)/\∀m σ H,W m σ H ->
 c σ H λb H1=>if b=o0 then ∃N:St->Hp->Prop,(∀σ' H',N σ' H'->∃m',m'<m/\W m' σ' H')/\tb {D with nx:=N,ct:=N,bk:=D.nx} σ H1 else D.nx σ H1
theorem JQ{c:Expr}{tc:TT}(B:PassesOwn (model X.prog X.w) X.A X.env X.xe)(K:PT X c tc)(G:PSs X g C):PS X (.While c g [] pos) (aFt tc C):=by
 erw[?a s σ H D I h,(W,(L,Q),turn)=h,wpAny_While (codeAny_whileLoop (λn M=>∃σ' t,Inv X a σ' t M/\W n σ' t) ?_ L (σ,H,I,Q)),?n O r,BM r fun e u E R=>A8c B (thn (K a O e u _ E (turn n e u R)) λb P F=>?_),xea F λx y j=>?_];cases b with
 |true =>
  erw[xea j λN z j=>?_,[A2h rfl],A8c B (thn (G a P e x _ y j) λf S k=>?_)];cases f with
  |next =>
   erw[BM k fun d i l p=>xea (z d i p) λo m q=>(o,m,d,i,l,q)]
  |cont =>
   erw[BM k fun d i l p=>xea (z d i p) λo m q=>(o,m,d,i,l,q)]
  |brk=>erw[k]
  |ret v=>erw[k]
 |false =>
  erw[[A2f F6],B1h (e,x,y,j)]
end
structure It where
go:Nat->Hp->Prop
yld:Nat->Hp->V->Hp->Prop
stop:Nat->Hp->Prop
def Ed(X:Cx)(n7:A_)(H:Hp)(b:R_):Prop :=
 H b=n9/\b≠X.env.locals/\b∉X.fs/\(b∈X.ex\/X.s₀.heap.objs.size<=b)/\(∀x c,X.env.cells.lookup x=n8 c->c≠b)/\∀p∈X.pn++n7,p.1≠b
theorem Inv.fpOk(I:Inv X a σ H s)(d:s.heap.objs.size<=b)(g:f b=n9):Ed X a f b:=by
 erw[(g,Y9 (D8 I.lt d),I.nofs d,.inr (C9 I.sz d),λx c e z=>?_,λp h z=>?_)]
 .erw[(v,q)=I.cell x c e,absurd (D8 q.lt (by erw[[z],d])) (S6 _)]
 .erw[absurd (D8 (F8 (I.pin p h).1) (by erw[[z],d])) (S6 _)]
structure QU(P:N_)(w:Q_)(K:O_)(tg:Expr)(J:It)(fp:H_)(it:R_)(tn:Nat->Heap->Prop):Prop where
mem:it∈fp
obj:∀i h,tn i h->∀b∈fp,∃o,h.get? b=n8 o/\∀v,o.data≠.cell v
keep:∀i h h',tn i h->(∀b∈fp,∀o,h.get? b=n8 o->h'.get? b=n8 o)->tn i h'
item:∀(X:Cx),X.prog=P->X.w=w->X.K=K->X.calm=o0->∀(i:Nat)(n7:A_)(s:P_)(σ:St)(H:Hp)(E:B_),Inv X n7 σ H s->(∀b∈fp,Ed X n7 H b)->tn i s.heap->J.go i H ->
 wpAny (model P w) X.A (pyNext (.ref it)) (λr s1=>∃u,r=n8 u /\
  wpAny (model P w) X.A (letOwnedTupleGo tg (.ref it) u) (λ_ s2=>∃x H',Inv X n7 σ H' s2/\Bc x u/\J.yld i H x H'/\tn (i+1) s2.heap/\∀b∈fp,H' b=n9) E s1) E s
done:∀(X:Cx),X.prog=P->X.w=w->X.K=K->X.calm=o0->∀(i:Nat)(n7:A_)(s:P_)(σ:St)(H:Hp)(E:B_),Inv X n7 σ H s->(∀b∈fp,Ed X n7 H b)->tn i s.heap->J.stop i H ->
 wpAny (model P w) X.A (pyNext (.ref it)) (λr s1=>r=n9/\Inv X n7 σ H s1) E s
self:∀(A:Around)(i:Nat)(s:P_)(Q:B_)(E:B_),tn i s.heap->Q (.ref it) s->wpAny (model P w) A (pyIter (.ref it)) Q E s
abbrev TI:=St->Hp->(It->Hp->Prop)->Prop
def PIE(X:Cx)(n7:A_)(σ:St)(tg:Expr)(R:It->Hp->Prop)(itv:S_)(s2:P_):Prop :=
 ∃(it:R_)(fp:H_)(tn:Nat->Heap->Prop)(J:It)(H':Hp),itv=.ref it/\Inv X n7 σ H' s2/\QU X.prog X.w X.K tg J fp it tn/\tn 0 s2.heap/\(∀b∈fp,Ed X n7 H' b)/\R J H'
def PI(X:Cx)(tg iter:Expr)(wi:TI):Prop :=
 ∀(n7:A_)(s:P_)(σ:St)(H:Hp)(R:It->Hp->Prop),Inv X n7 σ H s->wi σ H R ->
  wpAny (model X.prog X.w) X.A (eval iter X.env) (λv s1=>wpAny (model X.prog X.w) X.A (pyIter v) (PIE X n7 σ tg R) X.xe s1) X.xe s
theorem Uw(f:s.heap.get? it=n8 o)(c:o.cls=.type n)(d:o.data=.fields vs)
   (e:["enumerate","zip","dict_itemiterator","dict_reverseitemiterator","odict_iterator","itertools.zip_longest","itertools.pairwise"].contains n=o3) (a:Q () s):wpAny M A (letOwnedTupleGo b (.ref it) u) Q E s:=by
 unfold letOwnedTupleGo;cases b<;>first
   |exact A3c a
   | (cases u<;>first
       |exact A3c a
       | (refine A2e (wpAny_load f ?_)
          rw[c,d];show wpAny M A (if(["enumerate","zip","dict_itemiterator","dict_reverseitemiterator","odict_iterator","itertools.zip_longest","itertools.pairwise"].contains n && vs[0]?==n8 (rawInt _))=o0 then _ else _) Q E s;rw[A2f (by intro h;rw[e,Bool.false_and]at h;cases h)];exact A3c a))
noncomputable def Itl(K:O_)(a:R_):It :=
 (λi H=>∃xs x,SqL K H a xs/\xs[i]?=n8 x,λi H x H'=>H'=H/\∀xs,SqL K H a xs->xs[i]?=n8 x,λi H=>∃xs,SqL K H a xs/\xs.length<=i)
noncomputable def Itt(K:O_)(a:R_):It :=
 (λi H=>∃xs x,SqT K H a xs/\xs[i]?=n8 x,λi H x H'=>H'=H/\∀xs,SqT K H a xs->xs[i]?=n8 x,λi H=>∃xs,SqT K H a xs/\xs.length<=i)
noncomputable def Itr(lo:Int)(n:Nat):It:=(λi _=>i<n,λi H x H'=>H'=H/\x=.int (lo+i),λi _=>n<=i)
theorem Yy{P:N_}{w:Q_}{K:O_}{V:Expr}(a it:R_):QU P w K V (Itl K a) [it] it (λi h=>h.IsListIter it a i) where
 mem:=by simp
 obj:=λi h st b f=>by
  have e:b=it:=by simpa using f
  erw[<-e,AI st λo e c d=>(o,e,λv z=>by rw[d]at z;cases z)]
 keep:=λi h h' st k=>st.at λo e=>k it B0 o e
 item:=by
  erw[?X A C y L i g s σ H E I l st B,<-A C y,BM B λxs x m D=>AI (I.list m) λF G p S=>xea (G.get D) λu Q T=>xa5 (l it B0) λn q O r f4 t=>wpAny_pyNext_list_item st p.isList (x:=u) (by simpa using Q) λh' j U=>?_,M=I.turned (t':=s.toks) (λb o f e=>(U.2 b f).trans e) n q r f4 t,AI (id j) λo e c d=>(u,Z,Uw (s:={s with heap:=h'}) e c d A6 (x,H,M,T,(Z,λys R=>by erw[[I.list_inj R m],D]),j,λb f=>(l b f).1))]
 done:=by
  erw[?X A C y L i g s σ H E I l st B,<-A C y,xea B λxs m D=>AI (I.list m) λF G p S=>xa5 (l it B0) λn q O r f4 t=>?_,Y=G.length,wpAny_pyNext_list_end (I.ok.hd L) st p.isList (by simp;lia) λh' N=>(Z,I.turned (t':=s.toks) (λb o f e=>N b o f e) n q r f4 t)]
 self:=λ_ _ _ _ _ st h=>wpAny_pyIter_listiter st h
theorem UZ{P:N_}{w:Q_}{K:O_}{V:Expr}(a it:R_):QU P w K V (Itt K a) [it] it (λi h=>h.IsTupleIter it a i) where
 mem:=by simp
 obj:=λi h st b f=>by
  have e:b=it:=by simpa using f
  erw[<-e,AI st λo e c d=>(o,e,λv z=>by rw[d]at z;cases z)]
 keep:=λi h h' st k=>st.at λo e=>k it B0 o e
 item:=by
  erw[?X B D A L i j s σ H E I m st C,<-B D A,BM C λxs x n F=>AI (I.tuple n) λg G p S=>xea (G.get F) λu Q T=>xa5 (m it B0) λq r O t f4 y=>wpAny_pyNext_tuple_item st (show s.heap.IsTuple a g.toArray from p) (x:=u) (by simpa using Q) λh' l U=>?_,M=I.turned (t':=s.toks) (λb o f e=>(U.2 b f).trans e) q r t f4 y,AI (id l) λo e c d=>(u,Z,Uw (s:={s with heap:=h'}) e c d A6 (x,H,M,T,(Z,λys R=>by erw[[I.tuple_inj R n],F]),l,λb f=>(m b f).1))]
 done:=by
  erw[?X B D A L i j s σ H E I m st C,<-B D A,xea C λxs n F=>AI (I.tuple n) λg G p S=>xa5 (m it B0) λq r O t f4 y=>?_,Y=G.length,wpAny_pyNext_tuple_end (I.ok.hd L) st (show s.heap.IsTuple a g.toArray from p) (by simp;lia) λh' N=>(Z,I.turned (t':=s.toks) (λb o f e=>N b o f e) q r t f4 y)]
 self:=λ_ _ _ _ _ st h=>wpAny_pyIter_tupleiter st h
theorem Va{P:N_}{w:Q_}{K:O_}{D:Expr}(it:R_)(lo:Int)(n:Nat):QU P w K D (Itr lo n) [it] it (λi h=>IsRangeIter h it (lo+(i:Nat)*1) ((n:Int)-(i:Nat)) 1) where
 mem:=by simp
 obj:=λi h st b c=>by
  have e:b=it:=by simpa using c
  subst e;exact(_,st,λv z=>by
   have F:Data.fields _=Data.cell v:=z;cases F)
 keep:=λi h h' st k=>k it B0 _ st
 item:=by
  erw[?X q x p r i a s σ H E I f st u,<-q x p,xa5 (f it B0) λg j B l f4 m=>?_,W=Walks.range (prog:=X.prog) (w:=X.w) (I.ok.hd r) it lo 1 n,W.item i s _ _ u st λv h' tk C d kk=>?_,(t,rfl)=C,(y:Inv X a σ H {s with heap:=h',toks:=tk})=I.turned (λb o c e=>kk b o (by simpa using c) e) g j l f4 m,(_,Z,Uw (s:={s with heap:=h',toks:=tk}) (n:="range_iterator") d Z Z A6 (.int (lo+i),H,y,(t,?_),(Z,Z),d,λb c=>(f b c).1)),[Int.mul_one]]
 done:=by
  erw[?X q x p r i a s σ H E I f st u,<-q x p,xa5 (f it B0) λg j B l f4 m=>wpAny_pyNext_range_end (I.ok.hd r) st (by have:n<=i:=u;lia) λh' A=>(Z,I.turned (t':=s.toks) (λb o c e=>A b o c e) g j l f4 m)]
 self:=λ_ _ _ _ _ st h=>wpAny_pyIter_rangeiter st h
section
variable{X:Cx}{tg:Expr}
def aDx(K:O_)(tl:TE):TI:=fun σ H R=>tl σ H λx H1=>∃a,x=.ref a/\(∃xs,SqL K H1 a xs)/\R (Itl K a) H1
def iTup(K:O_)(tl:TE):TI:=fun σ H R=>tl σ H λx H1=>∃a,x=.ref a/\(∃xs,SqT K H1 a xs)/\R (Itt K a) H1
theorem BH(m:PE X l g):PI X tg l (aDx X.K g):=by
 erw[?c s σ H R I h,thn (m c s σ H _ I h) λv f j=>AK j λx i d u t=>?_,(a,e,(xs,n),q)=t,<-e,!u,AI (d.list n) λr y p w=>A8g p.isList (f.heap.objs.size,[f.heap.objs.size],_,_,i,Z,d.kept (t':=f.toks) λb o e=>C6 _ e,Yy a _,(_,F4 _ Z,Z,Z),λb k=>?_,q),(e:b=f.heap.objs.size)=by simpa using k]
 erw[<-e,d.fpOk (C1 _) (d.hok.fresh (C1 _))]
theorem Py(n:PE X l i):PI X tg l (iTup X.K i):=by
 erw[?c s σ H R I h,thn (n c s σ H _ I h) λv d k=>AK k λx j f u t=>?_,(a,e,(xs,r),q)=t,<-e,!u,AI (f.tuple r) λg y p w=>wpAny_pyIter_tuple (show d.heap.IsTuple a g.toArray from p) (d.heap.objs.size,[d.heap.objs.size],_,_,j,Z,f.kept (t':=d.toks) λb o e=>C6 _ e,UZ a _,(_,F4 _ Z,Z,Z),λb m=>?_,q),(e:b=d.heap.objs.size)=by simpa using m]
 erw[<-e,f.fpOk (C1 _) (f.hok.fresh (C1 _))]
theorem TR{a:A_}{σ:St}{H:Hp}{s:P_}{R:It->Hp->Prop}{E:B_}{lo hi:Int}{t u v:Tok}{tk:Nat}(I:Inv X a σ H s)(g:-(2^62)<=lo)(h:lo<2^62)(i:-(2^62)<=hi)(j:hi<2^62)
  (q:R (Itr lo (hi-lo).toNat) H):wpAny (model X.prog X.w) X.A (pyIter (.ref s.heap.objs.size)) (PIE X a σ tg R) E {s with heap:=s.heap.push {cls:=.type "range",data:=.fields [.int lo t,.int hi u,.int 1 v].toArray},toks:=tk}:=by
 erw[wpAny_pyIter_range (IsRange.new ..) (small_one g h i j) ?_,(c:Inv X a σ H {s with heap:=s.heap.push {cls:=.type "range",data:=.fields [.int lo t,.int hi u,.int 1 v].toArray},toks:=tk})=I.kept λb o e=>C6 _ e,((s.heap.push {cls:=.type "range",data:=.fields [.int lo t,.int hi u,.int 1 v].toArray}).objs.size,[(s.heap.push {cls:=.type "range",data:=.fields [.int lo t,.int hi u,.int 1 v].toArray}).objs.size],_,_,H,Z, c.kept (t':=tk) λb o e=>C6 _ e,Va _ lo (hi-lo).toNat,?_,λb k=>?_,q)]
 .have d:lo+((0:Nat):Int)*1=lo:=by simp
  have f:(((hi-lo).toNat:Nat):Int)-((0:Nat):Int)=Builtin.Range.rangeSize lo hi 1:=by rw[rangeSize_one];split<;>lia
  erw[(_:IsRangeIter _ _ (lo+((0:Nat):Int)*1) ((((hi-lo).toNat:Nat):Int)-((0:Nat):Int)) 1),[d,f],F4 _ Z]
 .have e:b=(s.heap.push {cls:=.type "range",data:=.fields [.int lo t,.int hi u,.int 1 v].toArray}).objs.size:=by simpa using k
  erw[<-e,c.fpOk (C1 _) (c.hok.fresh (C1 _))]
def aGn(ta:TA):TI:=fun σ H R=>ta σ H λvs H1=>∃j:Int,vs=[.int j]/\-(2^62)<=j/\j<2^62/\R (Itr 0 j.toNat) H1
def aGo(ta:TA):TI:=fun σ H R=>ta σ H λvs H1=>∃i j:Int,vs=[.int i,.int j]/\(-(2^62)<=i/\i<2^62/\-(2^62)<=j/\j<2^62)/\R (Itr i (j-i).toNat) H1
theorem Ce(k:Gl X "range")(l:X.mg "range" = n9)(i:PA X [a] d)(m:starEach [a] X.env=[#[o3,eval a X.env]]:=by rfl):PI X tg (.Call (.Name "range" p) [a] [] pos) (aGn d):=by
 erw[?b s σ H R I h,Call_ (Lk I k l boot_range (A6e (thn (i pos b s σ H _ I h) λus w g=>?_) m Z)),AK g λvs v f o c=>?_,(j,e,c,n,q)=c,<-e];cases o with
 |cons r u =>
  erw[!u,(t,rfl)=r,call_range_1 (TR f A3 A3 c n (by simpa using q))]
theorem Lx{k:TA}(o:Gl X "range")(u:X.mg "range" = n9)(n:PA X [a,b] k)(v:starEach [a,b] X.env=[#[o3,eval a X.env],#[o3,eval b X.env]]:=by rfl)(c:starEach [b] X.env=[#[o3,eval b X.env]]:=by rfl) :
  PI X tg (.Call (.Name "range" p) [a,b] [] pos) (aGo k):=by
 erw[?d s σ H R I h,Call_ (Lk I o u boot_range (A6e (thn (n pos d s σ H _ I h) λus C m=>?_) (by rw[v,c]) (by rw[c];rfl))),AK m λvs B l A f=>?_,(i,j,e,(f,w,x,y),q)=f,<-e];cases A with
 |cons r g =>
  cases g with
  |cons z g =>
   erw[!g,(t,rfl)=r,(t',rfl)=z,call_range_2 (TR l f w x y q)]
def aFq(wi:TI)(g:TG)(tb:TS):TS:=λD σ H=>wi σ H λJ H1=>∃W:Nat->Nat->St->Hp->Prop,(∃m,W 0 m σ H1)/\∀i m σ H,W i m σ H ->
 (J.stop i H/\D.nx σ H)\/(J.go i H/\∃N:St->Hp->Prop,(∀σ' H',N σ' H'->∃m',m'<m/\W (i+1) m' σ' H')/\∀x H',J.yld i H x H'->g x σ H' fun σ2 H2=>tb {D with nx:=N,ct:=N,bk:=D.nx} σ2 H2)
noncomputable def NC(fp:H_)(h:T_):List (Addr×Obj):=fp.filterMap λb=>(h.get? b).map λo=>#[b,o]
theorem Jm(a:b∈fp)(e:h.get? b=n8 o):#[b,o]∈NC fp h:=List.mem_filterMap.mpr (b,a,by rw[e];rfl)
theorem Ri(d:p∈NC fp h):p.1∈fp/\h.get? p.1=n8 p.2:=by
 erw[xea (List.mem_filterMap.mp d) λb c e=>?_];cases q:h.get? b with
 |none=>rw[q]at e;cases e
 |some o =>
  rw[q]at e;erw[a=A3h e,<-a,(c,q)]
theorem Inv.pinned(I:Inv X a σ H s)(j:∀b∈fp,Ed X a H b)(k:∀b∈fp,∃o,s.heap.get? b=n8 o/\∀v,o.data≠.cell v):Inv X (a++NC fp s.heap) σ H s :=
 I.pins_of λp l=>(J9.mp l).elim (λz=>I.pin p (M7 _ z)) λz=>by
  erw[(f,e)=Ri z,xa3 (j p.1 f) λg h i _=>xea (k p.1 f) λo c d=>?_];rw[e]at c;erw[!c,(e,g,h,i,d)]
theorem Inv.unpinned(I:Inv X (a++pl) σ H s):Inv X a σ H s:=I.pins_of λp b=>I.pin p (M7 _ (W8 _ b))
theorem BN{q:Expr}(K:PassesOwn (model X.prog X.w) X.A X.env X.xe)(hc:X.calm=o0)(hi:PI X tg q wi)(hg:PG X tg g)(p:PSs X B tb)
  (hs:∀x,foldedSetIterable q X.env x=pure x:=by intro _;rfl):PS X (.For tg q B [] pos) (aFq wi g tb):=by
 erw[?a s σ H D I h,wpAny_For (thn (hi a s σ H _ I h) λv s1 h1=>thn h1 λab s2 h2=>?_) hs,(it,fp,tn,J,H2,e,I2,T,V,f2,W,(m0,w0),turn)=h2,<-e,(t:∀{z:Hp},(∀b∈fp,z b=n9)->∀b∈fp,Ed X a z b)=λhn b p=>(hn b p,(f2 b p).2)]
 erw[codeAny_forLoop_any (λn s'=>∃i σ' z,Inv X a σ' z s'/\tn i s'.heap/\(∀b∈fp,z b=n9)/\W i n σ' z) ?_ m0 (0,σ,H2,I2,V,λb p=>(f2 b p).1,w0),?n s3 Y,Fk Y λi y P I3 M G w3=>?_];rcases turn i n y P w3 with ⟨O,qn⟩|⟨go,N,hN,step⟩
 .erw[A8c K (thn (T.done X Z Z Z hc i a s3 y P X.xe I3 (t G) M O) λr s4 E=>?_),(S,I4)=E,<-S,B1h (y,P,I4,qn)]
 .erw[A8c K (thn (T.item X Z Z Z hc i a s3 y P X.xe I3 (t G) M go) λr s4 E=>?_),xea E λu S h4=>?_,<-S,A8c K (thn h4 λ_ s5 E=>?_),Ci E λx H5 I5 r5 y5 F R=>?_,Q=I5.pinned (t R) (T.obj _ _ F),A8c K (thn (hg _ s5 y H5 x u _ Q r5 (step x H5 y5)) λ_ s6 E=>?_),BM E fun aa H6 I6 q6=>A8c K (thn (p _ s6 aa H6 _ I6 q6) λf U C=>?_)];have l:∀{c:St}{j:Hp},Inv X (a++NC fp s5.heap) c j U->N c j->∃m,m<n/\∃i σ' z,Inv X a σ' z U/\tn i U.heap/\(∀b∈fp,z b=n9)/\W i m σ' z:=λ{c j} k L=>by
   erw[xea (hN c j L) λm' hm w7=>(m',hm,i+1,c,j,k.unpinned,T.keep _ _ _ F λb p o e=>(k.pin #[b,o] (M7 _ (M7 _ (Jm p e)))).1,λb p=>?_,w7)]
   erw[xea (T.obj _ _ F b p) λo e d=>(k.pin #[b,o] (M7 _ (M7 _ (Jm p e)))).2.1]
  cases f with
  |next=>erw[BM C fun c j k L=>l k L]
  |cont=>erw[BM C fun c j k L=>l k L]
  |brk=>erw[BM C fun c j k C=>(c,j,k.unpinned,C)]
  |ret v=>erw[Dl C λx7 c j k r7 C=>(x7,c,j,k.unpinned,r7,C)]
end
theorem MY{K:O_}{a:R_}{xs:List V}{g:TG}{n:TS}{D:II}{σ:St}{H:Hp}(b:Nat->St->Hp->Prop)(o:b 0 σ H)(s:∀i σ H,i<=xs.length->b i σ H->SqL K H a xs)
  (t:∀i x σ H,xs[i]?=n8 x->b i σ H->g x σ H fun d j=>n {D with nx:=b (i+1),ct:=b (i+1),bk:=D.nx} d j) (r:∀σ H,b xs.length σ H->D.nx σ H) :
  ∃W:Nat->Nat->St->Hp->Prop,(∃m,W 0 m σ H)/\∀i m σ H,W i m σ H ->
   ((Itl K a).stop i H/\D.nx σ H)\/((Itl K a).go i H/\∃N:St->Hp->Prop,(∀σ' c,N σ' c->∃l,l<m/\W (i+1) l σ' c)/\∀x c,(Itl K a).yld i H x c->g x σ c fun d j=>n {D with nx:=N,ct:=N,bk:=D.nx} d j):=by
 erw[(λi m σ H=>m=xs.length-i/\i<=xs.length/\b i σ H,(xs.length,by simp,L7 _,o),?_),?i m σ H h,xa2 h λk hi p=>?_,-h,<-k,q=s i σ H hi p,(f:i<xs.length)]
 .erw[.inr ((xs,xs[i],q,by simp[f]),b (i+1),fun σ' c u=>(xs.length-(i+1),by lia,Z,f,u),λx c y=>?_),(e,y)=y,<-e,t i x σ _ (y xs q) p]
 .have e:i=xs.length:=by lia
  erw[<-e,.inl ((xs,q,C1 _),r σ H p)]
theorem aCX{K:O_}{a:R_}{xs:List V}{g:TG}{n:TS}{D:II}{σ:St}{H:Hp}(b:Nat->St->Hp->Prop)(o:b 0 σ H)(s:∀i σ H,i<=xs.length->b i σ H->SqT K H a xs)
  (t:∀i x σ H,xs[i]?=n8 x->b i σ H->g x σ H fun d j=>n {D with nx:=b (i+1),ct:=b (i+1),bk:=D.nx} d j) (r:∀σ H,b xs.length σ H->D.nx σ H) :
  ∃W:Nat->Nat->St->Hp->Prop,(∃m,W 0 m σ H)/\∀i m σ H,W i m σ H ->
   ((Itt K a).stop i H/\D.nx σ H)\/((Itt K a).go i H/\∃N:St->Hp->Prop,(∀σ' c,N σ' c->∃l,l<m/\W (i+1) l σ' c)/\∀x c,(Itt K a).yld i H x c->g x σ c fun d j=>n {D with nx:=N,ct:=N,bk:=D.nx} d j):=by
 erw[(λi m σ H=>m=xs.length-i/\i<=xs.length/\b i σ H,(xs.length,by simp,L7 _,o),?_),?i m σ H h,xa2 h λk hi p=>?_,-h,<-k,q=s i σ H hi p,(f:i<xs.length)]
 .erw[.inr ((xs,xs[i],q,by simp[f]),b (i+1),fun σ' c u=>(xs.length-(i+1),by lia,Z,f,u),λx c y=>?_),(e,y)=y,<-e,t i x σ _ (y xs q) p]
 .have e:i=xs.length:=by lia
  erw[<-e,.inl ((xs,q,C1 _),r σ H p)]
theorem BX{lo:Int}{n:Nat}{g:TG}{l:TS}{D:II}{σ:St}{H:Hp}(b:Nat->St->Hp->Prop)(o:b 0 σ H)
  (r:∀i σ H,i<n->b i σ H->g (.int (lo+i)) σ H fun d h=>l {D with nx:=b (i+1),ct:=b (i+1),bk:=D.nx} d h) (q:∀σ H,b n σ H->D.nx σ H) :
  ∃W:Nat->Nat->St->Hp->Prop,(∃m,W 0 m σ H)/\∀i m σ H,W i m σ H ->
   ((Itr lo n).stop i H/\D.nx σ H)\/((Itr lo n).go i H/\∃N:St->Hp->Prop,(∀σ' a,N σ' a->∃k,k<m/\W (i+1) k σ' a)/\∀x a,(Itr lo n).yld i H x a->g x σ a fun d h=>l {D with nx:=N,ct:=N,bk:=D.nx} d h):=by
 erw[(λi m σ H=>m=n-i/\i<=n/\b i σ H,(n,by simp,L7 _,o),?_),?i m σ H f,xa2 f λj hi p=>?_,-f,<-j,(c:i<n)]
 .erw[.inr (c,b (i+1),fun σ' a s=>(n-(i+1),by lia,Z,c,s),λx a y=>?_),(e,y)=y,<-e y,r i σ _ c p]
 .have e:i=n:=by lia
  erw[<-e,.inl (C1 _,q σ H p)]
abbrev R2:=V->V->Hp->VK->Prop
def OpR(X:Cx)(f:Value->Value->Sem Value)(r:R2):Prop :=
 ∀(n7:A_)(s:P_)(σ:St)(H:Hp)(x y:V)(v u:S_)(Q:VK),Inv X n7 σ H s->Bc x v->Bc y u->r x y H Q ->
  wpAny (model X.prog X.w) X.A (f v u) (EP X n7 σ Q) X.xe s
def UnR(X:Cx)(f:Value->Sem Value)(r:V->Hp->VK->Prop):Prop :=
 ∀(n7:A_)(s:P_)(σ:St)(H:Hp)(x:V)(v:S_)(Q:VK),Inv X n7 σ H s->Bc x v->r x H Q ->
  wpAny (model X.prog X.w) X.A (f v) (EP X n7 σ Q) X.xe s
def FJ(X:Cx)(f:S_)(r:List V->Hp->VK->Prop):Prop :=
 ∀(n7:A_)(s:P_)(σ:St)(H:Hp)(xs:List V)(us:F_)(Q:VK),Inv X n7 σ H s->AT xs us->r xs H Q ->
  wpAny (model X.prog X.w) X.A (call f us) (EP X n7 σ Q) X.xe s
def tOp(r:R2)(ta tb:TE):TE:=fun σ H Q=>ta σ H λx H1=>tb σ H1 λy H2=>r x y H2 Q
def tUn(r:V->Hp->VK->Prop)(ta:TE):TE:=fun σ H Q=>ta σ H λx H1=>r x H1 Q
def rI(C:Int->Int->Prop)(g:Int->Int->V):R2:=λx y H Q=>∃i j,x=.int i/\y=.int j/\C i j/\Q (g i j) H
def rI0(g:Int->Int->V):R2:=λx y H Q=>∃i j,x=.int i/\y=.int j/\Q (g i j) H
def rU(g:Int->V):V->Hp->VK->Prop:=λx H Q=>∃i,x=.int i/\Q (g i) H
section
variable{X:Cx}{a b c:Expr}{ta tb tc:TE}{pos:Pos}
theorem aET(o:PE X a ta)(p:PE X b tb){d:A_}{s:P_}{σ:St}{H:Hp}{R:V->V->Hp->Prop}(I:Inv X d σ H s)
  (h:ta σ H λx k=>tb σ k λy e=>R x y e) {Q:B_} {f:Value->Value->Sem Value}
  (q:∀v u j x y e,Inv X d σ e j->Bc x v->Bc y u->R x y e->wpAny (model X.prog X.w) X.A (f v u) Q X.xe j) :
  wpAny (model X.prog X.w) X.A (eval a X.env) (λv g=>wpAny (model X.prog X.w) X.A (eval b X.env) (λu i=>wpAny (model X.prog X.w) X.A (f v u) Q X.xe i) X.xe g) X.xe s:=by
 erw[thn (o d s σ H _ I h) λv C l=>AK l λx k m z r=>thn (p d C σ k _ m r) λu j l=>AK l λy e n B t=>q v u j x y e n z B t]
theorem AE(k:OpR X (binaryOp e) r)(i:PE X a ta)(j:PE X b tb):PE X (.BinOp a e b pos) (tOp r ta tb):=by
 erw[?d s σ H Q I h,wpAny_BinOp (aET i j I h λv u n x y f g l m q=>k d n σ f x y v u Q g l m q)]
theorem Fo{r:V->Hp->VK->Prop}(j:UnR X (unaryOp e) r)(i:PE X a ta):PE X (.UnaryOp e a pos) (tUn r ta):=by
 erw[?d s σ H Q I h,UnaryOp_ (thn (i d s σ H _ I h) λv m ⟨x,f,g,l,k⟩=>j d m σ f x v Q g l k)]
theorem opI{f:Value->Value->Sem Value}{C:Int->Int->Prop}{g:Int->Int->Int}
  (d:∀(i j:Int)(t u:Tok)(s:P_)(Q:B_)(E:B_),C i j->Q (.int (g i j) s.toks) {s with toks:=s.toks+1}->wpAny (model X.prog X.w) X.A (f (.int i t) (.int j u)) Q E s) :
  OpR X f (rI C λi j=>.int (g i j)):=by
 erw[?l s σ H x y v u Q I n o h,CG h λi j e k m q=>?_,-h,<-e,<-k,(t,rfl)=n,(t',rfl)=o,d i j t t' s _ _ m (.int (g i j),H,I.tok _,(_,Z),q)]
theorem aFQ{f:Value->Value->Sem Value}{g:Int->Int->Int}
  (d:∀(i j:Int)(t u:Tok)(s:P_)(Q:B_)(E:B_),Q (.int (g i j) s.toks) {s with toks:=s.toks+1}->wpAny (model X.prog X.w) X.A (f (.int i t) (.int j u)) Q E s) :
  OpR X f (rI0 λi j=>.int (g i j)):=by
 erw[?l s σ H x y v u Q I m n h,AK h λi j e k q=>?_,-h,<-e,<-k,(t,rfl)=m,(t',rfl)=n,d i j t t' s _ _ (.int (g i j),H,I.tok _,(_,Z),q)]
theorem aFP{f:Value->Value->Sem Value}{g:Int->Int->Bool}
  (d:∀(i j:Int)(t u:Tok)(s:P_)(Q:B_)(E:B_),Q (.bool (g i j)) s->wpAny (model X.prog X.w) X.A (f (.int i t) (.int j u)) Q E s) :
  OpR X f (rI0 λi j=>.bl (g i j)):=by
 erw[?l s σ H x y v u Q I m n h,AK h λi j e k q=>?_,-h,<-e,<-k,(t,rfl)=m,(t',rfl)=n,d i j t t' s _ _ (.bl (g i j),H,I,Z,q)]
def CDiv(i j:Int):Prop:=0<j/\j<1073741824
def CPow(i j:Int):Prop:=0<=j/\j<=1000000/\i.natAbs<2^64
def CMul(i j:Int):Prop:=(-(2^64)<i/\i<2^64)\/(-(2^64)<j/\j<2^64)
theorem CMul.ok{i j:Int}(h:CMul i j):IntMulOk i j:=by
 rcases h with ⟨d,e⟩|⟨d,e⟩
 .erw[.of_left (intBits_le_64 d e)]
 .erw[.of_right (intBits_le_64 d e)]
theorem UY(k:Nat):(0:Int)<=2^k:=by
 erw[[two_pow_cast],O4 _]
theorem AO:OpR X (binaryOp .Add) (rI0 λi j=>.int (i+j)):=aFQ λ_ _ _ _ _ _ _ q=>add_int q
theorem Cs:OpR X (binaryOp .Sub) (rI0 λi j=>.int (i-j)):=aFQ λ_ _ _ _ _ _ _ q=>sub_int q
theorem Ec:OpR X (binaryOp .Mult) (rI CMul λi j=>.int (i*j)):=opI λ_ _ _ _ _ _ _ d q=>mul_int q d.ok
theorem CU:OpR X (binaryOp .FloorDiv) (rI CDiv λi j=>.int (i/j)):=opI λi j _ _ _ _ _ e q=>by
 erw[d=e.1,f=e.2,floordiv_int (A2b d) (by erw[[Z6 i (Z3 d)],q]) (.inl (PyProof.noPylong_small A3))]
theorem Bu:OpR X (binaryOp .Mod) (rI (λ_ j=>0<j) λi j=>.int (i%j)):=opI λi j _ _ _ _ _ d q=>by
 erw[e=d,mod_int' (A2b d) (by erw[[Int.fmod_eq_emod_of_nonneg i (Z3 d)],q])]
theorem NH:OpR X (binaryOp .LShift) (rI CPow λi j=>.int (i*2^j.toNat)):=opI λ_ _ _ _ _ _ _ d q=>lshift_int_small d.1 d.2.1 d.2.2 q
theorem aFT:OpR X (binaryOp .RShift) (rI (λ_ j=>0<=j) λi j=>.int (i/2^j.toNat)):=opI λi j _ _ _ _ _ d q =>
 rshift_int d (by rw[Z6 i (UY _)];exact q)
theorem aFR:OpR X (binaryOp .BitAnd) (rI0 λi j=>.int (Builtin.bitAnd i j)):=aFQ λ_ _ _ _ _ _ _ q=>and_int q
theorem unI{f:Value->Sem Value}{g:Int->Int}
  (d:∀(i:Int)(t:Tok)(s:P_)(Q:B_)(E:B_),Q (.int (g i) s.toks) {s with toks:=s.toks+1}->wpAny (model X.prog X.w) X.A (f (.int i t)) Q E s) :
  UnR X f (rU λi=>.int (g i)):=by
 erw[?j s σ H x v Q I k h,xea h λi e q=>?_,-h,<-e,(t,rfl)=k,d i t s _ _ (.int (g i),H,I.tok _,(_,Z),q)]
theorem Dp:UnR X (unaryOp .USub) (rU λi=>.int (-i)):=unI λ_ _ _ _ _ q=>neg_int q
end
noncomputable def aHP:V->V->Bool
|.non,.non=>o0|.non,.int _=>o0|.int _,.non=>o0|.non,.bl _=>o0|.bl _,.non=>o0|.non,.str _=>o0|.str _,.non=>o0
|.int _,.int _=>o0|.bl _,.bl _=>o0|.str _,.str _=>o0|.byt _,.byt _=>o0
|.int _,.str _=>o0|.str _,.int _=>o0|.bl _,.str _=>o0|.str _,.bl _=>o0
|_,_=>o3
def rEq:R2:=λx y H Q=>aHP x y=o0/\Q (.bl (decide (x=y))) H
def rNe:R2:=λx y H Q=>aHP x y=o0/\Q (.bl (!decide (x=y))) H
theorem Jq{i j:Int}:decide (V.int i=V.int j)=(i==j):=by
 rw[T5];simp
theorem aA2{i j:Bool}:decide (V.bl i=V.bl j)=(i==j):=by
 rw[T5];simp
theorem Yc{i j:Str}:decide (V.str i=V.str j)=(i==j):=by
 rw[T5];simp
theorem Yd{i j:Array UInt8}:decide (V.byt i=V.byt j)=(i.toList==j.toList):=by
 erw[[T5],!i,!j];simp
section
variable{X:Cx}{a b c:Expr}{ta tb tc:TE}{pos:Pos}
theorem Bk{k f:Bool}(I:Inv X d σ H s)(q:Q (.bl k) H)(e:k=f):EP X d σ Q (.bool f) s:=by
 erw[<-e,(.bl k,H,I,Z,q)]
theorem DR:OpR X (compareOp .Eq) rEq:=by
 erw[?g s σ H x y v u Q I f d h,(e,q)=h];cases x with
 |non =>
  cases f;cases y with
  |non=>erw[!d,PySem.EqNone.eq_none_none (Bk I q B0)]
  |bl j=>erw[!d,PySem.EqNone.eq_none_bool (Bk I q B0)]
  |int j=>erw[(t',rfl)=d,PySem.EqNone.eq_none_int (Bk I q B0)]
  |str j=>erw[(t',rfl)=d,PySem.EqNone.eq_none_str (Bk I q B0)]
  |_=>erw[absurd (show o3=o0 from e) F6]
 |bl i =>
  cases f;cases y with
  |non=>erw[!d,PySem.EqNone.eq_bool_none (Bk I q B0)]
  |bl j=>erw[!d,eq_bool (Bk I q aA2)]
  |str j=>erw[(t',rfl)=d,PySem.EqMixed.eq_bool_str (Bk I q B0)]
  |_=>erw[absurd (show o3=o0 from e) F6]
 |int i =>
  erw[(t,rfl)=f];cases y with
  |non=>erw[!d,PySem.EqNone.eq_int_none (Bk I q B0)]
  |int j=>erw[(t',rfl)=d,eq_int (Bk I q Jq)]
  |str j=>erw[(t',rfl)=d,PySem.EqMixed.eq_int_str (Bk I q B0)]
  |_=>erw[absurd (show o3=o0 from e) F6]
 |str i =>
  erw[(t,rfl)=f];cases y with
  |non=>erw[!d,PySem.EqNone.eq_str_none (Bk I q B0)]
  |bl j=>erw[!d,PySem.EqMixed.eq_str_bool (Bk I q B0)]
  |int j=>erw[(t',rfl)=d,PySem.EqMixed.eq_str_int (Bk I q B0)]
  |str j=>erw[(t',rfl)=d,eq_str (Bk I q Yc)]
  |_=>erw[absurd (show o3=o0 from e) F6]
 |byt i =>
  erw[(t,rfl)=f];cases y with
  |byt j=>erw[(t',rfl)=d,W.eq_bytes (Bk I q Yd)]
  |_=>erw[absurd (show o3=o0 from e) F6]
 |_=>cases y<;>exact absurd (show o3=o0 from e) F6
theorem IB:OpR X (compareOp .NotEq) rNe:=by
 erw[?g s σ H x y v u Q I f d h,(e,q)=h];cases x with
 |non =>
  cases f;cases y with
  |non=>erw[!d,PySem.EqNone.ne_none_none (Bk I q B0)]
  |bl j=>erw[!d,PySem.EqNone.ne_none_bool (Bk I q B0)]
  |int j=>erw[(t',rfl)=d,PySem.EqNone.ne_none_int (Bk I q B0)]
  |str j=>erw[(t',rfl)=d,PySem.EqNone.ne_none_str (Bk I q B0)]
  |_=>erw[absurd (show o3=o0 from e) F6]
 |bl i =>
  cases f;cases y with
  |non=>erw[!d,PySem.EqNone.ne_bool_none (Bk I q B0)]
  |bl j=>erw[!d,ne_bool (Bk I q (A4e not aA2))]
  |str j=>erw[(t',rfl)=d,PySem.EqMixed.ne_bool_str (Bk I q B0)]
  |_=>erw[absurd (show o3=o0 from e) F6]
 |int i =>
  erw[(t,rfl)=f];cases y with
  |non=>erw[!d,PySem.EqNone.ne_int_none (Bk I q B0)]
  |int j=>erw[(t',rfl)=d,ne_int (Bk I q (A4e not Jq))]
  |str j=>erw[(t',rfl)=d,PySem.EqMixed.ne_int_str (Bk I q B0)]
  |_=>erw[absurd (show o3=o0 from e) F6]
 |str i =>
  erw[(t,rfl)=f];cases y with
  |non=>erw[!d,PySem.EqNone.ne_str_none (Bk I q B0)]
  |bl j=>erw[!d,PySem.EqMixed.ne_str_bool (Bk I q B0)]
  |int j=>erw[(t',rfl)=d,PySem.EqMixed.ne_str_int (Bk I q B0)]
  |str j=>erw[(t',rfl)=d,ne_str (Bk I q (A4e not Yc))]
  |_=>erw[absurd (show o3=o0 from e) F6]
 |byt i =>
  erw[(t,rfl)=f];cases y with
  |byt j=>erw[(t',rfl)=d,W.ne_bytes (Bk I q (A4e not Yd))]
  |_=>erw[absurd (show o3=o0 from e) F6]
 |_=>cases y<;>exact absurd (show o3=o0 from e) F6
theorem IC:OpR X (compareOp .Lt) (rI0 λi j=>.bl (decide (i<j))):=aFP λ_ _ _ _ _ _ _ q=>lt_int q
theorem MO:OpR X (compareOp .LtE) (rI0 λi j=>.bl (decide (i<=j))):=aFP λ_ _ _ _ _ _ _ q=>le_int q
theorem Ua:OpR X (compareOp .Gt) (rI0 λi j=>.bl (decide (j<i))):=aFP λ_ _ _ _ _ _ _ q=>gt_int q
theorem YL:OpR X (compareOp .In) (λx y H Q=>∃i j,x=.str i/\y=.str j/\Q (.bl (!(Builtin.Str.occurrences j i 0 j.length 1).isEmpty)) H):=by
 erw[?f s σ H x y v u Q I g k h,AK h λi j d e q=>?_,-h,<-d,<-e,(t,rfl)=g,(t',rfl)=k,in_str (Bk I q Z)]
theorem Jl:OpR X (compareOp .Is) (λx y H Q=>y=.non/\Q (.bl (decide (x=.non))) H):=by
 intro d s σ H x y v u Q I e f h;obtain⟨rfl,q⟩:=h;cases f;refine is_none_gen (Bk I q ?_);cases x<;>first
  | (cases e;rfl)
  | (obtain⟨t,rfl⟩:=e;rfl)
theorem Si:OpR X (compareOp .IsNot) (λx y H Q=>y=.non/\Q (.bl (!decide (x=.non))) H):=by
 intro d s σ H x y v u Q I e f h;obtain⟨rfl,q⟩:=h;cases f;refine isnot_none_gen (Bk I q ?_);cases x<;>first
  | (cases e;rfl)
  | (obtain⟨t,rfl⟩:=e;rfl)
theorem MN:OpR X (compareOp .NotIn) (λx y H Q=>∃i j,x=.str i/\y=.str j/\Q (.bl (!(!(Builtin.Str.occurrences j i 0 j.length 1).isEmpty))) H):=by
 erw[?f s σ H x y v u Q I g k h,AK h λi j d e q=>?_,-h,<-d,<-e,(t,rfl)=g,(t',rfl)=k,notIn_str (Bk I q Z)]
theorem AF(b:Expr)(h:d≠.In:=by decide)(g:d≠.NotIn:=by decide):behindInMarks d b=o3:=by
 have e:(d==CmpOp.In)=o3:=by cases d<;>first|rfl|exact absurd rfl h
 have f:(d==CmpOp.NotIn)=o3:=by cases d<;>first|rfl|exact absurd rfl g
 cases b<;>first|rfl|(unfold behindInMarks;dsimp only;rw[e,f,Bool.or_self,Bool.and_false,Bool.false_and])
theorem FO(l:OpR X (compareOp e) r)(i:PE X a ta)(j:PE X b tb)(k:behindInMarks e b=o3):PE X (.Compare a [e] [b] pos) (tOp r ta tb):=by
 erw[?d s σ H Q I h,wpAny_Compare1 (aET i j I h λv u o x y f g m n q=>l d o σ f x y v u Q g m n q) k]
def aEL(t:TE):TT:=fun σ H Q=>t σ H λx H'=>∃k,x=.bl k/\Q k H'
theorem Ay(t:OpR X (compareOp f) r)(o:PE X a ta)(p:PE X b tb)(q:behindInMarks f b=o3):PT X (.Compare a [f] [b] pos) (aEL (tOp r ta tb)):=by
 intro d s σ H Q I h;refine wpAny_isTrue_Compare1 (thn (o d s σ H _ I h) λv F ⟨x,g,l,C,w⟩=>thn (p d F σ g _ l w) λu G ⟨y,i,m,D,A⟩ =>
  thn (t d G σ i x y v u _ m C D A) λc K ⟨z,j,n,E,k,e,B⟩=>?_) q
 erw[<-e,!E,A5h (j,n,B)]
def ZO(r r':R2)(ta tb tc:TE):TE:=fun σ H Q=>ta σ H λx H1=>tb σ H1 λy H2=>r x y H2 λz H3=>∃k,z=.bl k /\
 (if k=o0 then tc σ H3 λw' H4=>r' y w' H4 Q else Q (.bl o3) H3)
theorem aB5{j g:CmpOp}(K:OpR X (compareOp j) r)(i:OpR X (compareOp g) o)(D:PE X a ta)(E:PE X b tb)(F:PE X c tc)
  (G:lastMarks [j,g] [b,c]=o3:=by with_unfolding_all rfl):PE X (.Compare a [j,g] [b,c] pos) (ZO r o ta tb tc):=by
 intro f s σ H Q I h;refine Compare_chain (thn (D f s σ H _ I h) λv S ⟨x,q,A,O,L⟩=>chain_link (thn (E f S σ q _ A L) λu T ⟨y,t,B,p,M⟩ =>
  thn (K f T σ t x y v u _ B O p M) λd U ⟨z,l,m,P,k,e,n⟩=>?_)) G
 erw[<-e,!P,A5h ?_];cases k with
 |false=>erw[ite_ff (.bl o3,l,m,Z,n)]
 |true=>erw[ite_tt (chain_last (thn (F f U σ l _ m n) λW V ⟨Y,w,C,R,N⟩=>i f V σ w y Y u W Q C p R N))]
theorem TV{j g:CmpOp}(O:OpR X (compareOp j) r)(i:OpR X (compareOp g) o)(K:PE X a ta)(L:PE X b tb)(M:PE X c tc)
  (N:lastMarks [j,g] [b,c]=o3:=by with_unfolding_all rfl):PT X (.Compare a [j,g] [b,c] pos) (aEL (ZO r o ta tb tc)):=by
 intro f s σ H Q I h;refine isTrue_chain (thn (K f s σ H _ I h) λv s1 ⟨x,q,B,V,R⟩=>test_link (thn (L f s1 σ q _ B R) λu s2 ⟨y,t,C,p,S⟩ =>
  thn (O f s2 σ t x y v u _ C V p S) λd s3 ⟨z,l,m,W,k,e,n⟩=>?_)) N
 erw[<-e,!W,A5h ?_];cases k with
 |false =>
  erw[xea n λk' F P=>?_,!F,ite_ff (l,m,P)]
 |true =>
  erw[ite_tt (test_last (thn (M f s3 σ l _ m n) λw' s4 ⟨z',w,D,Y,T⟩=>thn (i f s4 σ w y z' u w' _ D p Y T) λd' s5 ⟨z2,A,E,r5,k2,G,U⟩=>?_)),<-G,!r5,A5h (A,E,U)]
theorem NR:(sizeLine:Nat)<2^63:=by rw[sizeLine_eq];decide
theorem PL:OpR X (binaryOp .Add) (λx y H Q=>∃i j,x=.str i/\y=.str j/\i.length+j.length<=sizeLine/\Q (.str (i++j)) H):=by
 erw[?f s σ H x y v u Q I k l h,CG h λi j d e g q=>?_,-h,<-d,<-e,(t,rfl)=k,(t',rfl)=l,add_str (λt' tk=>(.str (i++j),H,I.tok _,(_,Z),q)) g]
theorem QY(r:AT [x] us):∃u,us=[u]/\Bc x u:=by
 cases r with
 |cons d e=>erw[!e,(_,Z,d)]
theorem aEN(r:AT [x,y] us):∃u d,us=[u,d]/\Bc x u/\Bc y d:=by
 cases r with
 |cons e f =>
  cases f with
  |cons g h=>erw[!h,(_,_,Z,e,g)]
theorem RC(g:X.calm=o0):FJ X (.builtin "max") (λxs H Q=>∃i j,xs=[.int i,.int j]/\Q (.int (if j > i then j else i)) H):=by
 erw[?f s σ H xs us Q I r h,BM h λi j e q=>?_,-h,<-e,(u,l,rfl,(t,rfl),(t',rfl))=aEN r,max_two_ints (I.ok.hd g) λh' tk k=>(_,H,I.kept k,?_,q)]
 erw[(d:j > i)]
 .erw[[A2h d,A2h d],(_,Z)]
 .erw[[A2f d,A2f d],(_,Z)]
theorem RB(g:X.calm=o0):FJ X (.builtin "min") (λxs H Q=>∃i j,xs=[.int i,.int j]/\Q (.int (if j<i then j else i)) H):=by
 erw[?f s σ H xs us Q I r h,BM h λi j e q=>?_,-h,<-e,(u,l,rfl,(t,rfl),(t',rfl))=aEN r,min_two_ints (I.ok.hd g) λh' tk k=>(_,H,I.kept k,?_,q)]
 erw[(d:j<i)]
 .erw[[A2h d,A2h d],(_,Z)]
 .erw[[A2f d,A2f d],(_,Z)]
theorem Jt:FJ X (.type "str") (λxs H Q=>∃i,xs=[.int i]/\i.natAbs.log2<1920/\Q (.str (toString i)) H):=by
 erw[?g s σ H xs us Q I r h,AI h λi d j q=>?_,-h,<-d,xea (QY r) λu d e=>xe e λt f=>?_,-e,<-d,<-f,PySem.P.str_of_int j (.str _,H,I.tok _,(_,Z),q)]
end
structure Wa(h:T_)(x dx C:R_)(mA:C_):Prop where
obj:h.get? x=n8 (instObj C dx)
ns:h.Ns1 dx mA
ne:dx≠x
theorem Zd{h:T_}{c:R_}{f:C_}(n:h.Ns1 c f):∃g,h.get? c=n8 g/\∀name,lookIn name g=n8 (f name):=by
 erw[Ch n λo d r m j k _ l=>(o,m,λname=>?_)]
 erw[e=l name];unfold nsFind findBy at e;rw[<-Array.find?_toList]at e;erw[¬lookIn,[j]];dsimp only;split
 .rename_i y q;rw[q]at e;erw[A4e n8 e]
 .rename_i q;rw[q]at e;have a:d.toList.any (·.refKey)=o3:=by
   erw[[List.any_eq_false],?y p,xe2 (k y (Array.mem_toList_iff.mp p)) λz t b=>?_];simp[DictEntry.refKey,b]
  have i:¬d.toList.any (·.refKey)=o0:=by erw[[a],F6]
  erw[[A2f i],A4e n8 e]
theorem Wa.look{c:C_}(I:Wa h x b C c):∃a,W.InstAt h x (instObj C b) C (n8 a)/\∀name,lookIn name a=n8 (c name) :=
 let ⟨a,ho,hl⟩:=Zd I.ns
 (a,(I.obj,Z,Z,ho),hl)
section
variable{prog:N_}{w:Q_}{A:Around}{E:B_}{s:P_}{K:O_}{x dx C f:R_}{mA:C_}{name:Str}{v:S_}
theorem aCY(X:K.In s.heap)(I:Wa s.heap x dx C mA)(d:plainGet K C name=o0)(e:hasDictIn K C=o0)
  (c:findIn K (.ref C) name=n8 n9) (i:mA name=n8 v) (b:handedIn v=o0) (h:Q v {s with toks:=s.toks+1}) :
  wpAny (model prog w) A (getAttr (.ref x) name a) Q E s:=by
 erw[xea I.look λj J g=>W.get_value X J (B1d d).1 (W.findObj_own e c Z (by rw[g,i])) b h]
theorem aBG(X:K.In s.heap)(I:Wa s.heap x dx C mA)(a:plainGet K C name=o0)
  (b:findIn K (.ref C) name=n8 (n8 (.ref f))) (d:isFn K (.ref f)=o0) (e:mA name=n9) (h:Q #[.ref f,[.ref x]] s) :
  wpAny (model prog w) A (getMethod (.ref x) name pl) Q E s:=by
 erw[xea I.look λg J c=>W.method_fn X J (B1d a).1 (B1d a).2 b (beq_iff_eq.mp d) (by show(lookIn name g).map (·.isSome)=n8 o3;rw[c,e];rfl) h]
theorem aDF{ns:K_}(X:K.In s.heap)(I:Wa s.heap x dx C mA)
  (p:findIn K (.ref C) "__setattr__" = n8 (n8 (.builtin "object.__setattr__"))) (o:plainOver K C=o0) (q:takerIn K C name=n8 n9) (n:hasDictIn K C=o0)
  (t:PySem.Within mA ns) (hsz:ns.length<=sizeLine)
  (h:∀h',Wa h' x dx C (λy=>if y=name then n8 v else mA y)->Heap.SameBut dx s.heap h'->Q () {s with heap:=h',toks:=s.toks+2}) :
  wpAny (model prog w) A (setAttr (.ref x) name v) Q E s:=by
 erw[xea I.look λF J B=>W.set_plain X J p (W.osa_open (s:={s with toks:=s.toks+1}) (r:=n9) X J o q λb=>?_),xea (any_some n) λz m g=>?_,u=I.obj,A2e (A3c (A2e (A2e (wpAny_loadPart u (A2e (W.Looks.here (s:={s with toks:=s.toks+1}) (W.looks_clsIn X m) ?_)))))),[g],A3c (a:=n8 dx) (A2e (A3c (A2e ?_))),wpAny_nsSet1 (s:={s with toks:=s.toks+1}) I.ns λh' c d=>Dl (c.count (PySem.Within.cons name v t)) λD l k j i e=>A2e (wpAny_lookBehind j (by erw[[i],pastItsLine_dict (C9 e (by erw[[F2],U3 hsz A6]))]) ?_),A3c (h _ ((d.2 _ (A3f I.ne)).trans I.obj,c,I.ne) d)]
theorem aBZ(X:K.In s.heap)(e:makesIn K C=o0)
  (hi:findIn K (.ref C) "__init__" = n8 (n8 (.ref f))) (c:W.typeIn K (.ref f)=n8 (.type "function"))
  (h:codeAny (model prog w) (A.under (.builtin "type.__call__" (.ref C::vs,b))) (.call (.ref f) (.ref (s.heap.objs.size+1)::vs,b)) (W.InitBack (s.heap.objs.size+1) R)
   {s with heap:=(s.heap.push emptyDict).push (instObj C s.heap.objs.size)}) :
  codeAny (model prog w) A (.call (.ref C) (vs,b)) R s:=by
 erw[(i,g,d,t,j)=s,W.make_core (W.makes_of X e) (W.looks_findIn X hi) (λa=>W.bind_fn X a c) (.inl Z) h]
end
noncomputable def AU(f:Str)(v:V):List (Str×V)->List (Str×V)
|[]=>[#[f,v]]
| (g,x)::r=>if g=f then#[g,v]::r else#[g,x]::AU f v r
theorem Ak(f g:Str)(v:V):∀fs:List (Str×V),(AU f v fs).lookup g=if g=f then n8 v else fs.lookup g
|[]=>by
 erw[(_:List.lookup g [#[f,v]]=_),(h:g=f)]
 .erw[a=beq_iff_eq.mpr h];simp only[List.lookup,a,A2h h]
 .erw[a=beq_eq_false_iff_ne.mpr h];simp only[List.lookup,a,A2f h]
| (k,x)::r=>by
 erw[c=Ak f g v r];rw[show AU f v (#[k,x]::r)=(if k=f then#[k,v]::r else#[k,x]::AU f v r)from rfl];erw[(b:k=f)]
 .erw[[A2h b],(h:g=k)]
  .erw[a=beq_iff_eq.mpr h];simp only[List.lookup,a,A2h (h.trans b)]
  .erw[a=beq_eq_false_iff_ne.mpr h];simp only[List.lookup,a,A2f (λe:g=f=>h (e.trans b.symm))]
 .erw[[A2f b],(h:g=k)]
  .erw[a=beq_iff_eq.mpr h];simp only[List.lookup,a,A2f (λe:g=f=>b (h.symm.trans e))]
  .erw[a=beq_eq_false_iff_ne.mpr h];simp only[List.lookup,a];erw[c]
theorem NS(f:Str)(v:V):∀fs:List (Str×V),f∈(AU f v fs).map (·.1)/\∀g,g∈fs.map (·.1)->g∈(AU f v fs).map (·.1)
|[]=>(by simp[AU],λg h=>by simp at h)
| (k,x)::r=>by
 erw[(b,c)=NS f v r];rw[show AU f v (#[k,x]::r)=(if k=f then#[k,v]::r else#[k,x]::AU f v r)from rfl];erw[(a:k=f)]
 .erw[[A2h a],<-a,(by simp,λg h=>by simpa using h)]
 .erw[[A2f a],(?_,λg h=>?_)]
  .erw[[J0],D6 _ b]
  .rw[J0]at h⊢;rcases C4.mp h with e|e
   .erw[C4.mpr (.inl e)]
   .erw[D6 _ (c g e)]
theorem BK(f:Str)(v:V):∀fs:List (Str×V),(AU f v fs).length<=fs.length+1
|[]=>by simp[AU]
| (k,x)::r=>by
 erw[b=BK f v r];rw[show AU f v (#[k,x]::r)=(if k=f then#[k,v]::r else#[k,x]::AU f v r)from rfl];erw[(a:k=f)]
 .erw[[A2h a,F2,F2],F5 _ _]
 .erw[[A2f a,F2,F2],U3 b A6]
theorem JF.some_of(r:JF (n8 v) o):∃u,o=n8 u/\Bc v u:=by
 cases o with
 |none=>exact(show False from r).elim
 |some u=>exact(u,Z,r)
theorem JF.none_of(r:JF n9 o):o=n9:=by
 cases o with
 |none=>rfl
 |some u=>exact(show False from r).elim
theorem Zn(r:Bc v u):handedIn u=o0:=by
 cases v with
 |non=>cases(show u=Value.none from r);rfl
 |bl b=>cases(show u=Value.bool b from r);rfl
 |int i=>erw[(t,e)=(show ∃t,u=Value.int i t from r),!e];rfl
 |str x=>erw[(t,e)=(show ∃t,u=Value.str x t from r),!e];rfl
 |byt b=>erw[(t,e)=(show ∃t,u=Value.bytes b t from r),!e];rfl
 |flt b=>erw[(t,e)=(show ∃t,u=Value.float b t from r),!e];rfl
 |ref a=>cases(show u=Value.ref a from r);rfl
 |ty n=>cases(show u=Value.type n from r);rfl
section
variable{P:N_}{w:Q_}{H H':Hp}{h h':T_}{a C dx:R_}{fs fs':List (Str×V)}
theorem OV(c:HOk P w H h)(e:H a=n8 (.ins C dx fs)):∃b,Wa h a dx C b/\(∀f,JF (fs.lookup f) (b f))/\PySem.Within b (fs.map (·.1))/\fs.length<=1000/\H dx=n8 (.own a):=by
 erw[(d,z,ne,g,b,n,r,q)=(show BU P w H h a (.ins C dx fs)from c a _ e)]
 exact(b,(g,n,ne),r,q,z,d)
end
structure Cls(K:O_)(C:R_):Prop where
pg:plainGet K C Str.empty=o0
hd:hasDictIn K C=o0
po:plainOver K C=o0
sa:findIn K (.ref C) "__setattr__" = n8 (n8 (.builtin "object.__setattr__"))
theorem Cls.get{K:O_}{C:R_}(c:Cls K C)(f:Str):plainGet K C f=o0:=c.pg
def BP(K:O_)(C:R_)(f:Str):Prop:=findIn K (.ref C) f=n8 n9
theorem BP.taker{K:O_}{C:R_}{f:Str}(n:BP K C f):takerIn K C f=n8 n9:=by
 unfold takerIn;rw[show findIn K (.ref C) f=n8 n9 from n];rfl
structure QB(K:O_)(C:R_)(m:Str)(f:R_):Prop where
at_:findIn K (.ref C) m=n8 (n8 (.ref f))
fn:isFn K (.ref f)=o0
kp:keepIn K (.ref f)=o0
section
variable{X:Cx}{n7:A_}{σ:St}{H:Hp}{s:P_}{a C dx:R_}{fs:List (Str×V)}{f:Str}{v:V}{A:Around}{E:B_}
theorem VR(I:Inv X n7 σ H s)(e:H a=n8 (.ins C dx fs))(c:Cls X.K C)(n:BP X.K C f)(l:fs.lookup f=n8 v)
  (h:∀u i,Inv X n7 σ H i->Bc v u->Q u i):wpAny (model X.prog X.w) A (getAttr (.ref a) f b) Q E s:=by
 erw[CP (OV I.hok e) λk O r _ d=>xa d λ_ _=>xea (JF.some_of (v:=v) (o:=k f) (by erw[[-l],r f])) λu j g=>aCY I.kIn O (c.get f) c.hd n j (Zn g) (h u _ (I.tok _) g)]
theorem VQ(I:Inv X n7 σ H s)(e:H a=n8 (.ins C dx fs))(c:Cls X.K C)(k:QB X.K C m g)(l:fs.lookup m=n9)
  (h:Q #[.ref g,[.ref a]] s):wpAny (model X.prog X.w) A (getMethod (.ref a) m pl) Q E s:=by
 erw[CP (OV I.hok e) λi O r _ b=>xa b λ_ _=>?_,d=JF.none_of (by erw[[-l],r m]),aBG I.kIn O (c.get m) k.at_ k.fn d h]
theorem Vf(I:Inv X n7 σ H s)(e:H a=n8 (.ins C dx fs))(c:Cls X.K C)(n:BP X.K C f)(L:fs.length<1000)(F:Bc y u)
  (h:∀m,Inv X n7 σ (upd H a (.ins C dx (AU f y fs))) m->Q () m):wpAny (model X.prog X.w) A (setAttr (.ref a) f u) Q E s:=by
 erw[CP (OV I.hok e) λl O r p d=>xa d λ_ k=>?_,(D:(fs.map (·.1)).length<=sizeLine)=by erw[[C0,sizeLine_eq],C9 d.1 A6]]
 erw[aDF I.kIn O c.sa c.po n.taker c.hd p D λh' i G=>h _ ?_];have j:∃o,h'.get? dx=n8 o:=let ⟨o,_,_,e',_⟩:=i.ns;(o,e');refine I.write (x:=a) (e:=dx) (by rw[e];exact True.intro) (.inr k) (λb q t z=>(G.2 b t).trans z) j (by rw[Aq O.ne];exact k,?_,O.ne,i.obj,_,i.ns,λg=>?_,λg B=>?_)
 .have:=BK f y fs;lia
 .erw[(_:JF ((AU f y fs).lookup g) (if g=f then n8 u else l g)),[Ak],(q:g=f)]
  .erw[[A2h q,A2h q],F]
  .erw[[A2f q,A2f q],r g]
 .erw[(q:g=f)]
  .erw[[q],(NS f y fs).1]
  .erw[(NS f y fs).2 g (p g λz=>B ?_),(_:(if g=f then n8 u else l g)=n9),[A2f q],z]
theorem Inv.made(I:Inv X n7 σ H s):Inv X n7 σ (upd (upd H s.heap.objs.size (.own (s.heap.objs.size+1))) (s.heap.objs.size+1) (.ins C s.heap.objs.size []))
  {s with heap:=(s.heap.push emptyDict).push (instObj C s.heap.objs.size)}:=by
 have c:(s.heap.push emptyDict).get? s.heap.objs.size=n8 emptyDict:=F4 s.heap Z;have g:((s.heap.push emptyDict).push (instObj C s.heap.objs.size)).get? (s.heap.objs.size+1)=n8 (instObj C s.heap.objs.size):=by
  have:=F4 (s.heap.push emptyDict) (o:=instObj C s.heap.objs.size) Z
  rwa [O9]at this
 have h:(s.heap.push emptyDict).Ns s.heap.objs.size (λ_=>n9):=(emptyDict,#[],_,c,Z,(λe i=>absurd i B0),λ_=>Z)
 erw[d=I.laid (a:=s.heap.objs.size) (o:=.own (s.heap.objs.size+1)) (h':=s.heap.push emptyDict) (t':=s.toks) (λb u q=>C6 _ q) (C1 _) (_,c),d.laid (a:=s.heap.objs.size+1) (o:=.ins C s.heap.objs.size []) (t':=s.toks) (λb u q=>C6 _ q) (Z1 (O9 _ _)) ?_,(ne:s.heap.objs.size≠s.heap.objs.size+1)=L9 (P1 _),(by rw[Aq ne,Af],L7 _,ne,g,λ_=>n9,(Heap.Ns1.of_empty h).at λo q=>C6 _ q,λ_=>True.intro,λy j=>absurd rfl j)]
theorem aCM{f:Str}{s:P_}(c:attributeBase e f env (eval e env)=eval e env)
  (h:wpAny (model prog w) A (eval e env) (λo b=>wpAny (model prog w) A (getAttr o f o0) Q E b) E s):wpAny (model prog w) A (eval (.Attribute e f pos) env) Q E s :=
 Attribute_any_ h (by rw[arm_eval_Attribute,c])
end
def aHk(K:O_)(ta:TE)(f:Str):TE:=fun σ H Q=>ta σ H λx H1=>∃a C dx fs v,x=.ref a/\H1 a=n8 (.ins C dx fs)/\Cls K C/\BP K C f/\fs.lookup f=n8 v/\Q v H1
def sFld(K:O_)(ta tv:TE)(f:Str):TS:=λD σ H=>tv σ H λy H1=>ta σ H1 λx H2=>∃a C dx fs,x=.ref a/\H2 a=n8 (.ins C dx fs)/\Cls K C/\BP K C f/\fs.length<1000 /\
 D.nx σ (upd H2 a (.ins C dx (AU f y fs)))
section
variable{X:Cx}{o e value:Expr}{f:Str}{pos pos' tpos:Pos}{ta tv:TE}
theorem AA(w:PE X e ta)(t:attributeBase e f X.env (eval e X.env)=eval e X.env):PE X (.Attribute e f pos) (aHk X.K ta f):=by
 erw[?b s σ H Q I h,aCM t (thn (w b s σ H _ I h) λu B r=>?_),AK r λx i j z d=>xe5 d λa C A fs v g=>xa5 g λp m c n l q=>?_,<-p];obtain rfl:u=Value.ref a:=z;erw[VR j m c n l λE D k y=>(v,i,k,y,q)]
theorem CT(p:PE X o ta)(t:PE X value tv)(r:swapsWith value (n8 (.Attribute o f pos')) pos.line X.env=pure o3):PS X (.Assign [.Attribute o f pos'] value pos) (sFld X.K ta tv f):=by
 erw[?b s σ H D I h,plainObj_wpAny_Assign_Attribute (thn (t b s σ H _ I h) λu B ⟨y,d,g,A,q⟩=>thn (p b B σ d _ g q) λv G ⟨x,E,i,z,a,C,F,fs,m,k,c,n,l,w⟩=>?_) r,<-m];obtain rfl:v=Value.ref a:=z;erw[Vf i k c n l A λL j=>(σ,_,j,w)]
end
section
variable{X:Cx}{n7:A_}{σ:St}{H:Hp}{s:P_}{A:Around}{E:B_}{Q:B_}{c:S_}{b:Bool}
inductive Oc(K:O_)(H:Hp):V->Value->Prop where
|non:Oc K H .non (.type "NoneType")
|bl (x:Bool):Oc K H (.bl x) (.type "bool")
|int (i:Int):Oc K H (.int i) (.type "int")
|str (x:Str):Oc K H (.str x) (.type "str")
|flt (x:UInt64):Oc K H (.flt x) (.type "float")
|lst {a:R_} {xs:List V} (e:H a=n8 (.lst xs)):Oc K H (.ref a) (.type "list")
|frz {a:R_} {o:Obj} {xs:List V} (e:H a=n8 (.frz o (.lst xs))):Oc K H (.ref a) (.type "list")
|tup {a:R_} {xs:List V} (e:H a=n8 (.tup xs)):Oc K H (.ref a) (.type "tuple")
|dK {a:R_} {kvs:List (Key×V)} (e:H a=n8 (.dK kvs)):Oc K H (.ref a) (.type "dict")
|dT {a:R_} {kvs:List (List Key×V)} (e:H a=n8 (.dT kvs)):Oc K H (.ref a) (.type "dict")
|ins {a C dx:R_} {fs:List (Str×V)} (e:H a=n8 (.ins C dx fs)) (cl:Cls K C) (ha:findIn K (.ref C) "__class__" = n8 (n8 (.builtin "object.__class__")))
  (hn:specialIn K (.builtin "object.__class__") "__get__" = n8 (n8 (.builtin "getset_descriptor.__get__"))) (htk:takesIn K (.builtin "object.__class__")=n8 o0)
  (hm:mroIn K C (.type "object")=n8 o0):Oc K H (.ref a) (.ref C)
theorem Zk{u t:S_}(I:Inv X n7 σ H s)(f:Bc x u)(L:Oc X.K H x t)(e:kitOne X.K t c=n8 b)(h:∀tk,Q (.bool b) {s with toks:=tk}) :
  wpAny (model X.prog X.w) A (call (.builtin "isinstance") [u,c]) Q E s:=by
 cases L with
 |non=>erw[!(show u=Value.none from f),A5g W.kitx_none I.kIn True.intro e (λz=>nomatch z) h]
 |bl y=>erw[!(show u=Value.bool y from f),A5g W.kitx_bool I.kIn True.intro e (λz=>nomatch z) h]
 |int i=>erw[(t,q)=(show ∃t,u=Value.int i t from f),!q,A5g W.kitx_int I.kIn True.intro e (λz=>nomatch z) h]
 |str y=>erw[(t,q)=(show ∃t,u=Value.str y t from f),!q,A5g W.kitx_str I.kIn True.intro e (λz=>nomatch z) h]
 |flt y=>erw[(t,q)=(show ∃t,u=Value.float y t from f),!q,A5g W.kitx_float I.kIn True.intro e (λz=>nomatch z) h]
 |@lst a xs d =>
  erw[!(show u=Value.ref a from f),Od (show BU X.prog X.w H s.heap a (.lst xs)from I.hok a _ d) λ_ _ n _ g=>A5g kitx_list I.kIn (_,g,Z) e (λz=>nomatch z) h]
 |@frz a G xs d =>
  erw[!(show u=Value.ref a from f),(_,_,_,n,_,g)=(show BU X.prog X.w H s.heap a (.frz G (.lst xs))from I.hok a _ d)]
  erw[A5g kitx_list I.kIn (_,g,Z) e (λz=>nomatch z) h]
 |@tup a xs d =>
  erw[!(show u=Value.ref a from f),JC (show BU X.prog X.w H s.heap a (.tup xs)from I.hok a _ d) λ_ _ _ p=>AI p λo g j _=>A5g W.kitx_tuple I.kIn (o,g,j) e (λz=>nomatch z) h]
 |@dK a kvs d =>
  erw[!(show u=Value.ref a from f),CW (show BU X.prog X.w H s.heap a (.dK kvs)from I.hok a _ d) λ_ _ vs _ p=>Dl p λo v r g j _=>A5g kitx_dict I.kIn (o,g,j.1) e (λz=>nomatch z) h]
 |@dT a kvs d =>
  erw[!(show u=Value.ref a from f),CW (show BU X.prog X.w H s.heap a (.dT kvs)from I.hok a _ d) λ_ _ xs _ l=>Dl l λo v r g j _=>A5g kitx_dict I.kIn (o,g,j.1) e (λz=>nomatch z) h]
 |@ins a C M fs d m B F k D =>
  erw[!(show u=Value.ref a from f),xea (OV I.hok d) λN O _=>xea O.look λP J _=>A5g (W.kitx_own (m.get _) m.hd B F k D) I.kIn J e (λz=>nomatch z) h]
end
structure De(k:Nat)(A:Around):Prop where
hd:A.handled=n9
dp:A.depth+3*k+5<recursionLimit
un:A.units+16*k+200<cLine
theorem De.mono{j k:Nat}(r:De k A)(h:j<=k):De j A:=(r.hd,by have:=r.dp;lia,by have:=r.un;lia)
theorem De.deeper{k:Nat}(r:De (k+1) A)(env:Env):De k (A.deeper env) :=
 (r.hd,by have:=r.dp;show A.depth+1+3*k+5<_;lia,by have:=r.un;show A.units+3+16*k+200<_;lia)
theorem De.in1{k:Nat}(r:De (k+1) A):De k A.in1 :=
 (r.hd,by have:=r.dp;show A.depth+3*k+5<_;lia,by have:=r.un;show A.units+1+16*k+200<_;lia)
theorem VJ{A:Around}{C:R_}{us:F_}{a:List (Str×Value)}:(A.under (.builtin "type.__call__" (.ref C::us,a))).depth=A.depth+1:=by
 first|rfl|simp[Around.under,Code.weight,Code.isCreation,Code.isGuard,Code.isCaller,Code.frames,Code.isFrame,guardIds]
theorem VI{A:Around}{C:R_}{us:F_}{a:List (Str×Value)}:(A.under (.builtin "type.__call__" (.ref C::us,a))).units=A.units+1:=by
 first|rfl|simp[Around.under,Code.cUnits,Code.frames,Code.isFrame]
theorem De.make{k:Nat}(r:De (k+1) A)(C:R_)(us:F_)(a:List (Str×Value)):De k (A.under (.builtin "type.__call__" (.ref C::us,a))) :=
 (r.hd,by have:=r.dp;rw[VJ];lia,by have:=r.un;rw[VI];lia)
theorem De.depth{k:Nat}(r:De k A):A.depth<recursionLimit:=by have:=r.dp;lia
theorem De.units{k:Nat}(r:De k A):A.units+64<cLine:=by have:=r.un;lia
def Pd:TA:=λ_ H Q=>Q [] H
def CH(ta:TE)(tr:TA):TA:=fun σ H Q=>ta σ H λx H1=>tr σ H1 λxs H2=>Q (x::xs) H2
section
variable{X:Cx}{e:Expr}{es:List Expr}{te:TE}{t:TA}{pos:Pos}
theorem Ab:PA X [] Pd:=λ_ _ _ _ H Q I h=>Calls.spliced_nil ([],H,I,.nil,h)
theorem Aa(i:PE X e te)(j:PA X es t)(k:starEach (e::es) X.env=#[o3,eval e X.env]::starEach es X.env:=by rfl):PA X (e::es) (CH te t):=by
 erw[?pos a s σ H Q I h,[k],(_:wpAny _ _ (spliced (#[o3,eval e X.env]::backTo pos (starEach es X.env))) _ _ s),B0g (thn (i a s σ H _ I h) λu p b=>?_),AK b λx c f n l=>thn (j pos a p σ c _ f l) λus q b=>AK b λxs d g o m=>(x::xs,d,g,.cons n o,m)]
def YC(t:TA):TE:=fun σ H Q=>t σ H λxs H1=>xs.length<=sizeLine/\∀p,H1 p=n9->Q (.ref p) (upd H1 p (.tup xs))
def aDM(t:TA):TE:=fun σ H Q=>t σ H λxs H1=>xs.length<=sizeLine/\∀p,H1 p=n9->Q (.ref p) (upd H1 p (.lst xs))
theorem Dv{x1}(h:PA X es t):PE X (.Tuple es x1 pos) (YC t):=by
 erw[?a s σ H Q I i,wpAny_Tuple_spliced (thn (h pos a s σ H _ I i) λus c ⟨xs,f,d,r,z,q⟩=>(by erw[[-r.length],z],?_)),g=d.hok.fresh (C1 _),(.ref c.heap.objs.size,upd f c.heap.objs.size (.tup xs),d.laid (t':=c.toks) (λb u e=>C6 _ e) (C1 _) ?_,Z,q _ g),(z,us,r,(_,F4 _ Z,Z,_,Z))]
theorem BO(h:PA X es t):PE X (.List es pos) (aDM t):=by
 erw[?a s σ H Q I i,wpAny_List_spliced (thn (h pos a s σ H _ I i) λus c ⟨xs,f,d,r,z,q⟩=>(by erw[[-r.length],z],?_)),g=d.hok.fresh (C1 _),(.ref c.heap.objs.size,upd f c.heap.objs.size (.lst xs),d.laid (t':=c.toks) (λb u e=>C6 _ e) (C1 _) ?_,Z,q _ g),(z,us,0,r,F4 _ Z)]
end
abbrev Sp:=List V->Hp->VK->XK->Prop
abbrev CXT:=List Env->Hp->Shared->XK->Value->Shared->Prop
structure OG(P:N_)(w:Q_)(K:O_)(mg:C_)(n6:T_)(A:Around)(outer:List Env)(s:P_)(H:Hp):Prop where
frames:A.frames=n8 outer
mod:Mod K mg n6
bs:∀b o,n6.get? b=n8 o->s.heap.get? b=n8 o/\H b=n9
bsz:n6.objs.size<=s.heap.objs.size
funs:s.heap.FunFrames n6 outer
frf:∀b∈frs outer,H b=n9
hok:HOk P w H s.heap
bare:AllBare s.gens
def CE(outer:List Env)(P:N_)(w:Q_)(H:Hp)(s:P_)(Q:VK)(u:S_)(s':P_):Prop :=
 ∃v H',s'.os=s.os/\AllBare s'.gens/\Un (frs outer) [] H H' s.heap s'.heap/\HOk P w H' s'.heap/\Bc v u/\Q v H'
def CR(CX:CXT)(outer:List Env)(P:N_)(w:Q_)(H:Hp)(s:P_)(Q:VK)(E:XK)(r:Result)(s':P_):Prop :=
 match r with
 |.ok (.ret u)=>CE outer P w H s Q u s'
 |.ok _=>False
 |.error e=>CX outer H s E e s'
structure AJ(P:N_)(w:Q_)(K:O_)(mg:C_)(n6:T_)(CX:CXT)(k:Nat)(f:R_)(fd:E_)(ps:K_)(sp:Sp):Prop where
len:∀vs H Q E,sp vs H Q E->vs.length=ps.length
run:∀(A:Around)(outer:List Env)(s:P_)(H:Hp)(args:Args)(us:F_)(vs:List V)(Q:VK)(E:XK),De k A->OG P w K mg n6 A outer s H->BindsTo s fd args (ps.zip us)->AT vs us->sp vs H Q E ->
 codeAny (model P w) A (.call (.ref f) args) (CR CX outer P w H s Q E) s
theorem AJ.imp{P:N_}{w:Q_}{K:O_}{mg:C_}{a:T_}{CX:CXT}{k:Nat}{f:R_}{fd:E_}{e:K_}{sp d:Sp}(F:AJ P w K mg a CX k f fd e sp)
  (h:∀vs H Q E,d vs H Q E->sp vs H Q E):AJ P w K mg a CX k f fd e d :=
 (λvs H Q E q=>F.len vs H Q E (h _ _ _ _ q),λA b s H c us vs Q E j i g m l=>F.run A b s H c us vs Q E j i g m (h _ _ _ _ l))
theorem OG.make{P:N_}{w:Q_}{K:O_}{mg:C_}{b:T_}{A:Around}{a:List Env}{s:P_}{H:Hp}(e:OG P w K mg b A a s H)(C:R_)(us:F_)(c:List (Str×Value)) :
 OG P w K mg b (A.under (.builtin "type.__call__" (.ref C::us,c))) a s H:=(by first|exact e.frames|(simpa[Around.under,Code.envs,Code.isFrame,pushEnvs] using e.frames),e.mod,e.bs,e.bsz,e.funs,e.frf,e.hok,e.bare)
theorem OG.in1{P:N_}{w:Q_}{K:O_}{mg:C_}{b:T_}{A:Around}{a:List Env}{s:P_}{H:Hp}(e:OG P w K mg b A a s H) :
 OG P w K mg b A.in1 a s H:=(e.frames,e.mod,e.bs,e.bsz,e.funs,e.frf,e.hok,e.bare)
section
variable{X:Cx}{n7:A_}{σ:St}{H:Hp}{s s':P_}
theorem Inv.env0(I:Inv X n7 σ H s):OG X.prog X.w X.K X.mg X.n6 X.A X.stack s H :=
 (I.ok.frames,I.ok.mod,I.bs,C9 I.ok.bsz I.sz,I.stack,I.stkFree,I.hok,I.bare)
theorem Inv.after(I:Inv X n7 σ H s)(h:CE X.stack X.prog X.w H s Q u s'):EP X n7 σ Q u s':=by
 erw[Ci h λv i f bare un a e=>xa e λr q=>?_,(j,g,d,t,c)=s'];obtain rfl:c=s.os:=f;exact(v,i,I.call (h':=j) (g':=g) (d':=d) (t':=t) (ch:=[]) un a bare (λb z=>absurd z B0),r,q)
end
def ZP(sp:Sp)(dvs:List V)(E:XK)(t:TA):TE:=fun σ H Q=>t σ H λvs H1=>sp (vs++dvs) H1 Q E
def Wh(C:R_)(m:Str)(sp:Sp)(dvs:List V)(E:XK)(ta:TE)(t:TA):TE:=fun σ H Q=>ta σ H λx H1=>∃a dx fs,x=.ref a/\H1 a=n8 (.ins C dx fs)/\fs.lookup m=n9 /\
 t σ H1 λvs H2=>sp (x::(vs++dvs)) H2 Q E
def Wi(C:R_)(sp:Sp)(dvs:List V)(E:XK)(t:TA):TE:=fun σ H Q=>t σ H λvs H1=>∀x dx,H1 x=n9->H1 dx=n9->dx≠x ->
 sp (.ref x::(vs++dvs)) (upd (upd H1 dx (.own x)) x (.ins C dx [])) (λv H2=>v=.non/\Q (.ref x) H2) E
def CO(K:O_)(fd:E_)(ps:K_)(ds:F_):Prop :=
 ∀(s:P_)(us:F_),K.In s.heap->(us++ds).length=ps.length->BindsTo s fd (us,[]) (ps.zip (us++ds))
theorem CO.all{K:O_}{fd:E_}{a:K_}(h:∀us:List Value,us.length=a.length->bindArgs fd (us,[])=pure (a.zip us)):CO K fd a []:=λs us _ b=>by
 rw[T3]at b⊢;erw[.of_eq (h us b)]
def GJ(CX:CXT)(X:Cx)(E:XK):Prop:=∀(n7:A_)(σ:St)(H:Hp)(s:P_)(e:S_)(s':P_),Inv X n7 σ H s->CX X.stack H s E e s'->X.xe e s'
section
variable{X:Cx}{CX:CXT}{k:Nat}{f C:R_}{fd:E_}{ps:K_}{sp:Sp}{dvs:List V}{ds:F_}{E:XK}{x m:Str}{p pos apos:Pos}{e o:Expr}{es:List Expr}{ta:TE}{t:TA}
theorem aCH(F:AJ X.prog X.w X.K X.mg X.n6 CX k f fd ps sp)(l:De k X.A)(g:CO X.K fd ps ds)(i:AT dvs ds)(n:GJ CX X E)
  (I:Inv X a σ H s) (r:AT vs us) (h:sp (vs++dvs) H Q E):wpAny (model X.prog X.w) X.A (call (.ref f) us) (EP X a σ Q) X.xe s:=by
 erw[c=r.append i,(j:(us++ds).length=ps.length)=by erw[[-c.length],F.len _ _ _ _ h]]
 erw[wpAny_call (B1e (F.run X.A X.stack s H (us,[]) (us++ds) (vs++dvs) Q E l I.env0 (g s us I.kIn j) c h) λr q b=>?_)];cases r with
 |error e=>erw[n a σ H s e q I b]
 |ok d =>
  cases d with
  |ret u=>erw[I.after b]
  |next=>erw[False.elim b]
  |brk=>erw[False.elim b]
  |cont=>erw[False.elim b]
theorem aC6(F:AJ X.prog X.w X.K X.mg X.n6 CX k f fd ps sp)(y:De k X.A)(n:Gl X x)(v:X.mg x=n8 (.ref f))(u:keepIn X.K (.ref f)=o0)(i:CO X.K fd ps ds)(j:AT dvs ds)(z:GJ CX X E)
  (g:PA X (e::es) t) (b:(x==("__debug__" : Str))=o3:=by decide) (l:starEach (e::es) X.env=#[o3,eval e X.env]::starEach es X.env:=by rfl) (c:(backTo pos (starEach es X.env)).any (·.1)=o3:=by rfl) :
  PE X (.Call (.Name x p) (e::es) [] pos) (ZP sp dvs E t):=by
 erw[?a s σ H Q I h,A8a (OT I n v ?_ b),B2b (h₀:=X.n6) I.ok.mod.kin u (thn (g pos a s σ H _ I h) λus D ⟨vs,B,d,r,q⟩=>(d.kIn,?_)) l c,aCH F y i j z d r q]
theorem aC9(O:PE X o ta)(c:Cls X.K C)(v:QB X.K C m f)(F:AJ X.prog X.w X.K X.mg X.n6 CX k f fd ps sp)(P:De k X.A)(M:CO X.K fd ps ds)(N:AT dvs ds)(S:GJ CX X E)(L:PA X (e::es) t)
  (g:starEach (e::es) X.env=#[o3,eval e X.env]::starEach es X.env:=by rfl) (d:(backTo pos (starEach es X.env)).any (·.1)=o3:=by rfl)
  (R:eval (.Call (.Attribute o m apos) (e::es) [] pos) X.env=(do
   let y <-eval o X.env
   standAt apos.atName
   let #[f,first] <-holding [y] (getMethod y m pl)
   callWith pos f first (backTo pos (starEach (e::es) X.env)) (backToKw pos (keywordEach [] X.env))):=by rfl) :
  PE X (.Call (.Attribute o m apos) (e::es) [] pos) (Wh C m sp dvs E ta t):=by
 erw[?b s σ H Q I h,W.methodCall_KW (pl:=pl) (thn (O b s σ H _ I h) λu V G=>?_) R,AK G λx z j U i=>Fk i λa dx fs D B l q=>?_,<-D];obtain rfl:u=Value.ref a:=U;erw[VQ j B c v l (B2b (first:=[.ref a]) (h₀:=X.n6) I.ok.mod.kin v.kp (thn (L pos b V σ z _ j q) λus s2 ⟨vs,Y,n,r,T⟩=>(n.kIn,?_)) g d),aCH (us:=.ref a::us) (vs:=.ref a::vs) F P M N S n (.cons Z r) T]
structure Mk(K:O_)(C f:R_):Prop where
makes:makesIn K C=o0
init:findIn K (.ref C) "__init__" = n8 (n8 (.ref f))
fn:isFn K (.ref f)=o0
kp:keepIn K (.ref C)=o0
theorem TJ(M:Mk X.K C f)(F:AJ X.prog X.w X.K X.mg X.n6 CX k f fd ps sp)(G:De (k+1) X.A)(z:CO X.K fd ps ds)(B:AT dvs ds)
  (L:GJ CX X E) (I:Inv X b σ H s) (r:AT vs us)
  (h:∀x d,H x=n9->H d=n9->d≠x->sp (.ref x::(vs++dvs)) (upd (upd H d (.own x)) x (.ins C d [])) (λv l=>v=.non/\Q (.ref x) l) E) :
  wpAny (model X.prog X.w) X.A (call (.ref C) us) (EP X b σ Q) X.xe s:=by
 erw[g=h (s.heap.objs.size+1) s.heap.objs.size (I.hok.fresh (S4 _)) (I.hok.fresh (C1 _)) (L9 (P1 _)),c=Inv.made (C:=C) I,(i:AT (V.ref (s.heap.objs.size+1)::(vs++dvs)) (Value.ref (s.heap.objs.size+1)::(us++ds)))=.cons Z (r.append B)];have D:(Value.ref (s.heap.objs.size+1)::us++ds).length=ps.length:=by
  erw[e=i.length];rw[F.len _ _ _ _ g]at e;erw[e.symm]
 erw[wpAny_call (aBZ (f:=f) I.kIn M.makes M.init (beq_iff_eq.mp M.fn) (B1e (F.run _ X.stack _ _ (Value.ref (s.heap.objs.size+1)::us,[]) (Value.ref (s.heap.objs.size+1)::(us++ds)) _ _ E (G.make C us []) (c.env0.make C us []) (z _ (Value.ref (s.heap.objs.size+1)::us) c.kIn D) i g) λr P a=>?_))]
 cases r with
 |error e=>erw[L b σ _ _ e P c a]
 |ok y =>
  cases y with
  |ret u =>
   erw[CG (c.after a) λv j n O q N=>?_,<-q,(O,(V.ref (s.heap.objs.size+1),j,n,Z,N))]
  |next=>erw[False.elim a]
  |brk=>erw[False.elim a]
  |cont=>erw[False.elim a]
theorem aC8(M:Mk X.K C f)(F:AJ X.prog X.w X.K X.mg X.n6 CX k f fd ps sp)(v:De (k+1) X.A)(n:Gl X x)(u:X.mg x=n8 (.ref C))(i:CO X.K fd ps ds)(j:AT dvs ds)(y:GJ CX X E)
  (g:PA X (e::es) t) (b:(x==("__debug__" : Str))=o3:=by decide) (l:starEach (e::es) X.env=#[o3,eval e X.env]::starEach es X.env:=by rfl) (c:(backTo pos (starEach es X.env)).any (·.1)=o3:=by rfl) :
  PE X (.Call (.Name x p) (e::es) [] pos) (Wi C sp dvs E t):=by
 erw[?a s σ H Q I h,A8a (OT I n u ?_ b),B2b (h₀:=X.n6) I.ok.mod.kin M.kp (thn (g pos a s σ H _ I h) λus B ⟨vs,z,d,r,q⟩=>(d.kIn,?_)) l c,TJ M F v i j y d r q]
theorem aB6(M:Mk X.K C f)(F:AJ X.prog X.w X.K X.mg X.n6 CX k f fd ps sp)(j:De (k+1) X.A)(g:Gl X x)(i:X.mg x=n8 (.ref C))(c:CO X.K fd ps ds)(d:AT dvs ds)(l:GJ CX X E)
  (a:(x==("__debug__" : Str))=o3:=by decide):PE X (.Call (.Name x p) [] [] pos) (Wi C sp dvs E Pd):=by
 erw[?b s σ H Q I h,A8a (OT I g i ?_ a),W.callWith_K0 I.kIn M.kp (TJ (us:=[]) M F j c d l I .nil h)]
end
def PK(X:Cx)(kws:List Keyword)(t:TA):Prop :=
 ∀(pos:Pos)(n7:A_)(s:P_)(σ:St)(H:Hp)(Q:List V->Hp->Prop),Inv X n7 σ H s->t σ H Q->wpAny (model X.prog X.w) X.A (evalAll ((backToKw pos (keywordEach kws X.env)).map (·.2))) (AP X n7 σ Q) X.xe s
section
variable{X:Cx}{CX:CXT}{k:Nat}{f C:R_}{fd:E_}{ps ks:K_}{sp:Sp}{E:XK}{x m:Str}{p pos apos kpos:Pos}{e o:Expr}{es:List Expr}{kws:List Keyword}{te ta:TE}{t tk:TA}{nm:Option Str}
theorem aFY:PK X [] Pd:=λ_ _ _ _ H Q I h=>wpAny_evalAll_nil ([],H,I,.nil,h)
theorem aDA(j:PE X e te)(l:PK X kws t):PK X ((nm,e,kpos)::kws) (CH te t):=by
 erw[?pos a s σ H Q I h,(_:wpAny _ _ (evalAll ((do let v <-eval e X.env;standAt pos;pure v)::(backToKw pos (keywordEach kws X.env)).map (·.2))) _ _ s),wpAny_evalAll_cons (A2e (thn (j a s σ H _ I h) λu y ⟨x,b,d,r,n⟩=>A2e (B2h (A3c ?_)))),thn (l pos a y σ b _ d n) λus z i=>AK i λxs c g w q=>(x::xs,c,g,.cons r w,q)]
variable{g:List Value->List Value->List Value}{gV:List V->List V->List V}
end
structure Au(N P:K_)(sc:Scope):Prop where
kind:sc.kind=.function
co:sc.isCoroutine=o3
gen:sc.isGenerator=o3
nd:N.Nodup
pre:N.take P.length=P
par:∀x∈P,sc.names.lookup x=n8 .local\/sc.names.lookup x=n8 .cell
nofree:∀y∈sc.names,y.2≠.free
theorem RE{a:Str->Option NameKind}{x:Str}:∀{binds:List (Str×Value)}{m:C_},(∀v,#[x,v]∉binds)->bindL a binds m x=m x
|[],_,_=>rfl
| (n,v)::r,m,h=>by
 erw[¬bindL,[RE λw b=>h w (D6 _ b)]];split
 .have:x≠n:=by rintro rfl;erw[h v D5]
  simp[this]
 .rfl
theorem RG{a:Str->Option NameKind}{x:Str}:∀{binds:List (Str×Value)}{m:C_},(∀v,#[x,v]∉binds)->bindC a binds m x=m x
|[],_,_=>rfl
| (n,v)::r,m,h=>by
 erw[¬bindC,[RG λw b=>h w (D6 _ b)]];split
 .rfl
 .have:x≠n:=by rintro rfl;erw[h v D5]
  simp[this]
theorem RF{a:Str->Option NameKind}{x:Str}{v:S_}:∀{P:K_}{vs:F_}{i:Nat}{m:C_},P.Nodup->P[i]?=n8 x->vs[i]?=n8 v->a x=n8 .local ->
 bindL a (P.zip vs) m x=n8 v
|[],_,_,_,_,h,_,_=>by simp at h
|_::_,[],_,_,_,_,h,_=>by simp at h
|p::P,w::vs,0,m,nd,h1,h2,hk=>by
 simp at h1 h2;erw[<-h1,<-h2,(_:bindL a (#[p,w]::P.zip vs) m p=_),¬bindL,[RE λv b=>(N8.mp nd).1 (List.of_mem_zip b).1,A2h hk]];simp
|p::P,w::vs,i+1,m,nd,h1,h2,hk=>by
 erw[(_:bindL a (#[p,w]::P.zip vs) m x=_),¬bindL,RF (i:=i) (N8.mp nd).2 (by simpa using h1) (by simpa using h2) hk]
theorem RH{a:Str->Option NameKind}{x:Str}{v:S_}:∀{P:K_}{vs:F_}{i:Nat}{m:C_},P.Nodup->P[i]?=n8 x->vs[i]?=n8 v->a x≠n8 .local ->
 bindC a (P.zip vs) m x=n8 v
|[],_,_,_,_,h,_,_=>by simp at h
|_::_,[],_,_,_,_,h,_=>by simp at h
|p::P,w::vs,0,m,nd,h1,h2,hk=>by
 simp at h1 h2;erw[<-h1,<-h2,(_:bindC a (#[p,w]::P.zip vs) m p=_),¬bindC,[RG λv b=>(N8.mp nd).1 (List.of_mem_zip b).1,A2f hk]];simp
|p::P,w::vs,i+1,m,nd,h1,h2,hk=>by
 erw[(_:bindC a (#[p,w]::P.zip vs) m x=_),¬bindC,RH (i:=i) (N8.mp nd).2 (by simpa using h1) (by simpa using h2) hk]
noncomputable def Oe(N:K_)(vs:List V):St:=vs.map n8++List.replicate (N.length-vs.length) n9
noncomputable def Zt(CX:CXT)(P:N_)(w:Q_)(K:O_)(mg:C_)(n6:T_)(N:K_)(qual:Str)(scope:Scope)(f:R_)(cd:S_)(A:Around)(outer:List Env)(s:P_)(H:Hp)(E:XK):Cx where
 prog:=P
 w:=w
 K:=K
 mg:=mg
 n6:=n6
 A:=A.deeper (envOfC qual scope s.heap.objs.size f cd)
 N:=N
 s₀:=s
 H₀:=H
 env:=envOfC qual scope s.heap.objs.size f cd
 outer:=outer
 stack:=envOfC qual scope s.heap.objs.size f cd::outer
 ex:=[]
 calm:=o0
 fn:=λ_=>o0
 pn:=[]
 xe:=λe s'=>wpAny (model P w) (A.deeper (envOfC qual scope s.heap.objs.size f cd)) (leaving (envOfC qual scope s.heap.objs.size f cd) e) (λ_ s''=>CX outer H s E e s'') (λe' s''=>CX outer H s E e' s'') s'
theorem UJ{a:Scope}{n:Nat}{x:Str}(h:a.names.lookup x=n8 .cell):∃c,(cellsFrom n a.names []).lookup x=n8 c:=by
 erw[q=W.cellsFrom_some a.names n [] (.inl h),Option.isSome_iff_exists.mp q]
theorem Zl{CX:CXT}{P:N_}{w:Q_}{K:O_}{mg:C_}{m:T_}{N C:K_}{j:Str}{d:Scope}{f:R_}{G:S_}{A:Around}{g:List Env}{s Q:P_}{H:Hp}{E:XK}{us:F_}{vs:List V}
  (S:Au N C d) (T:A.handled=n9) (o:OG P w K mg m A g s H) (hl:vs.length=C.length) (r:AT vs us)
  (x:InCallC s s.heap.objs.size (bindL (envOfC j d s.heap.objs.size f G).kindOf (C.zip us) λ_=>n9) (cellsFrom (s.heap.objs.size+1) d.names []) (bindC (envOfC j d s.heap.objs.size f G).kindOf (C.zip us) λ_=>n9) Q) :
  Inv (Zt CX P w K mg m N j d f G A g s H E) [] (Oe N vs) H Q:=by
 have U:C.length<=N.length:=by have:=A4e List.length S.pre;rw[J8]at this;lia
 refine BM x.done λI tk L M=>?_;subst L;have B:∀b:Addr,b∉(Zt CX P w K mg m N j d f G A g s H E).ex:=λb z=>absurd (show b∈([]:H_)from z) B0;refine((o.mod,S.kind,Z,Z,C1 _,λy z c I l=>?_,λy t=>?_,λy c _ h=>?_,λ_=>T,Around.frames_deeper o.frames,.inr (Z,Z),λb z=>absurd z (B b),o.bs,o.bsz,λb _ _=>B b,λb z=>absurd z (B b),o.funs,o.frf),
  rfl,o.bare,Un.kept M,(_,x.toInCall.ns,λi y v I l Y=>?_),λy c h=>(_,x.cell y c h),o.hok.fresh (C1 _),λy c h=>?_,λp D=>absurd (show p∈([]:A_)from D) B0,o.hok.kept M,?_)
 .erw[name_of_addr x.apart (A6c I) (A6c l)]
 .erw[t=t];rcases t with t|t
  .erw[UJ t]
  .erw[absurd Z (S.nofree _ (A6c t))]
 .erw[M0 (x.above y c (A6c h))]
 .have hi:i<vs.length:=by
   unfold Oe at l;erw[(hi:i<vs.length)]
   .erw[hi]
   .rw[L5 (by simpa using hi)]at l;rw[K5]at l;split at l<;>cases l
  have R:vs[i]?=n8 v:=by
   unfold Oe at l;rw[M5 (by simpa using hi),C3]at l;cases e:vs[i]? with
   |none=>rw[e]at l;cases l
   |some a=>rw[e]at l;cases l;rfl
  erw[xea (r.get R) λu O X=>?_];have D:C[i]?=n8 y:=by
   erw[[-S.pre,K0 A3],I]
  have F:C.Nodup:=by erw[[-S.pre],S.nd.sublist (List.take_sublist _ _)]
  erw[(u,X,?_)];rcases S.par y (D0 D)with k|k
  .erw[.inl (k,RF F D O k)]
  .erw[(c,e)=UJ (n:=s.heap.objs.size+1) k,.inr (.inl k,c,e,?_),q=x.cell y c e];rw[RH F D O (by show d.names.lookup y≠_;rw[k];decide)]at q;erw[q]
 .erw[o.hok.fresh (M0 (x.above y c (A6c h)))]
 .erw[¬Oe,(_:_=N.length),[D3,C0,S1]];lia
theorem aGi{CX:CXT}{P:N_}{w:Q_}{K:O_}{mg:C_}{g:T_}{k:Nat}{f:R_}{name d:Str}{i:Arguments}{j:List Stmt}{a:Scope}{dV kV B pm h ct oc:S_}{X od:Option Addr}
  {O:Array (Option Value)} {N F:K_} {sp:Sp} (lk:K.lookup f=n8 (oc,od,.func (W.fnOf name d i j a dV kV B pm X h ct),O)) (G:W.codeIn K h d=o0) (S:Au N F a)
  (len:∀vs H Q E,sp vs H Q E->vs.length=F.length)
  (m:∀(A:Around)(c:List Env)(s:P_)(H:Hp)(vs:List V)(Q:VK)(E:XK),De k (A.deeper (envOfC d a s.heap.objs.size f h))->sp vs H Q E ->
   ∃t,PSs (Zt CX P w K mg g N d a f h A c s H E) j t/\t {nx:=λ_ l=>Q .non l,rt:=Q} (Oe N vs) H) :
  AJ P w K mg g CX (k+1) f (W.fnOf name d i j a dV kV B pm X h ct) F sp:=by
 erw[(len,λA c s H Y us vs Q E L C hb r D=>?_),hl=len _ _ _ _ D,U=C.mod.kin.keeps λb o e=>(C.bs b o e).1,M=C.mod.nolimit.keeps λb o e=>(C.bs b o e).1];have p:∀y∈F.zip us,a.names.lookup y.1=n8 .local\/(a.names.lookup y.1=n8 .cell/\((cellsFrom (s.heap.objs.size+1) a.names []).lookup y.1).isSome=o0):=λ⟨n,v⟩ hy=>by
  rcases S.par n (List.of_mem_zip hy).1 with q|q
  .erw[.inl q]
  .erw[.inr (q,W.cellsFrom_some _ _ _ (.inl q))]
 refine codeAny_call_function L.depth (U _ _ lk) Z S.co S.gen Z (W.codeRec_of U G) (hb _ _ _ _ ?_);refine wpAny_newFunctionEnv_cells S.kind p λenv he s1 x=>?_;subst he;refine(M.keeps x.toInCall.keep,codeAny_func ?_);refine xea (m A c s H vs Q E (L.deeper _) D) λt ht hq=>?_;have I:Inv (Zt CX P w K mg g N d a f h A c s H E) [] (Oe N vs) H s1:=Zl S L.hd C hl r x;refine A6a (ht [] s1 (Oe N vs) H _ I hq) (λfl T z=>?_) λe T z=>z;have fin:∀{σ':St}{l:Hp}{v:V}{u:S_},Inv (Zt CX P w K mg g N d a f h A c s H E) [] σ' l T->Bc v u->Q v l->CE c P w H s Q u T :=
  λ{σ' l v u} J R q=>(v,l,J.os,J.bare,J.n6,J.hok,R,q)
 cases fl with
 |ret u =>
  erw[Dl z λv σ' l J R q=>fin J R q]
 |next =>
  erw[BM z fun σ' l J q=>fin (v:=V.non) (u:=Value.none) J Z q]
 |brk =>
  erw[BM z λ_ _ _ q=>False.elim q]
 |cont =>
  erw[BM z λ_ _ _ q=>False.elim q]
section
variable{X:Cx}{x:Str}{p pos:Pos}{e:Expr}{es:List Expr}{t:TA}{id T:String}{r:List V->Hp->VK->Prop}
def tCB(r:List V->Hp->VK->Prop)(t:TA):TE:=fun σ H Q=>t σ H λvs H1=>r vs H1 Q
theorem AH(i:FJ X (.builtin id) r)(k:Gl X x)(l:X.mg x=n9)(n:bootBuiltins x=n8 (.builtin id))(g:PA X (e::es) t)(m:x≠"__name__" := by decide)(b:(x==("__debug__" : Str))=o3:=by decide)
  (j:starEach (e::es) X.env=#[o3,eval e X.env]::starEach es X.env:=by rfl) (c:(backTo pos (starEach es X.env)).any (·.1)=o3:=by rfl):PE X (.Call (.Name x p) (e::es) [] pos) (tCB r t):=by
 erw[?a s σ H Q I h,A8a (Lk I k l n ?_ m b),PyProof.Rows.callWith_builtin1 (thn (g pos a s σ H _ I h) λus u ⟨vs,d,f,q,o⟩=>i a u σ d vs us Q f q o) j c]
theorem BW(i:FJ X (.type T) r)(k:Gl X x)(l:X.mg x=n9)(n:bootBuiltins x=n8 (.type T))(g:PA X (e::es) t)(m:x≠"__name__" := by decide)(b:(x==("__debug__" : Str))=o3:=by decide)
  (j:starEach (e::es) X.env=#[o3,eval e X.env]::starEach es X.env:=by rfl) (c:(backTo pos (starEach es X.env)).any (·.1)=o3:=by rfl):PE X (.Call (.Name x p) (e::es) [] pos) (tCB r t):=by
 erw[?a s σ H Q I h,A8a (Lk I k l n ?_ m b),A6e (thn (g pos a s σ H _ I h) λus u ⟨vs,d,f,q,o⟩=>i a u σ d vs us Q f q o) j c]
end
end L2
namespace HT
open PySem PyProof.Rows
section
variable{prog:N_}{w:Q_}{A:Around}{E:B_}{s:P_}
noncomputable def sIx(n d:Nat):Option Int->Nat
|none=>d
|some v=>if v<0 then(v+(n:Int)).toNat else min v.toNat n
end
end HT
namespace L2
open PySem PySem.Spec PyProof.Rows
abbrev TO:=St->Hp->(Option Int->Hp->Prop)->Prop
def PO(X:Cx)(e:Option Expr)(t:TO):Prop :=
 ∀(n7:A_)(s:P_)(σ:St)(H:Hp)(Q:Option Int->Hp->Prop),Inv X n7 σ H s->t σ H Q ->
  wpAny (model X.prog X.w) X.A (evalPart e X.env) (λu s'=>∃o H',Inv X n7 σ H' s'/\IsPart u o/\Q o H') X.xe s
def aDN:TO:=λ_ H Q=>Q n9 H
def aHn(t:TE):TO:=fun σ H Q=>t σ H λx H1=>∃i,x=.int i/\Q (n8 i) H1
section
variable{X:Cx}{e:Expr}{te:TE}{lo hi:Option Expr}{tl th:TO}{pos p2:Pos}
theorem aDB:PO X n9 aDN:=by
 erw[?a s σ H Q I h,[evalPart_none],A3c (n9,H,I,.none,h)]
theorem Se(h:PE X e te):PO X (n8 e) (aHn te):=by
 erw[?a s σ H Q I j,[evalPart_some],thn (h a s σ H _ I j) λu l g=>AK g λx d f k c=>xea c λi b q=>?_,-c,<-b,(t,rfl)=k,(n8 i,d,f,.int i t,q)]
def SlR(X:Cx)(r:V->Option Int->Option Int->Hp->VK->Prop):Prop :=
 ∀(n7:A_)(s:P_)(σ:St)(H:Hp)(x:V)(v vl vu:S_)(lo hi:Option Int)(sl:R_)(Q:VK),Inv X n7 σ H s->Bc x v->s.heap.IsSliceOf sl vl vu .none->IsPart vl lo->IsPart vu hi->r x lo hi H Q ->
  ∃T id,typeLookup (.type T) "__getitem__" = pure (n8 (.builtin id))/\s.TypeIs v T/\wpAny (model X.prog X.w) X.A (getItem v (.ref sl)) (EP X n7 σ Q) X.xe s
def tSl(r:V->Option Int->Option Int->Hp->VK->Prop)(te:TE)(tl th:TO):TE:=fun σ H Q=>te σ H λx H1=>tl σ H1 λl H2=>th σ H2 λu H3=>r x l u H3 Q
theorem TY{r:V->Option Int->Option Int->Hp->VK->Prop}(C:SlR X r)(y:PE X e te)(B:PO X lo tl)(E:PO X hi th):PE X (.Subscript e (.Slice lo hi n9 p2) pos) (tSl r te tl th):=by
 erw[?a s σ H Q I h,Subscript_ (thn (y a s σ H _ I h) λv N t=>?_),AK t λx i k M G=>wpAny_Slice (thn (B a N σ i _ k G) λd O ⟨l,j,m,pl,K⟩=>thn (E a O σ j _ m K) λf c ⟨u,g,n,F,L⟩=>?_),[evalPart_none],A3c ?_,(o:Inv X a σ g {c with heap:=c.heap.push {cls:=.type "slice",data:=.fields [d,f,.none].toArray} })=n.kept (t':=c.toks) λb P q=>C6 _ q,AK (C a {c with heap:=c.heap.push {cls:=.type "slice",data:=.fields [d,f,.none].toArray} } σ g x v d f l u c.heap.objs.size Q o M (Heap.IsSliceOf.new ..) pl F L) λT id p D z=>?_,(_:wpAny (model X.prog X.w) X.A (subscriptTail e (.Slice lo hi n9 p2) v (.ref c.heap.objs.size)) (EP X a σ Q) X.xe {c with heap:=c.heap.push {cls:=.type "slice",data:=.fields [d,f,.none].toArray} }),tail_any (ops:=[.ref c.heap.objs.size,v]) D p z (by with_unfolding_all rfl)]
noncomputable def VW(xs:List V)(lo hi:Option Int):List V:=(xs.drop (HT.sIx xs.length 0 lo)).take (HT.sIx xs.length xs.length hi-HT.sIx xs.length 0 lo)
theorem UD(xs:List V)(lo hi:Option Int):(VW xs lo hi).length<=xs.length:=by
 erw[¬VW,[J8,List.length_drop]];lia
end
noncomputable def ixN(n:Nat)(i:Int):Option Nat:=if 0<=i then(if i<n then n8 i.toNat else n9)else if -(n:Int)<=i then n8 (i+n).toNat else n9
noncomputable def atI{α:Type}(xs:List α)(i:Int):Option α:=(ixN xs.length i).bind λj=>xs[j]?
theorem WZ{j:Nat}(h:ixN n i=n8 j):seqIndex? i n=n8 j/\j<n/\-(n:Int)<=i/\i<n:=by
 unfold ixN at h;erw[(b:0<=i)]
 .rw[A2h b]at h;erw[(a:i<n)]
  .rw[A2h a]at h;erw[e=A3h h,(by rw[seqIndex_of b a,e],by lia,by lia,a)]
  .rw[A2f a]at h;cases h
 .rw[A2f b]at h;erw[(a:-(n:Int)<=i)]
  .rw[A2h a]at h;erw[e=A3h h,(by rw[seqIndex_neg (W5 b) a,e],by lia,a,by lia)]
  .rw[A2f a]at h;cases h
theorem SY{α:Type}{xs:List α}{i:Int}{v:α}(h:atI xs i=n8 v):∃j,seqIndex? i xs.length=n8 j/\xs[j]?=n8 v/\j<xs.length/\-(xs.length:Int)<=i/\i<xs.length:=by
 unfold atI at h;cases e:ixN xs.length i with
 |none=>rw[e]at h;cases h
 |some j =>
  rw[e]at h;erw[xa3 (WZ e) λa b c d=>(j,a,h,b,c,d)]
theorem Ai{α:Type}{xs:List α}{j:Nat}{v:α}(h:xs[j]?=n8 v):atI xs (j:Int)=n8 v:=by
 erw[a=(C2.mp h).1];have e:ixN xs.length (j:Int)=n8 j:=by
  erw[¬ixN,[A2h (O4 _),A2h A3]];simp
 erw[¬atI,[e],h]
def aCJ(b:Expr):Prop:=∀o i,subscripted b o3 o i=operate [o,i] (getItem o i)
def IxR(X:Cx)(r:R2):Prop :=
 ∀(value slice:Expr)(n7:A_)(s:P_)(σ:St)(H:Hp)(x y:V)(v u:S_)(Q:VK),Inv X n7 σ H s->Bc x v->Bc y u->r x y H Q ->
  subscripted slice o3 v u=operate [v,u] (getItem v u)->wpAny (model X.prog X.w) X.A (subscriptTail value slice v u) (EP X n7 σ Q) X.xe s
def MtR(X:Cx)(id:String)(r:V->List V->Hp->VK->Prop):Prop :=
 ∀(n7:A_)(s:P_)(σ:St)(H:Hp)(x:V)(xs:List V)(v:S_)(us:F_)(Q:VK),Inv X n7 σ H s->Bc x v->AT xs us->r x xs H Q ->
  wpAny (model X.prog X.w) X.A (call (.builtin id) (v::us)) (EP X n7 σ Q) X.xe s
section
variable{X:Cx}{a b:Expr}{ta tb:TE}{pos:Pos}
theorem Aj(i:IxR X r)(f:PE X a ta)(g:PE X b tb)(j:aCJ b):PE X (.Subscript a b pos) (tOp r ta tb):=by
 erw[?c s σ H Q I h,Subscript_ (aET f g I h λv u m x y d e k l q=>i a b c m σ d x y v u Q e k l q (j _ _))]
def aFc(K:O_):R2:=λx y H Q=>∃p xs i v,x=.ref p/\y=.int i/\SqL K H p xs/\atI xs i=n8 v/\Q v H
def JO(K:O_):R2:=λx y H Q=>∃p xs i v,x=.ref p/\y=.int i/\SqT K H p xs/\atI xs i=n8 v/\Q v H
def rIxS:R2:=λx y H Q=>∃z i c,x=.str z/\y=.int i/\z.length<=sizeLine/\atI z.cps.toList i=n8 c/\Q (.str ⟨#[c]⟩) H
theorem Ar:IxR X (aFc X.K):=by
 erw[?o n c s σ H x y v u Q I N O h C,Cd h λp xs i z f g M G q=>?_,-h,<-f,<-g,!N,(t,rfl)=O,AI (I.list M) λl r pl T=>CP (SY G) λj e D R A=>xa A λE F=>xea (r.get D) λw B m=>?_,L=r.length,S=NR,(fin:EP X c σ Q w s)=(z,H,I,m,q)]
 erw[(d:0<=i)]
 .have k:i.toNat=j:=by
   rw[seqIndex_of d F]at e;erw[A3h e]
  erw[item_listR pl.isList d A3 (by rw[k];simpa using B) fin C]
 .have k:(i+(l.toArray.size:Int)).toNat=j:=by
   rw[seqIndex_neg (W5 d) E]at e;erw[[J3,-L],A3h e]
  erw[subscriptTail_builtinR (x:=w) pl.isList.typeIs slot_list_getitem.lookup (wpAny_getItem_list_neg (Q:=λr P=>r=w/\EP X c σ Q r P) pl.isList (W5 d) (by rw[J3]<;>lia) A3 (by rw[k];simpa using B) (Z,fin)) C]
theorem Ao:IxR X (JO X.K):=by
 erw[?k g c s σ H x y v u Q I F G h D,Cd h λp xs i z d e C A q=>?_,-h,<-d,<-e,!F,(t,rfl)=G,AI (I.tuple C) λE r pl R=>CP (SY A) λj n o M l=>xa l λN O=>xea (r.get o) λw m f=>?_,B=r.length,P=NR,(fin:EP X c σ Q w s)=(z,H,I,f,q)]
 erw[subscriptTail_builtinR (x:=w) pl.typeIs slot_tuple_getitem.lookup (getItem_tuple (j:=j) (Q:=λr L=>r=w/\EP X c σ Q r L) pl A3 A3 (by erw[[J3,-B],n]) (by simpa using m) (Z,fin)) D]
theorem aBJ:IxR X rIxS:=by
 erw[?g f m s σ H x y v u Q I D E h C,Ch h λz i c d e K A q=>?_,-h,<-d,<-e,(t,rfl)=D,(t',rfl)=E,CP (SY A) λj l p F k=>xa k λr w=>?_,(B:z.cps.toList.length=z.length)=by simp[Str.length]]
 rw[B]at l r w;have G:=NR;exact tail_any (B1f s z t) slot_str_getitem.lookup (getItem_str (c:=c) (by
  have n:decide (i < -(2^63:Int))=o3:=A3a A3;have o:decide (i ≥ 2^63)=o3:=A3a A3;rw[n,o,Bool.or_false]) (by rw[l];simpa using p) (.str ⟨#[c]⟩,H,I.tok _,(_,Z),q)) C
theorem VH(c:F_)(n j:Nat)(u:S_):Obj.mapSeq (·.setIfInBounds j u) {cls:=.type "list",data:=.seq c.toArray n}={cls:=.type "list",data:=.seq (c.set j u).toArray n}:=by
 simp[Obj.mapSeq]
theorem Inv.lst{d:A_}{σ:St}{H:Hp}{s:P_}{p:R_}{xs:List V}(I:Inv X d σ H s)(h:H p=n8 (.lst xs)) :
  ∃(c:F_)(n:Nat),AT xs c/\s.heap.get? p=n8 {cls:=.type "list",data:=.seq c.toArray n}/\xs.length<=sizeLine:=by
 erw[Od (I.hok p _ h) λz c n r e=>(c,n,r,e,z)]
theorem Inv.lstUpd{c:A_}{σ:St}{H:Hp}{s:P_}{p:R_}{xs ys:List V}{d its':F_}{n g:Nat}{f:Obj->Obj}(I:Inv X c σ H s)(h:H p=n8 (.lst xs))
  (k:s.heap.get? p=n8 {cls:=.type "list",data:=.seq d.toArray n}) (i:f {cls:=.type "list",data:=.seq d.toArray n}={cls:=.type "list",data:=.seq its'.toArray g}) (r:AT ys its') (l:ys.length<=sizeLine) (t:Nat) :
  Inv X c σ (upd H p (.lst ys)) {s with heap:=s.heap.update p f,toks:=t}:=by
 have e:(s.heap.update p f).get? p=n8 {cls:=.type "list",data:=.seq its'.toArray g}:=by
  rw[A0h f k (by rw[i]<;>rfl),i]
 erw[I.write (x:=p) (e:=p) (by rw[h];trivial) (.inl Z) (λb u j q=>(A0c _ _ (A3f j)).trans q) (_,e) ?_,(l,its',g,r,e)]
def aHK:V->V->V->Hp->(Hp->Prop)->Prop:=λo i v H Q=>∃p xs k j,o=.ref p/\i=.int k/\H p=n8 (.lst xs)/\ixN xs.length k=n8 j/\Q (upd H p (.lst (xs.set j v)))
theorem TB:aF2 X aHK:=by
 intro d s σ H o i v N M u Q I F E G h;refine Cd h λp xs k j g l B C q=>?_;clear h;subst g;subst l;cases F;obtain⟨t,rfl⟩:=E;refine AK (I.lst B) λc n r x D=>xa3 (WZ C) λf K z A=>?_;have w:=r.length;have L:=NR;have y:Inv X d σ (upd H p (.lst (xs.set j v))) {s with heap:=s.heap.update p (Obj.mapSeq (·.setIfInBounds j u))} :=
  I.lstUpd B x (VH c n j u) (r.set G j) (by rw[List.length_set];exact D) s.toks
 erw[(e:0<=k)]
 .have m:k.toNat=j:=by
   rw[seqIndex_of e A]at f;erw[A3h f]
  erw[W.ki_setAt x e A3 (by erw[[J3,-w],A]) (by erw[[m],(_,y,q)])]
 .have m:(k+(c.toArray.size:Int)).toNat=j:=by
   rw[seqIndex_neg (W5 e) z]at f;erw[[J3,-w],A3h f]
  erw[W.ki_setBack x (W5 e) (by erw[[J3,-w],z]) A3 (by erw[[m],(_,y,q)])]
theorem RX(lo hi:Option Int)(n:Nat):(sliceBounds lo hi n9 n).1=((HT.sIx n 0 lo:Nat):Int)/\(sliceBounds lo hi n9 n).2.1=((HT.sIx n n hi:Nat):Int)/\(sliceBounds lo hi n9 n).2.2=1:=by
 erw[(?_,?_,Z)]
 .cases lo with
  |none=>simp[sliceBounds,HT.sIx]
  |some i =>
   simp only[sliceBounds,HT.sIx,Option.getD_none,show(1:Int) > 0 by decide,B0c];erw[(h:i<0)]
   .simp only[h,B0c]<;>lia
   .simp only[h,A7b]<;>lia
 .cases hi with
  |none=>simp[sliceBounds,HT.sIx]
  |some i =>
   simp only[sliceBounds,HT.sIx,Option.getD_none,show(1:Int) > 0 by decide,B0c];erw[(h:i<0)]
   .simp only[h,B0c]<;>lia
   .simp only[h,A7b]<;>lia
theorem QC(c:F_)(lo hi:Option Int):slicePick c.toArray lo hi n9=((c.drop (HT.sIx c.length 0 lo)).take (HT.sIx c.length c.length hi-HT.sIx c.length 0 lo)).toArray:=by
 erw[xa2 (RX lo hi c.toArray.size) λd e f=>?_,¬slicePick,[d,e,f]];simp only[sliceRange_one,pick_run,J3]<;>rfl
def rSlL(K:O_):V->Option Int->Option Int->Hp->VK->Prop:=λx lo hi H Q=>∃a xs,x=.ref a/\SqL K H a xs/\∀p,H p=n9->Q (.ref p) (upd H p (.lst (VW xs lo hi)))
theorem Wx:SlR X (rSlL X.K):=by
 erw[?f s σ H x v t u lo hi p Q I m g pl l h,AK h λa xs d i q=>?_,-h,<-d,!m,AI (I.list i) λk r e j=>?_,c=r.length,("list",_,slot_list_getitem.lookup,e.isList.typeIs,?_),wpAny_getItem_list_slice e.isList g pl l .none B0 ?_ (by rw[J3]<;>lia),[QC,-c],(.ref s.heap.objs.size,_,I.laid (t':=s.toks) (o:=.lst (VW xs lo hi)) (λb n q=>C6 _ q) (C1 _) ?_,Z,q _ (I.hok.fresh (C1 _))),(C9 (UD xs lo hi) j,_,0,(r.drop (HT.sIx xs.length 0 lo)).take (HT.sIx xs.length xs.length hi-HT.sIx xs.length 0 lo),F4 _ Z)]
noncomputable def MZ:V->Bool
|.non=>o0
|.bl _=>o0
|.int _=>o0
|.str _=>o0
|_=>o3
noncomputable def eqV:V->V->Bool
|.non,.non=>o0
|.bl a,.bl b=>a==b
|.bl a,.int b=>(if a then 1 else 0)==b
|.int a,.bl b=>a==(if b then 1 else 0)
|.int a,.int b=>a==b
|.str a,.str b=>a==b
|_,_=>o3
theorem aEZ(d:Bc y u)(c:Bc x v)(e:MZ y=o0)(fx:MZ x=o0):SeqAt.EqAt A s u v (eqV y x):=by
 cases y with
 |non =>
  cases d;cases x with
  |non=>erw[!c,SeqAt.EqAt.same _]
  |bl b=>erw[!c,SeqAt.EqAt.none_bool b]
  |int b=>erw[(t,rfl)=c,SeqAt.EqAt.none_int b t]
  |str b=>erw[(t,rfl)=c,SeqAt.EqAt.none_str b t]
  |_=>erw[absurd (show o3=o0 from fx) F6]
 |bl a =>
  cases d;cases x with
  |non=>erw[!c,SeqAt.EqAt.bool_none a]
  |bl b=>erw[!c,SeqAt.EqAt.bool_bool a b]
  |int b=>erw[(t,rfl)=c,SeqAt.EqAt.bool_int a b t]
  |str b=>erw[(t,rfl)=c,SeqAt.EqAt.bool_str a b t]
  |_=>erw[absurd (show o3=o0 from fx) F6]
 |int a =>
  erw[(t',rfl)=d];cases x with
  |non=>erw[!c,SeqAt.EqAt.int_none a t']
  |bl b=>erw[!c,SeqAt.EqAt.int_bool a t' b]
  |int b=>erw[(t,rfl)=c,SeqAt.EqAt.int_int a t' b t]
  |str b=>erw[(t,rfl)=c,SeqAt.EqAt.int_str a t' b t]
  |_=>erw[absurd (show o3=o0 from fx) F6]
 |str a =>
  erw[(t',rfl)=d];cases x with
  |non=>erw[!c,SeqAt.EqAt.str_none a t']
  |bl b=>erw[!c,SeqAt.EqAt.str_bool a t' b]
  |int b=>erw[(t,rfl)=c,SeqAt.EqAt.str_int a t' b t]
  |str b=>erw[(t,rfl)=c,SeqAt.EqAt.str_str a t' b t]
  |_=>erw[absurd (show o3=o0 from fx) F6]
 |_=>erw[absurd (show o3=o0 from e) F6]
noncomputable def eqU(x:V)(u:S_):Bool:=match u with
|.none=>eqV .non x
|.bool b=>eqV (.bl b) x
|.int i _=>eqV (.int i) x
|.str z _=>eqV (.str z) x
|_=>o3
theorem aA6(r:Bc y u)(f:MZ y=o0):eqU x u=eqV y x:=by
 cases y with
 |non=>cases r;rfl
 |bl b=>cases r;rfl
 |int i=>erw[(t,rfl)=r];rfl
 |str z=>erw[(t,rfl)=r];rfl
 |_=>erw[absurd (show o3=o0 from f) F6]
theorem Tb:∀{xs:List V}{us:F_},AT xs us->xs.all MZ=o0->us.any (eqU x)=xs.any λy=>eqV y x
|_,_,.nil,_=>rfl
|y::xs,u::us,.cons r t,f=>by
 rw[List.all_cons,R6]at f;rw[W6,W6,aA6 r f.1,Tb t f.2]
theorem Qi(d:Bc x v)(fx:MZ x=o0):∀{xs:List V}{us:F_},AT xs us->xs.all MZ=o0->∀u∈us,SeqAt.EqAt A s u v (eqU x u)
|_,_,.nil,_=>λu c=>by cases c
|y::xs,u::us,.cons r t,f=>λe c=>by
 rw[List.all_cons,R6]at f;rcases C4.mp c with rfl|c
 .erw[[aA6 r f.1],aEZ r d f.1 fx]
 .erw[Qi d fx t f.2 e c]
noncomputable def inV(x:V)(xs:List V):Bool:=xs.any λy=>eqV y x
def rIn(K:O_)(neg:Bool):R2:=λx y H Q=>∃p xs,y=.ref p/\(SqL K H p xs\/SqT K H p xs)/\MZ x=o0/\xs.all MZ=o0/\Q (.bl (if neg then !inV x xs else inV x xs)) H
theorem NI:OpR X (compareOp .In) (rIn X.K o3):=by
 erw[?g s σ H x y v u Q I i k h,Ci h λp xs e d fx fs q=>?_,-h,<-e,!k];rcases d with d|d
 .erw[AI (I.list d) λc r pl j=>SeqAt.in_listAt (eqU x) pl.isList (λw f=>Qi i fx r fs w (by simpa using f)) (.bl _,H,I,Z,?_)];rw[show c.toArray.any (eqU x)=c.any (eqU x) by simp,Tb r fs];erw[q]
 .erw[AI (I.tuple d) λc r pl j=>SeqAt.in_tupleAt (eqU x) pl (λw f=>Qi i fx r fs w (by simpa using f)) (.bl _,H,I,Z,?_)];rw[show c.toArray.any (eqU x)=c.any (eqU x) by simp,Tb r fs];erw[q]
theorem Br:FJ X (.builtin "len") (λxs H Q=>∃p ys,xs=[.ref p]/\(SqL X.K H p ys\/SqT X.K H p ys)/\Q (.int ys.length) H):=by
 erw[?j s σ H xs us Q I r h,AK h λp ys f d q=>?_,-h,<-f,xea (QY r) λu e l=>?_,<-e,!l,m=NR];rcases d with d|d
 .erw[AI (I.list d) λg i pl k=>?_,c=i.length,Calls.call_len_list pl.isList (by simp only[J3]<;>lia) (.int ys.length,H,I.tok _,(s.toks+1,by rw[J3,c]),q)]
 .erw[AI (I.tuple d) λg i pl k=>?_,c=i.length,len_tuple pl (by simp only[J3]<;>lia) (.int ys.length,H,I.tok _,(s.toks+1,by rw[J3,c]),q)]
theorem Ju:FJ X (.builtin "len") (λxs H Q=>∃z,xs=[.str z]/\z.length<=sizeLine/\Q (.int z.length) H):=by
 erw[?f s σ H xs us Q I r h,AI h λz c i q=>?_,-h,<-c,xea (QY r) λu c d=>xe d λt e=>?_,-d,<-c,<-e,g=NR,len_str A3 (.int z.length,H,I.tok _,(_,Z),q)]
theorem SX:FJ X (.type "list") (λxs H Q=>∃p ys,xs=[.ref p]/\(SqL X.K H p ys\/SqT X.K H p ys)/\∀l,H l=n9->Q (.ref l) (upd H l (.lst ys))):=by
 erw[?k s σ H xs us Q I r h,AK h λp ys t i q=>?_,-h,<-t,xea (QY r) λu m A=>?_,<-m,!A];have fin:∀(c:F_),AT ys c->ys.length<=sizeLine->∀(h':T_)(d:Nat),(∀b z,s.heap.get? b=n8 z->h'.get? b=n8 z) -> h'.get? s.heap.objs.size=n8 {cls:=.type "list",dict:=n9,data:=.seq c.toArray d,slots:=#[]}->EP X k σ Q (.ref s.heap.objs.size) {s with heap:=h'}:=λc f j h' d kp e =>
  (.ref s.heap.objs.size,_,I.laid (t':=s.toks) kp (C1 _) (show BU X.prog X.w _ h' _ (.lst ys)from(j,c,d,f,e)),Z,q _ (I.hok.fresh (C1 _)))
 rcases i with i|i
 .erw[AI (I.list i) λc f pl j=>?_,g=f.length,(o,y,v,n,x)=pl.isList,call_list_seq p (.inl Z) y v x (λh' d kp e=>fin c f j h' d kp e) (by simp only[J3]<;>lia)]
 .erw[(c,f,pl,j)=I.tuple i,g=f.length,(o,y,v,n,x)=pl,call_list_seq p (.inr Z) y v x (λh' d kp e=>fin c f j h' d kp e) (by simp only[J3]<;>lia)]
theorem CD:FJ X (.type "tuple") (λxs H Q=>∃p ys,xs=[.ref p]/\((SqL X.K H p ys/\∀l,H l=n9->Q (.ref l) (upd H l (.tup ys)))\/(SqT X.K H p ys/\Q (.ref p) H))):=by
 erw[?d s σ H xs us Q I r h,(p,ys,rfl,h)=h,(u,rfl,n)=QY r,!n];rcases h with ⟨f,q⟩|⟨f,q⟩
 .obtain⟨c,g,pl,k⟩:=I.list f;have j:=g.length;refine call_tuple_list pl.isList (λh' kp=>?_) (by simp only[J3]<;>lia);have i:=I.kept (t':=s.toks) kp;have m:Inv X d σ (upd H h'.objs.size (.tup ys)) {s with heap:=h'.push {cls:=.type "tuple",data:=.seq c.toArray} } :=
   i.laid (t':=s.toks) (λb o e=>C6 _ e) (C1 _) (show BU X.prog X.w _ _ _ (.tup ys)from(k,c,g,IsTup.new _ _))
  exact(.ref h'.objs.size,_,m,Z,q _ (i.hok.fresh (C1 _)))
 .erw[(c,g,pl,k)=I.tuple f,call_tuple_same pl (.ref p,H,I,Z,q)]
def tyV(K:O_)(T:String)(x:V)(H:Hp):Prop:=match x with
|.str _=>T="str"
|.int _=>T="int"
|.ref p=>(T="list" /\ ∃xs,SqL K H p xs)\/(T="tuple" /\ ∃o,K.lookup p=n8 o/\o.cls=.type "tuple" /\ o.dict=n9) \/
  (T="dict" /\ ((∃kvs,H p=n8 (.dK kvs))\/∃kvs,H p=n8 (.dT kvs)))\/(T="set" /\ ∃S n,H p=n8 (.set S n))
|_=>False
theorem aFw(I:Inv X h σ H s)(r:Bc x v)(j:tyV X.K T x H) :
  s.TypeIs v T/\∀a,v=.ref a->∃m,s.heap.get? a=n8 m/\m.dict=n9:=by
 cases x with
 |str z =>
  erw[(t,rfl)=r,!(show T="str" from j),(B1f s z t,λ_ e=>nomatch e)]
 |int i =>
  erw[(t,rfl)=r,!(show T="int" from j),(typeIs_int s i t,λ_ e=>nomatch e)]
 |ref p =>
  cases r;rcases j with ⟨rfl,xs,u⟩|⟨rfl,o,f,q,l⟩|⟨rfl,f⟩|⟨rfl,S,n,f⟩
  .erw[AI (I.list u) λw _ pl _=>(pl.isList.typeIs,λa e=>?_)]
   erw[!e,CG pl λo n e c l _=>(o,e,l)]
  .erw[((o,I.kIn p o f,q),λa e=>?_),!e,(o,I.kIn _ o f,l)]
  .have z:∃o,s.heap.get? p=n8 o/\o.ExactDict:=by
    rcases f with ⟨kvs,f⟩|⟨kvs,f⟩
    .erw[CW (I.hok p _ f) λ_ _ _ _ d=>Dl d λo _ _ e g _=>(o,e,g)]
    .erw[CW (I.hok p _ f) λ_ _ _ _ d=>Dl d λo _ _ e g _=>(o,e,g)]
   erw[xea z λo e g=>((o,e,g.1),λa k=>?_)]
   erw[!k,(o,e,g.2.1)]
  .erw[xe4 (I.hok p _ f) λo _ _ _ d=>xa2 d λe g _=>((o,e,g.1),λa k=>?_),!k,(o,e,g.2.1)]
 |_=>erw[False.elim j]
def tBM(K:O_)(T:String)(r:V->List V->Hp->VK->Prop)(to:TE)(t:TA):TE:=fun σ H Q=>to σ H λx H1=>tyV K T x H1/\t σ H1 λxs H2=>r x xs H2 Q
variable{o e:Expr}{es:List Expr}{to:TE}{t:TA}{name:Str}{apos cpos:Pos}{T id:String}{r:V->List V->Hp->VK->Prop}
theorem Dm(E:PlainAttrs T)(j:Slot T name id)(l:typeOf (.builtin id)=pure (.type "method_descriptor"))(B:MtR X id r)(C:PE X o to)(A:PA X (e::es) t)
  (f:attributeBase o name X.env (eval o X.env)=eval o X.env:=by rfl)
  (i:((backTo cpos (starEach (e::es) X.env)).all (λx=>!x.1) && (backToKw cpos (keywordEach [] X.env)).all (λx=>x.1.isSome)
   && decide ((e::es).length+([]:List Keyword).length+(if([]:List Keyword).isEmpty then 0 else 1)<30))=o0:=by rfl)
  (g:(apos.endLine==cpos.line)=o0:=by rfl) (D:starEach (e::es) X.env=#[o3,eval e X.env]::starEach es X.env:=by rfl) (d:(backTo cpos (starEach es X.env)).any (·.1)=o3:=by rfl) :
  PE X (.Call (.Attribute o name apos) (e::es) [] cpos) (tBM X.K T r to t):=by
 erw[?c s σ H Q I h,wpAny_Call_method_late f i g Z (thn (C c s σ H _ I h) λv M k=>?_),CG k λx q m p O F=>?_,(y,z)=aFw m p O,(T,id,E,j,l,y,z,?_),n=A cpos c M σ q _ m F];rw[D]at n⊢;erw[B1g (by show(o3 || (backTo cpos (starEach es X.env)).any (·.1))=o3;rw[d]<;>rfl) (B2e ?_),thn n λus N k=>AK k λvs u w L G=>B c N σ u x vs v us Q w p L G]
end
def MtM(X:Cx)(id:String)(r:V->List V->Hp->VK->Prop):Prop :=
 ∀(n7:A_)(s:P_)(σ:St)(H:Hp)(x:V)(xs:List V)(v:S_)(us:F_)(Q:VK),Inv X n7 σ H s->Bc x v->AT xs us->r x xs H Q ->
  wpAny (model X.prog X.w) X.A (call (.builtin id) (v::us)) (EP X n7 σ Q) X.xe s
theorem AT.one:∀{x:V}{us:F_},AT [x] us->∃u,us=[u]/\Bc x u
:= λh=>by
 cases h with
 |cons r t =>
  erw[!t,(_,Z,r)]
theorem AT.two:∀{x y:V}{us:F_},AT [x,y] us->∃u v,us=[u,v]/\Bc x u/\Bc y v
:= λh=>by
 cases h with
 |cons r t =>
  erw[xea (AT.one t) λ_ a q=>?_,<-a,(_,_,Z,r,q)]
theorem AT.rep(h:AT xs us):∀k:Nat,AT (List.replicate k xs).flatten (List.replicate k us).flatten
|0=>.nil
|k+1=>by
 erw[[U8,U8,U0,U0],AT.append h (AT.rep h k)]
theorem Rt(b:F_):∀(k:Nat)(a:F_),
 List.foldl (λd f=>d++f) a.toArray (List.replicate k b.toArray)=(a++(List.replicate k b).flatten).toArray
|0,a=>by simp
|k+1,a=>by
 have e:a.toArray++b.toArray=(a++b).toArray:=by simp
 have c:(a++b)++(List.replicate k b).flatten=a++(List.replicate (k+1) b).flatten:=by
  rw[U8,U0,O3]
 rw[<-c,<-Rt b k (a++b),<-e,U8,U9]
section
variable{X:Cx}{n7:A_}{σ:St}{H:Hp}{s:P_}{l b:R_}{xs ys zs:List V}
theorem Inv.lset{a its':F_}{n:Nat}{f:Array Value->Array Value}{t':Nat}(I:Inv X n7 σ H s)(c:H l=n8 (.lst xs))
  (e:s.heap.get? l=n8 {cls:=.type "list",data:=.seq a.toArray n}) (g:f a.toArray=its'.toArray) (i:AT ys its') (j:ys.length<=sizeLine) :
  Inv X n7 σ (upd H l (.lst ys)) {s with heap:=s.heap.update l (Obj.mapSeq f),toks:=t'}:=by
 erw[q=PySem.IsL.update e f];rw[g]at q;erw[I.write (x:=l) (e:=l) (by erw[[c],trivial]) (.inl Z) (λk u d h=>(A0c s.heap (Obj.mapSeq f) (A3f d)).trans h) (_,q) ?_,(j,its',_,i,q)]
theorem Inv.lnew(I:Inv X n7 σ H s)(c:AT ys a)(d:ys.length<=sizeLine) :
  Inv X n7 σ (upd H s.heap.objs.size (.lst ys)) {s with heap:=s.heap.push {cls:=.type "list",data:=.seq a.toArray},toks:=t'} :=
 I.laid (λ_ _ q=>C6 _ q) (C1 _) (d,a,0,c,F4 _ Z)
theorem Inv.fresh(I:Inv X n7 σ H s):H s.heap.objs.size=n9:=I.hok.fresh (C1 _)
theorem Inv.lstM(I:Inv X n7 σ H s)(c:H l=n8 (.lst xs)):xs.length<=sizeLine/\∃(a:F_)(n:Nat),AT xs a/\xs.length=a.length/\s.heap.get? l=n8 {cls:=.type "list",data:=.seq a.toArray n}:=by
 erw[Od (I.hok l _ c) λz a n r e=>(z,a,n,r,r.length,e)]
theorem aBm(h:n<=sizeLine):Builtin.List.listTooLong n=o3:=by
 erw[¬Builtin.List.listTooLong,A3a (Nat.not_lt_of_le h)]
end
section
variable{X:Cx}
def WF:V->List V->Hp->VK->Prop:=λx vs H Q=>∃l xs y,x=.ref l/\vs=[y]/\H l=n8 (.lst xs)/\xs.length<sizeLine/\Q .non (upd H l (.lst (xs++[y])))
theorem BI:MtM X "list.append" WF:=by
 erw[?g s σ H x vs v us Q I m k h,Ch h λl xs y c d f i q=>?_,-h,<-c,<-d,!m,xea k.one λu b j=>?_,<-b,DH (I.lstM f) λz a n r o e=>A9g F.slot_list_append (_,e,Z) F.entry_list_append (F.args_list_append_2 _ _) (PySem.list_append l a.toArray n u (by rw[J3];lia)) (e,?_),(.non,_,I.lset (its':=a++[u]) f e B0 (r.append (.cons j .nil)) ?_,Z,q),[D3,T7],X5 i]
def rCat:R2:=λx y H Q=>∃l b xs zs,x=.ref l/\y=.ref b/\H l=n8 (.lst xs)/\H b=n8 (.lst zs)/\xs.length+zs.length<=sizeLine/\∀p,H p=n9->Q (.ref p) (upd H p (.lst (xs++zs)))
theorem Vn:OpR X (binaryOp .Add) rCat:=by
 erw[?i s σ H x y v u Q I A B h,Cd h λl b xs zs f g o m d=>xa d λt q=>?_,-d,-h,<-f,<-g,!A,!B,DH (I.lstM o) λz c n r C e=>DH (I.lstM m) λE a D w p j=>PySem.P.add_list e j ?_ (by rw[J3,J3];lia),(k:c.toArray++a.toArray=(c++a).toArray)=by simp]
 erw[[k],(.ref _,_,I.lnew (t':=s.toks) (r.append w) (by erw[[D3],t]),Z,q _ I.fresh)]
def rRep:R2:=λx y H Q=>∃l k xs,x=.ref l/\y=.int k/\H l=n8 (.lst xs)/\-(2^63)<=k/\k<2^63/\xs.length*k.toNat<=sizeLine /\
 ∀p,H p=n9->Q (.ref p) (upd H p (.lst (List.replicate k.toNat xs).flatten))
theorem aCh{α:Type}(xs:List α)(k:Nat):(List.replicate k xs).flatten.length=k*xs.length:=by
 induction k with
 |zero=>simp
 |succ k a=>rw[U8,U0,D3,a,Nat.succ_mul,Nat.add_comm]
theorem aFS:OpR X (binaryOp .Mult) rRep:=by
 erw[?C s σ H x y v u Q I M N h,Ch h λl k xs o p K E j=>xa2 j λG B q=>?_,-j,-h,<-o,<-p,!M,(t,rfl)=N,DH (I.lstM K) λz b n r L e=>?_,(g:b.toArray.size*k.toNat<=sizeLine)=by erw[[J3,-L],B]]
 have d:¬b.toArray.size*k.toNat > (2^63-1)/8:=by
  have:(sizeLine:Nat)<=(2^63-1)/8:=by decide
  lia
 have f:¬(!Builtin.List.listFitsIndex k)=o0:=by
  erw[[fitsIndex_both E G],F6]
 have c:¬Builtin.List.listTooLong (b.toArray.size*k.toNat)=o0:=by
  erw[[aBm g],F6]
 have i:List.foldl (λw A=>w++A) #[] (List.replicate (if b.toArray.isEmpty=o0 then 0 else k.toNat) b.toArray)=(List.replicate k.toNat b).flatten.toArray:=by
  have D:∀m:Nat,List.foldl (λw A=>w++A) #[] (List.replicate m b.toArray)=(List.replicate m b).flatten.toArray:=λm=>by
   have:=Rt b m [];rw[Y5]at this;erw[this]
  rw[D];cases b with
  |nil=>simp
  |cons a P=>rw[A2f B0]
 erw[wpAny_binaryOp_repeat_ref (T:="list") (U:="int") A6 (_,e,Z) (λO=>typeIs_int O k t) noFill_list_mul F.fills_int_mul F.slot_int_rmul repeat_list F.slot_int_index.lookup (A9g F.slot_int_rmul (typeIs_int s k t) F.entry_int_rmul (F.args_int_rmul_2 _ _) (int___rmul___int_list k t l b.toArray n) (e,Z,(_,e,Z),A9g F.slot_list_mul (_,e,Z) F.entry_list_mul (F.args_list_mul_2 _ _) (AutoListH.list___mul___list_int_3 l b.toArray n k t f d c) (e,?_)))]
 erw[[i],(.ref _,_,I.lnew (t':=s.toks) (r.rep k.toNat) (by erw[[aCh,K9],B]),Z,q _ I.fresh)]
end
end L2
namespace Att
open PySem PySem.W PySem.Calls PyProof.Rows
theorem OE:∀(ns:I_)(vs:F_),WellAll P h vs (ns.map WData.int)->IntsAre vs ns:=by
 intro ns;induction ns with
 |nil =>
  intro vs w;rw[Z2]at w;erw[!w,.nil]
 |cons n ns c =>
  intro vs w;rw[J0]at w;cases w with
  |cons a b =>
   erw[!a,.cons _ _ (c _ b)]
theorem YF{l:OpenLaw}{n:Nat}(v:l.most=n8 n){P:Params}{h:T_}{args:List WData}{c:F_}
  (b:l.row.toRowW.claim.pre args=o0) (o:WellAll P h c args) :
  ∃a vs ns,c=[Value.ref a]/\args=[WData.list (ns.map WData.int)]/\h.get? a=n8 {cls:=.type "list",data:=.seq vs.toArray}/\IntsAre vs ns/\ns.length<=n:=by
 erw[m=(pre_splitW b).1,(p:l.pre.holds [] {args:=args}=o0)=(pre_splitW b).2,AK (hasAllW_cons m) λd r k s t=>?_,<-k];obtain rfl:=hasAllW_nil t;erw[xea (hasW_list s) λxs j u=>?_,<-j,(ns,rfl)=items_int u];have f:ns.length<=n:=by
  unfold OpenLaw.pre at p;have g:(WTm.not (.lt (.lit (.int (n:Int))) (.len (.arg 0)))).holds [] {args:=[.list (ns.map .int)]}=o0:=by
   erw[g=(holds_andW p).1];rw[v]at g;erw[g]
  erw[i=condW_of g (w_not (w_lt w_lit (w_len_list (w_arg Z))))];rw[C0]at i;erw[M4 λq=>?_,(x:(n:Int)<((ns.length:Nat):Int))=by lia]
  first
   | (rw[A2g x]at i;exact absurd i A6)
   | (simp at i;lia)
 cases o with
 |cons y z =>
  cases z;cases y with
  |list w e=>exact(_,_,ns,Z,Z,w,OE ns _ e,f)
theorem YH(l:OpenLaw)(args:List WData):l.row.toRowW.claim.post args (.bool o0) args=o0 :=
 postW_of (r:=l.row.toRowW) (X:=(o0==o0))
  (show WShape.has [] (.bool o0) .bool=o0 by first|rfl|decide|simp[WShape.has,WShape.arms,WShape.armsAll])
  (show(WTm.eq .res (.lit (.bool o0))).value [] {args:=args,res:=n8 (.bool o0),after:=args}=n8 (.bool (o0==o0))from w_eq_bool (w_res Z) w_lit) Z
theorem UN{l:OpenLaw}{n:Nat}{q:N_}{c:K_}{D:(Str->Option Value)->Heap->Prop}{E:World->Heap->Prop}{d:DefRec}
  (U:l.most=n8 n) (y:d.params.defaults=[])
  (call:∀(w:Q_)(e b:P_)(mg B:C_)(i:R_)(o:Obj)(C p g:S_)(a:R_)(vs:F_)(ns:I_),
   Ground q c [] D w e mg B b.heap->E w b.heap ->
   b.heap.get? i=n8 o->o.data=.func (docDef d.name d.params d.body d.scope C p g)->b.heap.CodeRec p d.name->mg d.name=n8 (.ref i) ->
   b.heap.get? a=n8 {cls:=.type "list",data:=.seq vs.toArray}->IntsAre vs ns->ns.length<=n->b.gens=#[] ->
   codeAny (model l.prog w) callerA (.call (.ref i) ([.ref a],[])) (λr s=>r=.ok (.ret (.bool o0))/\OldK b.heap s.heap/\s.os=b.os/\AllBare s.gens) b) :
  WalkO q c D E l.row.toRowW d [] (λf vs=>PySem.call f vs):=by
 intro w e b mg B G Y i o C p g M kV V Q x H z R F L as m I W A S;obtain rfl:M=.none:=Dflts.none H y;obtain rfl:kV=.none:=Dflts.noKw H;erw[Ch (YF U m A) λa vs ns u v k h j=>?_,<-u,<-v,enter_call (B1e (call w e b mg B i o C p g a vs ns G Y V (fd_plain Q) x z k h j R) λr s K=>?_),xa3 K λt N O P=>?_,-K,<-t,(.inl (.bool o0,.bool o0,[],Z,λ_=>Z,.bool o0,YH l _,λ_=>(List.Pairwise.nil,λ_ T=>(nomatch T))),N,O,P)]
end Att
namespace L2
open PySem PySem.Spec PyProof.Rows
theorem QX:∀{vs:F_}{ns:I_},IntsAre vs ns->AT (ns.map V.int) vs
|_,_,.nil=>.nil
|_,_,.cons n t h=>.cons (t,Z) (QX h)
def aEP(H:Hp):Prop:=∀b,H b=n9\/∃o xs,H b=n8 (.frz o (.lst xs))
theorem aBS{P:N_}{w:Q_}{K:O_}{mg X:C_}{CX:CXT}{k:Nat}{Q a:R_}{fd:E_}{x:Str}{sp:Sp}{c:P_}{vs:F_}{ns:I_}
  (KX:K.In c.heap) (B:c.heap.Ns mainGlobals mg) (g:c.heap.Ns builtinsNs X) (S:∀x:Str,x≠"__name__" -> X x=bootBuiltins x) (A:c.heap.NoLimit) (hg:c.gens=#[])
  (N:c.heap.get? a=n8 {cls:=.type "list",data:=.seq vs.toArray}) (hi:IntsAre vs ns) (hl:ns.length<=sizeLine) (hr:De k callerA)
  (F:∀i:Heap,K.In i->i.Ns mainGlobals mg->AJ P w K mg i CX k Q fd [x] sp) (t:∀(s:P_)(u:S_),BindsTo s fd ([u],[]) [#[x,u]])
  (U:∀H:Hp,aEP H->SqL K H a (ns.map V.int)->sp [.ref a] H (λv _=>v=.bl o0) λ_ _ _=>False)
  (R:∀H e j,CX [] H c (λ_ _ _=>False) e j->False) :
  codeAny (model P w) callerA (.call (.ref Q) ([.ref a],[])) (λr j=>r=.ok (.ret (.bool o0))/\OldK c.heap j.heap/\j.os=c.os/\AllBare j.gens) c:=by
 erw[rv=QX hi,E=hi.length];have p:∀H:Hp,aEP H->SqL K H a (ns.map V.int)->HOk P w H c.heap->(∀b,H b≠n9->b=a)->(H a≠n9->K.lookup a=n9) -> codeAny (model P w) callerA (.call (.ref Q) ([.ref a],[])) (λr j=>r=.ok (.ret (.bool o0))/\OldK c.heap j.heap/\j.os=c.os/\AllBare j.gens) c:=by
  erw[?H hO hS C hA hK,(f:∀{b:R_}{o:Obj},c.heap.get? b=n8 o->H b=n9->(SO c.heap H).get? b=n8 o)=λe n=>aBH e n];have Y:∀{b:R_}{o:Obj}{M:Array DictEntry}{L:Nat},c.heap.get? b=n8 o->o.data=.dict M L->H b=n9:=λ{b o M L} e d=>by
   cases q:H b with
   |none=>rfl
   |some u =>
    erw[O=hA b (by rw[q];simp),<-O];rw[N]at e;erw[!e,d'=d,!d']
  have l:∀{b:R_}{m:C_},c.heap.Ns b m->(SO c.heap H).Ns b m:=λ{b m} ⟨o,M,L,e,d,r⟩=>(o,M,L,f e (Y e d),d,r)
  have y:K.In (SO c.heap H):=λb o e=>f (KX b o e) (by
   cases q:H b with
   |none=>rfl
   |some u =>
    have O:=hA b (by rw[q];simp);subst O;rw[hK (by rw[q];simp)]at e;cases e)
  have hM:Mod K mg (SO c.heap H):=(y,l B,(X,l g,S),let ⟨mc,h1,h2⟩:=A;(mc,l h1,h2))
  have e0:OG P w K mg (SO c.heap H) callerA [] c H:=(Z,hM,λb o e=>aCr e,Z1 (Zm _ _),trivial,λb g=>absurd (show b∈([]:H_)from g) B0,C,.of_eq hg)
  erw[B1e ((F _ y (l B)).run callerA [] c H ([.ref a],[]) [.ref a] [.ref a] _ _ hr e0 (t c (.ref a)) (.cons Z .nil) (U H hO hS)) λr j h=>?_];cases r with
  |error e=>exact(R H e j h).elim
  |ok fl =>
   cases fl with
   |next=>erw[False.elim h]
   |brk=>erw[False.elim h]
   |cont=>erw[False.elim h]
   |ret u =>
    erw[Ci h λv H' G bare un D aa=>xa aa λr' q=>?_,q'=q,<-q'];obtain rfl:u=Value.bool o0:=r';erw[(Z,OldK.of_keep λb o e=>?_,G,bare)];cases q:H b with
    |none=>erw[un.keep b o e q (by erw[?z,absurd (show b∈([]:H_)from z) B0]) B0]
    |some u =>
     rcases hO b with z|⟨ob,xs,z⟩
     .rw[q]at z;cases z
     .erw[z2=un.frzs b ob _ z,(e1,_)=C b _ z,(e2,_)=D b _ z2];rw[e]at e1;erw[!e1,e2]
 cases T:K.lookup a with
 |some o =>
  erw[e=KX a o T];rw[N]at e;erw[!e,p (λ_=>n9) (λ_=>.inl Z) (.inr (_,vs.toArray,_,T,Z,Z,Z,by erw[[J3,E],hl],by simpa using rv)) (λb u z=>by erw[I=z,!I]) (λb z=>absurd Z z) λz=>absurd Z z]
 |none =>
  erw[p (λb=>if b=a then n8 (.frz {cls:=.type "list",data:=.seq vs.toArray} (.lst (ns.map V.int)))else n9) (λb=>?_) (.inl (.inr ({cls:=.type "list",data:=.seq vs.toArray},A2h Z))) (λb u z=>?_) (λb z=>?_) λ_=>T]
  .erw[(g:b=a)]
   .erw[.inr (_,_,A2h g)]
   .erw[.inl (A2f g)]
  .erw[(g:b=a)]
   .erw[I=(A2h g).symm.trans z,!I,<-g,(N,by erw[[C0],hl],vs,_,rv,N)]
   .erw[I=(A2f g).symm.trans z,!I]
  .erw[(g:b=a)]
   .erw[g]
   .erw[absurd (A2f g) z]
theorem Wc{l:W.OpenLaw}{n k:Nat}{q:N_}{m:K_}{M:(Str->Option Value)->Heap->Prop}{I:World->Heap->Prop}{d:DefRec}{K:Params->W.Frag}{CX:World->CXT}{sp:World->Sp}{x:Str}
  (hn:l.most=n8 n) (B:n<=sizeLine) (z:d.params.defaults=[]) (hr:De k callerA)
  (R:∀(w:Q_)(h:T_),I w h->(K w.params).In h)
  (F:∀(w:Q_)(mg:C_)(t:R_)(h:T_),(K w.params).In h->h.Ns mainGlobals mg->mg d.name=n8 (.ref t) ->
   ∃fd:FuncData,(∀(s:P_)(u:S_),BindsTo s fd ([u],[]) [#[x,u]]) /\
    ∀c:Heap,(K w.params).In c->c.Ns mainGlobals mg->AJ l.prog w (K w.params) mg c (CX w) k t fd [x] (sp w))
  (C:∀(w:Q_)(H:Hp)(a:R_)(ns:I_),ns.length<=n->aEP H->SqL (K w.params) H a (ns.map V.int)->sp w [.ref a] H (λv _=>v=.bl o0) λ_ _ _=>False)
  (y:∀(w:Q_)(H:Hp)(s:P_)(e:S_)(D:P_),CX w [] H s (λ_ _ _=>False) e D->False) :
  W.WalkO q m M I l.row.toRowW d [] (λf vs=>PySem.call f vs):=by
 erw[Att.UN hn z λw L r mg mb t o pm cd N a vs ns G Y ho hd U A p j i X=>?_,E=R w _ Y,xea (F w mg t _ E G.T.g A) λfd S O=>aBS E G.T.g G.T.b G.T.builtins G.T.nolimit X p j (C9 i B) hr O S (λH P Q=>C w H a ns i P Q) λH e D=>y w H r e D]
end L2
namespace L2
open PySem PySem.Spec PyProof.Rows
noncomputable def Bg(s:Stmt)(j:Nat):Stmt:=match s with
|.ClassDef _ _ _ body _ _ _ _ _ _ _=>body.getD j (.Pass (0,0,0,0))
|_=>.Pass (0,0,0,0)
noncomputable def Nb(s:Stmt):Arguments:=match s with
|.FunctionDef _ a _ _ _ _ _ _ _ _=>a
|_=>{posonlyargs:=[],args:=[],vararg:=n9,kwonlyargs:=[],kw_defaults:=[],kwarg:=n9,defaults:=[]}
noncomputable def LF(s:Stmt):List Stmt:=match s with
|.FunctionDef _ _ b _ _ _ _ _ _ _=>b
|_=>[]
noncomputable def Ah(s:Stmt):Scope:=match s with
|.FunctionDef _ _ _ _ _ _ sc _ _ _=>sc
|_=>{kind:=.function,names:=[],isGenerator:=o3,isCoroutine:=o3}
abbrev CX0:CXT:=λ_ _ _ _ _ _=>False
abbrev E0:XK:=λ_ _ _=>False
theorem AQ:GJ CX0 X E0:=λ_ _ _ _ _ _ _ h=>h.elim
structure Fun(K:O_)(x qual:Str)(st:Stmt)(f:R_)(fd:E_):Prop where
ex:∃(oc:S_)(od:Option Addr)(kV doc pm:S_)(an:Option Addr)(cdv ct:S_)(osl:Array (Option Value)),
 fd=W.fnOf x qual (Nb st) (LF st) (Ah st) .none kV doc pm an cdv ct/\K.lookup f=n8 (oc,od,.func fd,osl)/\W.codeIn K cdv qual=o0
kp:keepIn K (.ref f)=o0
section
variable{P:N_}{w:Q_}{K:O_}{mg:C_}{n6:T_}
theorem Fun.ok{x b:Str}{st:Stmt}{f:R_}{fd:E_}{N m:K_}{k:Nat}{sp:Sp}(F:Fun K x b st f fd)(S:Au N m (Ah st))(len:∀vs H Q E,sp vs H Q E->vs.length=m.length)
  (d:∀(c:S_)(A:Around)(a:List Env)(s:P_)(H:Hp)(vs:List V)(Q:VK)(E:XK),De k (A.deeper (envOfC b (Ah st) s.heap.objs.size f c))->sp vs H Q E ->
   ∃t,PSs (Zt CX0 P w K mg n6 N b (Ah st) f c A a s H E).nox (LF st) t/\t {nx:=λ_ n=>Q .non n,rt:=Q} (Oe N vs) H):AJ P w K mg n6 CX0 (k+1) f fd m sp:=by
 erw[xe5 F.ex λz B kV o C g=>xe4 g λv c y u i=>xa2 i λe r j=>?_,-g i,<-e,aGi r j S len λA a s H vs Q E p l=>xea (d c A a s H vs Q E p l) λt h q=>(t,h.nox,q)]
theorem Fun.binds{x a:Str}{st:Stmt}{f:R_}{fd:E_}{l:K_}(F:Fun K x a st f fd)
  (h:∀(kV c k:S_)(i:Option Addr)(b j:S_)(us:F_),us.length=l.length->bindArgs (W.fnOf x a (Nb st) (LF st) (Ah st) .none kV c k i b j) (us,[])=pure (l.zip us)):CO K fd l []:=by
 erw[xe5 F.ex λp q kV c k e=>xe4 e λi b j n g=>xa2 g λd o m=>?_,-e g,<-d,.all (h kV c k i b j)]
theorem VS {x a:Str} {st:Stmt} {f:R_} {j:S_} {m g:Option Addr} {e:Array (Option Value)} {kV d i b h:S_} (l:K.lookup f=n8 (j,m,.func (W.fnOf x a (Nb st) (LF st) (Ah st) .none kV d i g b h),e))
 (c:W.codeIn K b a=o0) (k:keepIn K (.ref f)=o0):Fun K x a st f (W.fnOf x a (Nb st) (LF st) (Ah st) .none kV d i g b h):=((j,m,kV,d,i,g,b,h,e,Z,l,c),k)
end
theorem Ei{k:Nat}(a:De k A):A.units+1<cLine:=F3 (U7 (by decide:1<=64) _) a.units
section
variable{X:Cx}
theorem pv(i:Nat)(b:X.N[i]?=n8 x:=by rfl)(d:Vis X.env.scope x:=by first|exact Or.inl rfl|exact Or.inr O_9|exact Or.inr (Or.inr rfl))(c:(x==("__debug__" : Str))=o3:=by decide)
 (a:(x==("__classdict__" : Str))=o3:=by decide):PE X (.Name x pos) (DX i):=aFW b d c a
end
theorem Bj{A B:Prop}(h:B):if o3=o0 then A else B:=by
 erw[[A2f F6],h]
theorem Cy{A B:Prop}(h:A):if o0=o0 then A else B:=by
 erw[[A2h rfl],h]
theorem LL{c A B:Prop}[Decidable c](a:c->A)(b:¬c->B):if c then A else B:=by
 erw[(h:c)]
 .erw[[A2h h],a h]
 .erw[[A2f h],b h]
theorem Ot{c A B:Prop}[Decidable c](a:c)(h:B):if(!decide c)=o0 then A else B:=by
 erw[[A2g a],Bj h]
def As(H H':Hp):Prop:=∀b o,H b=n8 o->H' b=n8 o
theorem As.refl(H:Hp):As H H:=λ_ _ h=>h
theorem As.trans(a:As H d)(b:As d e):As H e:=λc o h=>b c o (a c o h)
theorem As.seq{K:O_}{H b:Hp}{a:R_}{xs:List V}(e:As H b)(h:SqL K H a xs):SqL K b a xs:=by
 rcases h with (h|⟨o,h⟩)|h
 .erw[.inl (.inl (e _ _ h))]
 .erw[.inl (.inr (o,e _ _ h))]
 .erw[.inr h]
def Yv(a D:R_)(h:T_):Prop:=∃o,h.get? a=n8 o/\o.cls=.ref D/\∃vs,o.data=.fields vs/\vs[2]?=n8 .none
theorem Yv.not(x:Yv a D h):∃o,h.get? a=n8 o/\o.cls=.ref D/\notCls o=o0:=by
 erw[(o,e,c,vs,d,_)=x,(o,e,c,by erw[¬notCls,[d]])]
noncomputable def aDy(a D:R_):HO:=.ext (Yv a D)
theorem Inv.track(I:Inv X d σ H s)(g:H a=n9)(f:X.s₀.heap.get? a=n9)(k:X.n6.get? a=n9)(hL:X.env.locals≠a)(h:∀x c,X.env.cells.lookup x=n8 c->c≠a)
  (i:∀p,p∈X.pn++d->p.1≠a) (l:∀b,b∈X.fs->b≠a) (new:BU X.prog X.w (upd H a o) s.heap a o):Inv X d σ (upd H a o) s:=by
 have ne:∀b u,H b=n8 u->b≠a:=λb u q z=>by rw[z,g]at q;cases q
 erw[(I.ok,I.os,I.bare,(I.n6.keep,I.n6.slot,λb u q n x=>?_,I.n6.there,λb xs q=>?_,λb u v q=>?_,λb j q=>?_),I.loc,I.cell,?_,λx c q=>?_,λp z=>?_,λb u q=>?_,I.len)]
 .erw[[Aq (λz=>by rw[z,f]at q;cases q)],I.n6.free b u q n x]
 .erw[z=I.n6.tups b xs q,[Aq (ne _ _ z)],z]
 .erw[z=I.n6.frzs b u v q,[Aq (ne _ _ z)],z]
 .erw[(m,z)=I.n6.tbls b j q,(m,by erw[[Aq (ne _ _ z)],z])]
 .erw[[Aq hL],I.free]
 .erw[[Aq (h x c q)],I.freeC x c q]
 .erw[xa2 (I.pin p z) λe n r=>(e,by erw[[Aq (i p z)],n],r)]
 .erw[(z:b=a)]
  .subst z;rw[Af]at q;erw[!q,new]
  .rw[Aq z]at q;exact(I.hok b u q).stay (λc v _ r=>r) (λc r=>by erw[[Aq (ne _ _ r)],r]) λc xs r=>by erw[[Aq (ne _ _ r)],r]
section
variable{X:Cx}{tg:Expr}
noncomputable def Its(x:Str):It:=(λi _=>i<x.cps.size,λi H v H'=>H'=H/\∃c,x.cps[i]?=n8 c/\v=.str ⟨#[c]⟩,λi _=>i=x.cps.size)
theorem Ti{P:N_}{w:Q_}{K:O_}(it:R_)(x:Str)(t:Tok)(T:String)(R:["enumerate","zip","dict_itemiterator","dict_reverseitemiterator","odict_iterator","itertools.zip_longest","itertools.pairwise"].contains T=o3)
  (W:∀A:Around,A.handled=n9->Walks P w A it [it] [it] x.cps.size (SignAt x) (λi h=>h.IsStrIter it T x t i))
  (g:∀(A:Around)(i:Nat)(s:P_)(Q:B_)(E:B_),s.heap.IsStrIter it T x t i->Q (.ref it) s->wpAny (model P w) A (pyIter (.ref it)) Q E s):QU P w K tg (Its x) [it] it (λi h=>h.IsStrIter it T x t i) where
 mem:=by simp
 obj:=λi h st b f=>by
  have e:b=it:=by simpa using f
  erw[<-e,AI st λo e c d=>(o,e,λv z=>by rw[d]at z;cases z)]
 keep:=λi h h' ⟨o,e,r⟩ k=>(o,k it B0 o e,r)
 item:=by
  erw[?X C L B D i a s σ H E I l st G,<-C L B,xa5 (l it B0) λn p O q f4 y=>(W X.A (I.ok.hd D)).item i s _ _ G st λv h' tk M j kk=>BM M λc u F m=>?_,-M,<-m,(N:Inv X a σ H {s with heap:=h',toks:=tk})=I.turned (λb o f e=>kk b o (by simpa using f) e) n p q f4 y,AI (id j) λo e S U=>(_,Z,Uw (s:={s with heap:=h',toks:=tk}) e S U R (.str ⟨#[c]⟩,H,N,(u,Z),(Z,c,F,Z),j,λb f=>(l b f).1))]
 done:=by
  erw[?X C L B D i a s σ H E I l st G,<-C L B,xa5 (l it B0) λn p O q f4 y=>?_,z=G,<-z,(W X.A (I.ok.hd D)).done s _ _ st λh' tk kk=>(Z,I.turned (λb o f e=>kk b o (by simpa using f) e) n p q f4 y)]
 self:=g
def iStr(tl:TE):TI:=fun σ H R=>tl σ H λv H1=>∃x,v=.str x/\R (Its x) H1
theorem aCB(r:PE X l m):PI X tg l (iStr m):=by
 erw[?a s σ H R I h,thn (r a s σ H _ I h) λv c n=>AK n λy f d u k=>xea k λx g q=>?_,-k,<-g,(t,rfl)=u];have fp:∀b,b∈[c.heap.objs.size]->Ed X a f b:=λb p=>by
  have e:b=c.heap.objs.size:=by simpa using p
  erw[<-e,d.fpOk (C1 _) (d.hok.fresh (C1 _))]
 cases j:x.cps.all (· < 128)with
 |true =>
  erw[wpAny_pyIter_ascii j (c.heap.objs.size,[c.heap.objs.size],_,_,f,Z,d.kept (t':=c.toks) λb o e=>C6 _ e,Ti _ x t "str_ascii_iterator" A6 (λA i=>Walks.strAscii i _ x t) (λ_ _ _ _ _ st h=>wpAny_pyIter_striter_ascii st h),(_,F4 _ Z,Z,Z),fp,q)]
 |false =>
  erw[wpAny_pyIter_wide j (c.heap.objs.size,[c.heap.objs.size],_,_,f,Z,d.kept (t':=c.toks) λb o e=>C6 _ e,Ti _ x t "str_iterator" A6 (λA i=>Walks.strWide i _ x t) (λ_ _ _ _ _ st h=>wpAny_pyIter_striter_wide st h),(_,F4 _ Z,Z,Z),fp,q)]
theorem aCW{x:Str}{g:TG}{o:TS}{D:II}{σ:St}{H:Hp}(b:Nat->St->Hp->Prop)(q:b 0 σ H)
  (t:∀i c σ H,x.cps[i]?=n8 c->b i σ H->g (.str ⟨#[c]⟩) σ H fun d j=>o {D with nx:=b (i+1),ct:=b (i+1),bk:=D.nx} d j) (s:∀σ H,b x.cps.size σ H->D.nx σ H) :
  ∃W:Nat->Nat->St->Hp->Prop,(∃m,W 0 m σ H)/\∀i m σ H,W i m σ H ->
   ((Its x).stop i H/\D.nx σ H)\/((Its x).go i H/\∃N:St->Hp->Prop,(∀σ' a,N σ' a->∃n,n<m/\W (i+1) n σ' a)/\∀v a,(Its x).yld i H v a->g v σ a fun d j=>o {D with nx:=N,ct:=N,bk:=D.nx} d j):=by
 erw[(λi m σ H=>m=x.cps.size-i/\i<=x.cps.size/\b i σ H,(x.cps.size,by simp,L7 _,q),?_),?i m σ H h,xa2 h λk hi p=>?_,-h,<-k,(f:i<x.cps.size)]
 .erw[.inr (f,b (i+1),fun σ' a u=>(x.cps.size-(i+1),by lia,Z,f,u),λv a y=>?_),JC y λe c r l=>?_,-y,<-l,<-e,t i c σ _ r p]
 .have e:i=x.cps.size:=by lia
  erw[<-e,.inl (Z,s σ H p)]
theorem Iw:FJ X (.type "int") (λxs H Q=>∃x n,xs=[.str x]/\PySem.intText? x=n8 n/\x.length<=640/\Q (.int n) H):=by
 erw[?b s σ H xs us Q I r h,CG h λx n a d c q=>?_,-h,<-a];cases r with
 |cons e f =>
  erw[!f,(t,rfl)=e,W.KIN.call_text d c (.int n,H,I.tok _,(_,Z),q)]
theorem UM(F:X.calm=o0):FJ X (.builtin "all") (λxs H Q=>∃(p:R_)(bs:List Bool),xs=[.ref p]/\SqL X.K H p (bs.map V.bl)/\Q (.bl (bs.all id)) H):=by
 erw[?f s σ H xs us Q I r h,AK h λp bs c G q=>?_,-h,<-c];cases r with
 |cons L M =>
  erw[!M,!(show _=Value.ref p from L),AI (I.list G) λa m pl R=>?_,l=L9 (by erw[BM pl λo n e _=>?_,F8 e]),call_all_walk (A8g pl.isList ?_)];have g:∀(i:Nat) v,a[i]?=n8 v->∃b,bs[i]?=n8 b/\v=.bool b:=λi v e=>by
   cases j:bs[i]? with
   |none =>
    have:a[i]?=n9:=m.none_of (by rw[C3,j];rfl);rw[e]at this;cases this
   |some b =>
    erw[xea (m.get (i:=i) (x:=V.bl b) (by rw[C3,j];rfl)) λu t N=>?_];rw[e]at t;erw[!t,(b,Z,N)]
  erw[(s.heap.objs.size,_,_,_,_,_,λi=>bs.getD i o0,Z,Walks.list (A:=X.A.in1) (I.ok.hd F) s.heap.objs.size p l a.toArray,((_,F4 _ Z,Z,Z),?_),?_,?_)]
  .erw[pl.isList.at λo e=>C6 _ e]
  .erw[?i v O y P D k,xea (g i v (by simpa using D)) λb j c=>?_,<-c,(B:bs.getD i o0=b)=by rw[D9,j];rfl]
   have k:y (bs.getD i o0) O:=k;rw[B]at k;erw[A5h k]
  .erw[?h' tk kk,(w:Inv X f σ H {s with heap:=h',toks:=tk})=I.kept λb o e=>kk b o (by erw[?z,L9 (F8 e) (by simpa using z)]) (C6 _ e),(len:a.toArray.size=bs.length)=by rw[J3,<-m.length,C0]]
   have C:(List.range a.toArray.size).all (λi=>bs.getD i o0)=bs.all id:=by
    rw[len,T5,U5,U5];constructor
    .erw[?z b E,(i,hi,e)=A1b.mp E];have:=z i (N9.mpr hi);rw[D9,C7 hi,e]at this;erw[this]
    .erw[?z i hi,d=N9.mp hi,[D9,C7 d],z _ (P2 d)]
   erw[[C],(.bl _,H,w,Z,q)]
end
structure aAY(K:O_)(D:R_):Prop where
hd:hasDictIn K D=o0
ga:findIn K (.ref D) "__getattribute__" = n8 (n8 (.builtin "BaseException.__getattribute__"))
gt:findIn K (.ref D) "__getattr__" = n8 n9
cl:findIn K (.ref D) "__class__" = n8 (n8 (.builtin "object.__class__"))
sp:specialIn K (.builtin "object.__class__") "__get__" = n8 (n8 (.builtin "getset_descriptor.__get__"))
tk:takesIn K (.builtin "object.__class__")=n8 o0
mo:mroIn K D (.type "object")=n8 o0
mb:mroIn K D (.type "BaseException")=n8 o0
section
variable{K:O_}{prog:N_}{w:Q_}{A:Around}{E:B_}{s:P_}{a D:R_}{o:Obj}
open PySem.W Builtin Builtin.ObjectAttr Builtin.Getset_descriptor
theorem aA7(X:K.In h)(f:aAY K D):Looks M h (find (.ref a) (.ref D) "__class__") (.bind (.builtin "getset_descriptor.__get__") (.builtin "object.__class__")) :=
 (looks_findIn X f.cl).andThen ((looks_specialIn X f.sp).andThen ((show Looks M h (dataDescriptor? (n8 (.builtin "object.__class__")) (n8 (.builtin "getset_descriptor.__get__"))) (n8 #[.builtin "getset_descriptor.__get__",.builtin "object.__class__"])from(looks_takesIn X f.tk).andThen .now).andThen (Looks.tag .now)))
theorem aCV(X:K.In s.heap)(f:aAY K D)(c:s.heap.get? a=n8 o)(b:o.cls=.ref D)(e:R (.ok (.ret (.ref D))) s) :
  codeAny (model prog w) A (.call (.builtin "getset_descriptor.__get__") ([.builtin "object.__class__",.ref a,i],[])) R s:=by
 erw[(h,g,d,t,l)=s,(j:Looks (model prog w) h (typeOf (.ref a)) (.ref D))=b▸(Looks.ld c).andThen .now,k=looks_mroIn (M:=model prog w) X f.mo,codeAny_call_builtin KF.slot_gs.plain KF.entry_gs (KF.slot_gs.check _ _ _ _ _ _ _ _ KF.type_class (KF.args_gs _ _ _) ?_)];unfold Builtin.«getset_descriptor.__get__» descrGet;erw[[dga_obj],A2e (A3c ?_),¬descrGetter descrCheckInstance descrNameAndClass isInstance];simp only[KF.owner_class]
 repeat lk
 erw[(Code.quiet_builtin _ A0,codeAny_builtin KF.entry_class ?_)];unfold Builtin.«object.__class__» shownTypeOf
 repeat lk
 erw[e]
theorem Zp(X:K.In s.heap)(f:aAY K D)(i:s.heap.get? a=n8 o)(e:o.cls=.ref D)(p:Q (n8 (.ref D)) {s with toks:=s.toks+1}) :
  wpAny (model prog w) A (getAttr? (.ref a) "__class__") Q E s:=by
 erw[(h,g,d,t,r)=s,(c:Looks (model prog w) h (typeOf (.ref a)) (.ref D))=e▸(Looks.ld i).andThen .now,j=looks_findIn (M:=model prog w) X f.ga,k=looks_findIn (M:=model prog w) X f.gt,l=aA7 (M:=model prog w) (a:=a) X f,(m:Looks (model prog w) h (isInstance (.ref a) (.type "BaseException")) o0)=c.andThen (looks_mroIn X f.mb)];unfold getAttr? getAttrBy? getAttrBy;erw[A2e (wpAny_mkText (A2e (A8f (A8e (A2e (c.at (A2e (j.at ?_))))))))];dsimp only;have q:(Value.builtin "BaseException.__getattribute__" == Value.builtin "object.__getattribute__")=o3:=by decide +kernel
 erw[[A2f (by erw[[q,Bool.and_false],F6])],¬getAttrByItsOwn hookBefore,[A2h (by rfl)],A2e (k.at ?_),A2e (A8f (A8e ?_)),¬callGetattribute,[A2f A6],¬boundAndCalled,A2e (wpAny_of_eq (PySem.F.excAttr_ValueError.ga.bind (.ref a)) ?_)];dsimp only;erw[wpAny_call (codeAny_call_builtin PySem.F.excAttr_ValueError.ga.plain PySem.F.entry_bexc_ga ?_),(n:builtinKind "BaseException.__getattribute__" = n8 .slot)=by decide +kernel]
 have b:splitId "BaseException.__getattribute__" = n8 #["BaseException","__getattribute__"]:=by decide +kernel
 simp only[checkBuiltinCall,n,b];erw[A2e (m.at ?_),[A2f A6],wpAny_of_eq (a:=()) (PySem.F.args_bexc_ga (.ref a) (.str "__class__" t)) ?_];unfold Builtin.«object.__getattribute__»;dsimp only at l
 repeat ((fail_if_success (with_reducible show wpAny _ _ (call _ _) _ _ _));lk)
 erw[wpAny_call (aCV (s:=(h,g,d,t+1,r)) X f i e ?_)];dsimp only
 repeat lk
 erw[p]
end
inductive TyX(K:O_)(H:Hp):V->Value->Prop where
|of {x:V} {t:S_} (h:Oc K H x t):TyX K H x t
|exc {a D:R_} (e:H a=n8 (aDy a D)) (f:aAY K D):TyX K H (.ref a) (.ref D)
theorem aBR{K:O_}{a D:R_}(f:aAY K D):W.KitX K (.ref a) (.ref D) (λh=>∃o,h.get? a=n8 o/\o.cls=.ref D/\notCls o=o0) where
 ty:=λM h X ⟨o,e,c,_⟩=>c▸(W.Looks.ld e).andThen .now
 it:=λM h X _=>by
  erw[xea (any_some f.hd) λm b _=>?_];unfold clsIn at b;split at b
  .rename_i l d' d j g;erw[?r t s v k q,¬isType loadHead,A2e (wpAny_loadPart (k _ _ (X _ _ g)) (A3c q))]
  .cases b
 ne:=λh x u p n w X i=>by
  erw[xea (any_some f.hd) λm b _=>A2d.mpr λq=>?_,e=Value.ref.inj (beq_iff_eq.mp q),<-e];unfold clsIn at b;split at b
  .rename_i l d' d j g;erw[z=(X _ _ g).symm.trans i,!z]
  .cases b
 ca:=λX ⟨o,e,c,_⟩ k=>Zp X f e c k
noncomputable def clsV:V->Option Value
|.ty n=>n8 (.type n)
|.ref C=>n8 (.ref C)
|_=>n9
theorem Fs{X:Cx}:FJ X (.builtin "isinstance") (λxs H Q=>∃x c d t b,xs=[x,c]/\clsV c=n8 d/\TyX X.K H x t/\kitOne X.K t d=n8 b/\Q (.bl b) H):=by
 erw[?j s σ H xs us Q I r h,(x,c,d,t,b,rfl,g,ty,i,q)=h];cases r with
 |@cons _ u _ _ l y =>
  cases y with
  |@cons _ v _ _ k o =>
   cases o;have m:v=d:=by
    cases c with
    |ty n=>erw[!g,k]
    |ref C=>erw[!g,k]
    |_=>cases g
   subst m;cases ty with
   |of ty=>erw[Zk I l ty i λtk=>(.bl b,H,I.tok tk,Z,q)]
   |@exc a D e f =>
    erw[!(show u=Value.ref a from l),xa2 (show BU X.prog X.w H s.heap a (aDy a D)from I.hok a _ e) λp _ _=>A5g (aBR f) I.kIn (Yv.not p) i (λz=>nomatch z) λtk=>(.bl b,H,I.tok tk,Z,q)]
section
variable{X:Cx}{c:Expr}{a b:List Stmt}{tc:TT}{t u:TS}{pos:Pos}
def tIfJ(J:St->Hp->Prop)(tc:TT)(t u:TS):TS:=λD σ H=>(tc σ H λb H1=>if b=o0 then t {D with nx:=J} σ H1 else u {D with nx:=J} σ H1)/\∀σ' H',J σ' H'->D.nx σ' H'
theorem SP.nx(k:∀σ' e,J σ' e->D.nx σ' e)(h:SP X d {D with nx:=J} f s):SP X d D f s:=by
 cases f with
 |next=>erw[BM h fun σ' e I q=>(σ',e,I,k _ _ q)]
 |brk=>erw[h]
 |cont=>erw[h]
 |ret v=>erw[h]
theorem aFZ(J:St->Hp->Prop)(o:PT X c tc)(m:PSs X a t)(n:PSs X b u):PS X (.If c a b pos) (tIfJ J tc t u):=by
 erw[?e s σ H D I h,(h,k)=h,wpAny_If (thn (o e s σ H _ I h) λd l ⟨g,i,j⟩=>?_)];cases d with
 |true=>erw[thn (m e l σ g _ i j) λf p q=>q.nx k]
 |false=>erw[thn (n e l σ g _ i j) λf p q=>q.nx k]
end
noncomputable def Iv(env:Env)(a:List (Str×Addr))(x:Str×NameKind):List (Str×Addr):=if(x.2==NameKind.free)=o0 then#[x.1,(env.cells.lookup x.1).getD 0]::a else a
noncomputable def Mq(env:Env)(l:List (Str×NameKind)):List (Str×Addr):=l.foldl (Iv env) []
theorem VT{α β:Type}{l:List α}{f:α->β->Sem (ForInStep β)}{g:β->α->β}(h:∀x∈l,∀b,f x b=pure (.yield (g b x))):∀b,forIn l b f=pure (l.foldl g b):=by
 induction l with
 |nil=>intro b;rfl
 |cons x l c =>
  erw[?b,[List.forIn_cons,h x D5,pure_bind],c (λy a=>h y (D6 _ a)) _]
theorem Qu{b:Scope}{env:Env}(h:∀y∈b.names,y.2=.free->∃c,env.cells.lookup y.1=n8 c):closureFor b env=pure (Mq env b.names):=by
 simp only[closureFor];rw[VT (g:=Iv env) (λx j c=>by
  erw[(n,k)=x,(f:k=.free)]
  .erw[<-f,(a,d)=h _ j rfl,(e:cellOf env n=pure a)=by unfold cellOf;rw[show env.cells.lookup n=n8 a from d]]
   simp only[Iv,B0h,B0c,e,show env.cells.lookup n=n8 a from d,Option.getD_some];rfl
  .have i:(k==NameKind.free)=o3:=by simpa using f
   simp only[Iv,i,O0,A7b])]
 rfl
theorem RA(env:Env){c:R_}:∀(l:List (Str×NameKind))(a:List (Str×Addr)),(l.foldl (Iv env) a).lookup y=n8 c->a.lookup y=n8 c\/(#[y,NameKind.free]∈l/\c=(env.cells.lookup y).getD 0)
|[],a,h=>.inl h
| (n,k)::r,a,h=>by
 rw[U9]at h;rcases RA env r _ h with z|⟨z,e⟩
 .unfold Iv at z;split at z
  .rename_i f;have b:k=.free:=by simpa using f
   rw[O7]at z;split at z
   .rename_i g;have d:y=n:=by simpa using g
    erw[<-d b,.inr (D5,(A3h z).symm)]
   .erw[.inl z]
  .erw[.inl z]
 .erw[.inr (D6 _ z,e)]
theorem UI(env:Env):∀(l:List (Str×NameKind))(a:List (Str×Addr)),(∃c,a.lookup y=n8 c)->∃c,(l.foldl (Iv env) a).lookup y=n8 c
|[],_,h=>h
| (n,k)::r,a,h=>by
 erw[[U9],UI env r _ ?_,¬Iv];split
 .rw[O7];split
  .exact(_,Z)
  .erw[h]
 .erw[h]
theorem VX(env:Env):∀(l:List (Str×NameKind))(a:List (Str×Addr)),#[y,NameKind.free]∈l->∃c,(l.foldl (Iv env) a).lookup y=n8 c
|[],_,h=>by simp at h
| (n,k)::r,a,h=>by
 rw[U9];rcases C4.mp h with e|h
 .erw[!e,UI env r _ ((env.cells.lookup y).getD 0,?_),¬Iv];simp only[B0h,B0c,O7]
 .erw[VX env r _ h]
theorem Pw{env:Env}{y:Str}:∀{a:List (Str×NameKind)},
 ((a.map λ(n,k)=>if(k==NameKind.free && env.scope.kind==.function && env.kindOf n==n8 .cell)then#[n,NameKind.cell]else#[n,k]).lookup y=n8 .cell \/
  (a.map λ(n,k)=>if(k==NameKind.free && env.scope.kind==.function && env.kindOf n==n8 .cell)then#[n,NameKind.cell]else#[n,k]).lookup y=n8 .free)->#[y,NameKind.free]∈a\/#[y,NameKind.cell]∈a
|[],h=>by simp at h
| (n,k)::r,h=>by
 erw[d=λh=>(@Pw env y r h).imp (D6 #[n,k]) (D6 #[n,k]),(h':List.lookup y ((if(k==NameKind.free && env.scope.kind==.function && env.kindOf n==n8 .cell)=o0 then#[n,NameKind.cell]else#[n,k])::(r.map λ(n,k)=>if(k==NameKind.free && env.scope.kind==.function && env.kindOf n==n8 .cell)then#[n,NameKind.cell]else#[n,k]))=n8 .cell \/ List.lookup y ((if(k==NameKind.free && env.scope.kind==.function && env.kindOf n==n8 .cell)=o0 then#[n,NameKind.cell]else#[n,k])::(r.map λ(n,k)=>if(k==NameKind.free && env.scope.kind==.function && env.kindOf n==n8 .cell)then#[n,NameKind.cell]else#[n,k]))=n8 .free)=h]
 erw[-h,(c:(k==NameKind.free && env.scope.kind==.function && env.kindOf n==n8 .cell)=o0)]
 .rw[A2h c]at h';have e:k=.free:=by
   simp only[R6,B2c]at c;erw[c.1.1]
  simp only[O7]at h';cases b:y==n with
  |true =>
   have:y=n:=by simpa using b
   erw[<-this e,.inl D5]
  |false =>
   rw[b]at h';erw[d h']
 .rw[A2f c]at h';simp only[O7]at h';cases b:y==n with
  |true =>
   rw[b]at h';have:y=n:=by simpa using b
   subst this;rcases h' with z|z
   .erw[!A3h z,.inr D5]
   .erw[!A3h z,.inl D5]
  |false =>
   rw[b]at h';erw[d h']
theorem ME{env:Env}{y:Str}:∀{a:List (Str×NameKind)},a.lookup y=n8 .free ->
 ((a.map λ(n,k)=>if(k==NameKind.free && env.scope.kind==.function && env.kindOf n==n8 .cell)then#[n,NameKind.cell]else#[n,k]).lookup y=n8 .cell \/
  (a.map λ(n,k)=>if(k==NameKind.free && env.scope.kind==.function && env.kindOf n==n8 .cell)then#[n,NameKind.cell]else#[n,k]).lookup y=n8 .free)
|[],h=>by simp at h
| (n,k)::r,h=>by
 erw[d=@ME env y r,(_:List.lookup y ((if(k==NameKind.free && env.scope.kind==.function && env.kindOf n==n8 .cell)=o0 then#[n,NameKind.cell]else#[n,k])::(r.map λ(n,k)=>if(k==NameKind.free && env.scope.kind==.function && env.kindOf n==n8 .cell)then#[n,NameKind.cell]else#[n,k]))=n8 .cell \/ List.lookup y ((if(k==NameKind.free && env.scope.kind==.function && env.kindOf n==n8 .cell)=o0 then#[n,NameKind.cell]else#[n,k])::(r.map λ(n,k)=>if(k==NameKind.free && env.scope.kind==.function && env.kindOf n==n8 .cell)then#[n,NameKind.cell]else#[n,k]))=n8 .free)]
 rw[O7]at h;erw[(c:(k==NameKind.free && env.scope.kind==.function && env.kindOf n==n8 .cell)=o0)]
 .rw[A2h c];simp only[O7];cases b:y==n with
  |true=>erw[.inl Z]
  |false=>rw[b]at h;erw[d h]
 .rw[A2f c];simp only[O7];cases b:y==n with
  |true=>rw[b]at h;erw[.inr h]
  |false=>rw[b]at h;erw[d h]
section
variable{prog:N_}{w:Q_}{A:Around}{R:Result->Shared->Prop}{s:P_}
noncomputable abbrev Wg(ifs:List Expr)(env:Env):Sem Bool:=forIn ifs o0 λc r=>if r=o0 then do let ok <-isTrue c env (eval c env);pure (ForInStep.yield ok)else pure (ForInStep.yield r)
theorem UF{q:List Expr}(I:Nat->Shared->Prop)
  (turn:∀n s,I n s->wpAny (model prog w) A (pyNext it) (λr c=>match r with
   |none=>R (.ok .next) c
   |some v=>wpAny (model prog w) A (letOwnedTupleGo a it v) (λ_ i=>wpAny (model prog w) A (assign a env v) (λ_ j =>
     wpAny (model prog w) A (Wg q env) (λok d =>
      if ok=o0 then wpAny (model prog w) A (eval p env) (λx k =>
       wpAny (model prog w) A (call (.builtin "list.append") [o,x]) (λ_ l=>∃m,m<n/\I m l) (λ_ _=>False) k) (λ_ _=>False) d
      else ∃m,m<n/\I m d) (λ_ _=>False) j) (λ_ _=>False) i) (λ_ _=>False) c) (λ_ _=>False) s)
  (n:Nat) (h:I n s):codeAny (model prog w) A (.compLoop (.ListComp p [(a,g,q,0)] b pos) 0 it o env) R s:=by
 erw[codeAny_loop Z I (λn s z=>?_) n h,(_:wpAny _ A ((compTurn (.ListComp p [(a,g,q,0)] b pos) 0 it o env).onRaise (λx=>do noteFrame x env;theTreesLotGoes x)) _ _ s),wpAny_noted ?_,[compTurn_list],A2e (B2h (A2e (A6a (turn n s z) (λr c e=>?_) λ_ _ h'=>h'.elim)))];cases r with
 |none=>erw[A3c e]
 |some v =>
  erw[A2e (A6a e (λ_ i h₀=>?_) λ_ _ h'=>h'.elim),A2e (A6a h₀ (λ_ j t=>A2e (A6a t (λok d f=>?_) λ_ _ h'=>h'.elim)) λ_ _ h'=>h'.elim)];cases ok with
  |false=>erw[A3c (Z,f)]
  |true =>
   erw[A2e (A2e (A6a f (λx k u=>A2e (A6a u (λ_ l y=>A3c (A3c (Z,y))) λ_ _ h'=>h'.elim)) λ_ _ h'=>h'.elim))]
end
def ocN(names:List (Str×NameKind)):List Str:=(names.filter (·.2==.cell)).map (·.1)
noncomputable def clA(env:Env)(n:Nat)(names:List (Str×NameKind)):List (Str×Addr):=(ocN names).map (λq=>#[q,n])++Mq env names
theorem WJ{x:Str}{k:NameKind}{r:List (Str×NameKind)}:ocN (#[x,k]::r)=if(k==.cell)=o0 then x::ocN r else ocN r:=by
 erw[¬ocN,[List.filter_cons]];split<;>rfl
theorem Sl:∀{a:List (Str×NameKind)},ocN a=[]->∀(n:Nat)(h:T_)(b:List (Str×Addr)),cellsFrom n a b=b/\pushCells h a=h
|[],_,_,_,_=>(Z,Z)
| (x,k)::r,e,n,h,b=>by
 rw[WJ]at e;unfold cellsFrom pushCells;split at e
 .cases e
 .rename_i z;erw[[A2f z,A2f z],Sl e n h b]
theorem aBo{y:Str}:∀{a:List (Str×NameKind)},ocN a=[y]->∀(n:Nat)(h:T_)(b:List (Str×Addr)),cellsFrom n a b=#[y,n]::b/\pushCells h a=h.push {cls:=.type "cell",data:=.cell n9}
|[],e,_,_,_=>by cases e
| (x,k)::r,e,n,h,b=>by
 rw[WJ]at e;unfold cellsFrom pushCells;split at e
 .rename_i z;rw[A2h z,A2h z];injection e with e1 e2
  erw[<-e1,Sl e2 _ _ _]
 .rename_i z;erw[[A2f z,A2f z],aBo e n h b]
theorem Sj{l:K_}(h:l.length<=1):l=[]\/∃y,l=[y]:=by
 match l,h with
 |[],_=>erw[.inl Z]
 |[y],_=>erw[.inr (y,Z)]
theorem aEx{y:Str}{a:List (Str×NameKind)}(h:#[y,NameKind.cell]∈a):y∈ocN a:=F0.mpr (_,Y6.mpr (h,Z),Z)
theorem aCQ{env:Env}{n:Nat}{a:List (Str×NameKind)}(b:(ocN a).length<=1){x:Str}{c:R_}(h:(clA env n a).lookup x=n8 c):(c=n/\ocN a=[x])\/(Mq env a).lookup x=n8 c:=by
 unfold clA at h;rcases Sj b with e|⟨y,e⟩
 .rw[e]at h;erw[.inr h]
 .rw[e]at h⊢;rw[show List.map (λx=>#[x,n]) [y]++Mq env a=#[y,n]::Mq env a from rfl,O7]at h;split at h
  .rename_i z;erw[!h,.inl (Z,by rw[beq_iff_eq.mp z])]
  .erw[.inr h]
theorem Yg{env:Env}{n:Nat}{a:List (Str×NameKind)}(b:(ocN a).length<=1){x:Str}(h:x∉ocN a):(clA env n a).lookup x=(Mq env a).lookup x:=by
 unfold clA;rcases Sj b with e|⟨y,e⟩
 .rw[e];rfl
 .rw[e]at h⊢;rw[show List.map (λx=>#[x,n]) [y]++Mq env a=#[y,n]::Mq env a from rfl,O7];split
  .rename_i z;erw[absurd (C5.mpr (beq_iff_eq.mp z)) h]
  .rfl
theorem aAz{env:Env}{n:Nat}{a:List (Str×NameKind)}(b:(ocN a).length<=1){x:Str}(h:x∈ocN a):(clA env n a).lookup x=n8 n:=by
 unfold clA;rcases Sj b with e|⟨y,e⟩
 .rw[e]at h;cases h
 .rw[e]at h⊢;rw[C5.mp h,show List.map (λx=>#[x,n]) [y]++Mq env a=#[y,n]::Mq env a from rfl,O7,B0h]
theorem nfe{M:Model}{A:Around}{E:B_}{s:P_}{scope:Scope}{globals:R_}{a env:Env}{qual:Str}{Q:Env->Shared->Prop}(i:(ocN scope.names).length<=1)
  (c:∀h',(∃m,h'.Ns s.heap.objs.size m)->(∀b o,s.heap.get? b=n8 o->h'.get? b=n8 o)->(∀y∈ocN scope.names,h'.IsCell (s.heap.objs.size+1) n9)->Q {scope:=scope,locals:=s.heap.objs.size,globals:=globals,cells:=clA a (s.heap.objs.size+1) scope.names,qual:=qual,func:=n9,code:=env.code,frame:=env.frame,builtins:=env.builtins} {s with heap:=h'}) :
  wpAny M A (newFunctionEnv scope globals (Mq a scope.names) [] qual n9 .none (n8 env)) Q E s:=by
 simp only[newFunctionEnv,Option.isSome_some,B0c];erw[A2e (wpAny_alloc ?_),A2e (wpAny_layCells _ (λname kind cells=>by cases f:kind==NameKind.cell<;>simp[f]) _ _ _ _ ?_)];rw[show({s with heap:=s.heap.push {cls:=.type "dict",data:=.dict #[]} }:P_).heap.objs.size=s.heap.objs.size+1 from O9 ..];erw[(j:(s.heap.push {cls:=.type "dict",data:=.dict #[]}).objs.size=s.heap.objs.size+1)=O9 ..,h=Heap.Ns.new s.heap (.type "dict"),(g:∀b o,s.heap.get? b=n8 o->(s.heap.push {cls:=.type "dict",data:=.dict #[]}).get? b=n8 o)=λb o e=>C6 _ e,[List.forIn_nil],A2e (A3c (A3c ?_))];dsimp only at *
 generalize s.heap.push {cls:=.type "dict",data:=.dict #[]}=d at *
 unfold clA at c;rcases Sj i with e|⟨y,e⟩
 .erw[z=Sl e (s.heap.objs.size+1) d (Mq a scope.names),[z.1,z.2]];rw[e]at c;erw[c d (_,h) g (λy k=>nomatch k)]
 .erw[z=aBo e (s.heap.objs.size+1) d (Mq a scope.names),[z.1,z.2]];rw[e]at c;erw[c _ (_,h.keeps λb o e=>C6 _ e) (λb o e=>C6 _ (g b o e)) λy _=>({cls:=.type "cell",data:=.cell n9},?_,Z)]
  erw[[-j],F4 _ Z]
noncomputable def OF(cs:J_)(σ:St):St:=cs.map λj=>(σ[j]?).getD n9
noncomputable def cxC(X:Cx)(scope:Scope)(N:K_)(s:P_)(H:Hp)(ex:H_):Cx :=
 {X with N:=N,s₀:=s,H₀:=H,env:=compEnvC scope (clA X.env (s.heap.objs.size+1) scope.names) s.heap.objs.size X.env,outer:=X.stack,stack:=X.stack,ex:=ex,fn:=λx=>(ocN scope.names).contains x,pn:=[],xe:=λ_ _=>False}
def PTs(X:Cx)(ifs:List Expr)(t:TT):Prop :=
 ∀(n7:A_)(s:P_)(σ:St)(H:Hp)(Q:Bool->Hp->Prop),Inv X n7 σ H s->t σ H Q->wpAny (model X.prog X.w) X.A (Wg ifs X.env) (TP X n7 σ Q) X.xe s
def aFu:TT:=λ_ H Q=>Q o0 H
theorem Be:PTs X [] aFu:=λ_ _ _ H _ I h=>wpAny_tests_nil (H,I,h)
theorem aDC{c:Expr}{t:TT}(h:PT X c t):PTs X [c] t:=λa s σ H Q I q=>wpAny_tests_one (h a s σ H Q I q)
structure Bd(X:Cx)(scope:Scope)(N:K_)(k:Nat)(cs:J_):Prop where
cell:(ocN scope.names).length<=1
frc:∀y∈ocN scope.names,scope.names.lookup y≠n8 .free
kind:scope.kind=.function
names:∀y∈scope.names,y.2=.local->scope.names.lookup y.1=n8 .local
free:∀y∈scope.names,y.2=.free->X.env.scope.names.lookup y.1=n8 .cell\/X.env.scope.names.lookup y.1=n8 .free
len:N.length=k+cs.length
cap:∀j,j<cs.length->∃x,N[k+j]?=n8 x/\X.N[cs.getD j 0]?=n8 x/\scope.names.lookup x=n8 .free
def Ft(k:Nat)(cs:J_)(g:TG)(tc:TT)(te:TE)(J:It)(σ:St)(H1:Hp)(fin:List V->Hp->Prop):Prop :=
 ∃W:Nat->Nat->List V->Hp->Prop,(∃m,W 0 m [] H1)/\∀i m acc H,W i m acc H ->
  (J.stop i H/\fin acc H)\/(J.go i H/\∃Nx:List V->Hp->Prop,(∀acc' H',Nx acc' H'->∃m',m'<m/\W (i+1) m' acc' H')/\∀x H',J.yld i H x H'->g x (List.replicate k n9++OF cs σ) H' fun σ2 H2=>(∃ts:St,ts.length=k/\σ2=ts++OF cs σ)/\acc.length<sizeLine /\
   tc σ2 H2 λb H3=>if b=o0 then te σ2 H3 λv H4=>Nx (acc++[v]) H4 else Nx acc H3)
def aHi(k:Nat)(cs:J_)(wi:TI)(g:TG)(tc:TT)(te:TE):TE:=fun σ H Q=>wi σ H λJ H1=>Ft k cs g tc te J σ H1 λacc H2=>∀p,H2 p=n9->Q (.ref p) (upd H2 p (.lst acc))
section
variable{X:Cx}{tg iter elt:Expr}{ifs:List Expr}{scope:Scope}{pos:Pos}{wi:TI}{g:TG}{tc:TT}{te:TE}{N:K_}{k:Nat}{cs:J_}
theorem Inv.block(S:Bd X scope N k cs)(I:Inv X D σ H s)
  (r:∀b∈M,Ed X D H b/\∃o,s.heap.get? b=n8 o) (U:F.os=s.os) (hg:AllBare F.gens) (L:∀b o,s.heap.get? b=n8 o->F.heap.get? b=n8 o) (hn:∃m,F.heap.Ns s.heap.objs.size m) (T:∀y∈ocN scope.names,F.heap.IsCell (s.heap.objs.size+1) n9) :
  Inv (cxC X scope N s H M) [] (List.replicate k n9++OF cs σ) H F:=by
 have lk:∀{x c},(Mq X.env scope.names).lookup x=n8 c->X.env.cells.lookup x=n8 c:=λ{x c} h=>by
  rcases RA X.env _ _ h with z|⟨z,e⟩
  .simp at z
  .erw[(a,ha)=I.ok.has x (S.free _ z Z),[e,ha]];rfl
 have V:∀b,b∈M->b≠s.heap.objs.size:=λb t z=>by
  erw[xa (r b t) λ_ Y=>xe Y λo C=>absurd (F8 C) (by erw[[z],S6 _])]
 have E:∀{x c},(clA X.env (s.heap.objs.size+1) scope.names).lookup x=n8 c->(c=s.heap.objs.size+1/\ocN scope.names=[x])\/X.env.cells.lookup x=n8 c:=λ{x c} h=>(aCQ S.cell h).imp id lk;have ol:∀{x c},X.env.cells.lookup x=n8 c->c≠s.heap.objs.size+1:=λ{x c} h z=>by
  erw[(v,o,C,_)=I.cell x c h];have:=F8 C;lia
 erw[((I.ok.mod,S.kind,I.ok.glob,I.ok.blt,C1 _,λx y c O f=>?_,λx hx=>?_,λx c h f=>?_,I.ok.hd,I.ok.frames,.inl Z,λb t=>(V b t,λx c h z=>?_),I.bs,?_,λb o e t=>?_,λb t hf=>?_,I.stack,I.stkFree), U,hg,Un.kept L,?_,λx c h=>?_,I.hok.fresh (C1 _),λx c h=>?_,λp hp=>absurd (show p∈([]:A_)from hp) B0,I.hok.kept L,?_)]
 .rcases E O with ⟨d,q1⟩|d
  .rcases E f with ⟨A,W⟩|A
   .rw[q1]at W;erw[List.head_eq_of_cons_eq W]
   .erw[absurd d (ol A)]
  .rcases E f with ⟨A,W⟩|A
   .erw[absurd A (ol d)]
   .erw[I.ok.inj x y c d A]
 .erw[(z:x∈ocN scope.names)]
  .exact(_,aAz S.cell z)
  .rcases Pw hx with q|q
   .erw[(c,hc)=VX X.env _ [] q,(c,(Yg S.cell z).trans hc)]
   .erw[absurd (aEx q) z]
 .have:=aAz (env:=X.env) (n:=s.heap.objs.size+1) S.cell (List.contains_iff_mem.mp h);rw[show(clA X.env (s.heap.objs.size+1) scope.names).lookup x=n8 c from f]at this;erw[!this,S4 _]
 .rcases E h with ⟨d,_⟩|d
  .erw[(o,C)=(r b t).2];have:=F8 C;lia
  .exact(r b t).1.2.2.2.2.1 x c d z
 .erw[C9 I.ok.bsz I.sz]
 .rcases(r b t).1.2.2.2.1 with z|z
  .erw[I.ok.noex b o e z]
  .erw[absurd (D8 (F8 e) (C9 I.ok.bsz z)) (S6 _)]
 .rcases C4.mp (I.stkSub b hf)with z|z
  .exact(r b t).1.2.1 z
  .exact(r b t).1.2.2.1 z
 .erw[(m,hm)=hn,xea I.loc λmo aa R=>(m,hm,λi x v O f h3=>?_)]
  have hi:k<=i:=by
   erw[(z:i<k)]
   .rw[M5 (by simpa using z),K5,A2h z]at f;cases f
   .erw[M4 z]
  obtain⟨j,rfl⟩:∃j,i=k+j:=(i-k,by lia)
  rw[L5 B0,S1,K2]at f;unfold OF at f;rw[C3]at f;have Q:j<cs.length:=by
   erw[(z:j<cs.length)]
   .erw[z]
   .rw[T8 (M4 z)]at f;cases f
  erw[AI (S.cap j Q) λx' d A G=>?_];rw[show N[k+j]?=n8 x from O]at d;cases d;rw[C7 Q]at f;have B:(σ[cs[j]]?).getD n9=n8 v:=A3h f;rw[D9,C7 Q]at A;have h4:σ[cs[j]]?=n8 (n8 v):=by
   cases q:σ[cs[j]]? with
   |none=>rw[q]at B;cases B
   |some w=>rw[q]at B;rw[show w=n8 v from B]
  erw[kO=S.free #[x,.free] (A6c G) Z,xea (R _ x v A h4 (.inr kO)) λu ru l=>(u,ru,?_)]
  rcases l with ⟨z,_⟩|⟨_,c,P,z⟩
  .have z':X.env.scope.names.lookup x=n8 .local:=z;rcases kO with q|q<;>· rw[z']at q;cases q
  .erw[(c',h5)=VX X.env _ [] (A6c G),h6=lk h5];rw[P]at h6;erw[!h6,xea z λo C K=>.inr (ME G,c,(Yg S.cell λq=>S.frc x q G).trans h5,o,L _ _ C,K)]
 .rcases E h with ⟨d,q⟩|d
  .erw[[d],(_,T x (by erw[[q],C5.mpr Z]))]
  .erw[BM (I.cell x c d) λv o C K=>(v,o,L _ _ C,K)]
 .rcases E h with ⟨d,_⟩|d
  .erw[[d],I.hok.fresh (S4 _)]
  .erw[I.freeC x c d]
 .erw[(_:(List.replicate k n9++OF cs σ).length=N.length),[D3,S1,S.len],¬OF,[C0]]
end
structure aAn(C:Cx->Prop)(P:N_)(w:Q_)(K:O_)(tg:Expr)(J:It)(fp:H_)(it:R_)(tn:Nat->Heap->Prop):Prop where
obj:∀i h,tn i h->∀b∈fp,∃o,h.get? b=n8 o/\∀v,o.data≠.cell v
keep:∀i h h',tn i h->(∀b∈fp,∀o,h.get? b=n8 o->h'.get? b=n8 o)->tn i h'
item:∀(X:Cx),C X->X.prog=P->X.w=w->X.K=K->∀(i:Nat)(n7:A_)(s:P_)(σ:St)(H:Hp)(E:B_),Inv X n7 σ H s->(∀b∈fp,Ed X n7 H b)->tn i s.heap->J.go i H ->
 wpAny (model P w) X.A (pyNext (.ref it)) (λr s1=>∃u,r=n8 u/\wpAny (model P w) X.A (letOwnedTupleGo tg (.ref it) u) (λ_ s2=>∃x H',Inv X n7 σ H' s2/\Bc x u/\J.yld i H x H'/\tn (i+1) s2.heap/\∀b∈fp,H' b=n9) E s1) E s
done:∀(X:Cx),C X->X.prog=P->X.w=w->X.K=K->∀(i:Nat)(n7:A_)(s:P_)(σ:St)(H:Hp)(E:B_),Inv X n7 σ H s->(∀b∈fp,Ed X n7 H b)->tn i s.heap->J.stop i H ->
 wpAny (model P w) X.A (pyNext (.ref it)) (λr s1=>r=n9/\Inv X n7 σ H s1) E s
self:∀(A:Around)(i:Nat)(s:P_)(Q:B_)(E:B_),tn i s.heap->Q (.ref it) s->wpAny (model P w) A (pyIter (.ref it)) Q E s
theorem QU.q{P:N_}{w:Q_}{K:O_}{a:Expr}{J:It}{fp:H_}{it:R_}{b:Nat->Heap->Prop}(T:QU P w K a J fp it b):aAn (λX=>X.calm=o0) P w K a J fp it b :=
 (T.obj,T.keep,λX c p w k=>T.item X p w k c,λX c p w k=>T.done X p w k c,T.self)
section
variable{X:Cx}{tg iter elt:Expr}{ifs:List Expr}{scope:Scope}{pos:Pos}{wi:TI}{g:TG}{tc:TT}{te:TE}{N:K_}{k:Nat}{cs:J_}{fin:List V->Hp->Prop}
theorem Zv(hc:∀s H ex,Cq (cxC X scope N s H ex))(S:Bd X scope N k cs)
  (hg:∀s H ex,PG (cxC X scope N s H ex) tg g) (ht:∀s H ex,PTs (cxC X scope N s H ex) ifs tc) (he:∀s H ex,PE (cxC X scope N s H ex) elt te)
  (ID:Inv X l σ E sD) (hD:sD.heap.get? D=n8 {cls:=.type "list",data:=.seq ([]:F_).toArray n0}) (ag:X.s₀.heap.objs.size<=D) (fD:Ed X l E D) (aj:D∉fp)
  (T:aAn Cq X.prog X.w X.K tg J fp it tn) (st:tn 0 sD.heap) (f2:∀b∈fp,Ed X l E b) (a:Ft k cs g tc te J σ E fin)
  (au:s1.os=sD.os) (ar:AllBare s1.gens) (hk:∀b o,sD.heap.get? b=n8 o->s1.heap.get? b=n8 o) (hn:∃m,s1.heap.Ns sD.heap.objs.size m) (as:∀y∈ocN scope.names,s1.heap.IsCell (sD.heap.objs.size+1) n9)
  (aq:∀(B:Hp)(d:List V)(Y:P_),fin d B->B D=n9->Inv X l σ (upd B D (.lst d)) Y->(∃m,Y.heap.Ns sD.heap.objs.size m)->Ed X l (upd B D (.lst d)) sD.heap.objs.size->RR (.ok .next) Y) :
  codeAny (model X.prog X.w) X.A (.compLoop (.ListComp elt [(tg,iter,ifs,0)] scope pos) 0 (.ref it) (.ref D) (compEnvC scope (clA X.env (sD.heap.objs.size+1) scope.names) sD.heap.objs.size X.env)) RR s1:=by
 erw[(W,(m0,w0),turn)=a];have U:∀b,b∈D::fp->∃o,sD.heap.get? b=n8 o:=λb a=>by
  rcases C4.mp a with rfl|z
  .exact(_,hD)
  .erw[xea (T.obj _ _ st b z) λo e _=>(o,e)]
 have t:∀b∈D::fp,Ed X l E b/\∃o,sD.heap.get? b=n8 o:=λb a=>(by
  rcases C4.mp a with rfl|z
  .erw[fD]
  .exact f2 b z,U b a)
 have Q:∀b,b∈D::fp->b≠sD.heap.objs.size:=λb a z=>by
  erw[(o,e)=U b a,absurd (F8 e) (by erw[[z],S6 _])]
 have ak:∀b,b∈D::fp->b∉frs X.stack:=λb a hf=>by
  rcases C4.mp (ID.stkSub b hf)with z|z
  .exact(t b a).1.2.1 z
  .exact(t b a).1.2.2.1 z
 erw[I0=ID.block S t au ar hk hn as,ac=I0.ok,(I:∀b,b∈D::fp->∀x c,(clA X.env (sD.heap.objs.size+1) scope.names).lookup x=n8 c->c≠b)=λb a x c h=>(ac.exf b a).2 x c h];have L:∀{B:Hp}{pl:A_},(∀b∈fp,B b=n9)->(∀p∈pl,p.1=D)->∀b∈fp,Ed (cxC X scope N sD E (D::fp)) pl B b:=λhn G b a =>
  (hn b a,Q b (.tail _ a),ak b (.tail _ a),.inl (.tail _ a),I b (.tail _ a),λp av z=>aj (by
   have:=G p av;rw[<-this,z];exact a))
 erw[UF (λn O=>∃(i:Nat)(d:List V)(f:F_)(P:Nat)(B:Hp),Inv (cxC X scope N sD E (D::fp)) [] (List.replicate k n9++OF cs σ) B O/\tn i O.heap/\(∀b∈fp,B b=n9)/\B D=n9/\d.length<=sizeLine/\AT d f /\ O.heap.get? D=n8 {cls:=.type "list",data:=.seq f.toArray P}/\W i n d B) ?_ m0 (0,[],[],n0,E,I0,T.keep _ _ _ st (λb _ o e=>hk b o e),λb a=>(f2 b a).1,fD.1,L7 _,.nil,hk _ _ hD,w0)]
 erw[?n s3 a0,xe5 a0 λi d f P H3 ay=>xa5 ay λI3 al af aa ai az=>xa2 az λv3 e3 w3=>?_];have ad:Inv (cxC X scope N sD E (D::fp)) [#[D,{cls:=.type "list",data:=.seq f.toArray P}]] (List.replicate k n9++OF cs σ) H3 s3:=I3.pins_of λp G=>by
  rw[C5]at G;erw[<-G,(e3,aa,Q D (.head _),ak D (.head _),λv z=>by cases z)]
 have one:∀p∈[(#[D,{cls:=.type "list",data:=.seq f.toArray P}]:Addr×Obj)],p.1=D:=λp G=>by
  rw[C5]at G;subst G;rfl
 rcases turn i n d H3 w3 with ⟨am,qf⟩|⟨go,Nx,ah,step⟩
 .erw[thn (T.done (cxC X scope N sD E (D::fp)) (hc _ _ _) Z Z Z i _ s3 _ H3 _ ad (L af one) al am) λr Y M=>?_,(hr,I4)=M,<-hr,(IX:Inv X l σ H3 Y)=ID.call' (ch:=D::fp) I4.os I4.n6 I4.hok I4.bare λb a=>((t b a).1.2.2.2.1,(t b a).1.2.1,(t b a).1.2.2.2.2.1,(t b a).1.2.2.2.2.2)]
  erw[p4=(I4.pin #[D,{cls:=.type "list",data:=.seq f.toArray P}] (by show _∈[]++[_];simp)).1];have IY:Inv X l σ (upd H3 D (.lst d)) Y:=by
   erw[IX.track aa (Q4 ag) (Q4 (C9 ID.ok.bsz ag)) (A3f fD.2.1) fD.2.2.2.2.1 fD.2.2.2.2.2 (λb a z=>fD.2.2.1 (z▸a)) ?_,(ai,f,P,v3,p4)]
  erw[aq H3 d Y qf aa IY ?_ (ID.fpOk (C1 _) ?_)]
  .erw[xea I4.loc λm hm _=>(m,hm)]
  .erw[[Aq (A3f (Q D (.head _)))],I4.free]
 .erw[thn (T.item (cxC X scope N sD E (D::fp)) (hc _ _ _) Z Z Z i _ s3 _ H3 (λ_ _=>False) ad (L af one) al go) λr Y M=>xea M λu hr h4=>?_,<-hr,thn h4 λ_ s5 M=>Ci M λx H5 I5 r5 y5 ab ao=>thn (hg sD E (D::fp) _ s5 _ H5 x u _ (I5.pinned (L ao one) (T.obj _ _ ab)) r5 (step x H5 y5)) λ_ s6 M=>?_,(R,H6,I6,(ts,tl,ae),aw,q6)=M,thn (ht sD E (D::fp) _ s6 R H6 _ I6 q6) λb s7 M=>xea M λH7 I7 q7=>?_];have weak:∀{pl:A_}{B:Hp}{O:P_},Inv (cxC X scope N sD E (D::fp)) pl R B O->Inv (cxC X scope N sD E (D::fp)) [] (List.replicate k n9++OF cs σ) B O:=λ{pl B O} J=>by
   erw[(J.weak (σ':=List.replicate k n9++OF cs σ) ?_ λj v e=>?_).pins_of λp G=>absurd G B0]
   .rw[ae,D3,D3,S1,tl]
   .erw[(z:j<k)]
    .rw[M5 (by simpa using z),K5,A2h z]at e;cases e
    .rw[L5 (by erw[[S1],M4 z]),S1]at e;erw[[ae,L5 A3,tl],e]
  have C:∀{pl:A_}{σ':St}{B:Hp}{O:P_},Inv (cxC X scope N sD E (D::fp)) (pl++NC fp s5.heap) σ' B O->tn (i+1) O.heap/\∀b∈fp,B b=n9:=λ{pl σ' B O} J =>
   (T.keep _ _ _ ab λb a o e=>(J.pin #[b,o] (M7 _ (M7 _ (Jm a e)))).1,λb a=>by
    exact xea (T.obj _ _ ab b a) λo e _=>(J.pin #[b,o] (M7 _ (M7 _ (Jm a e)))).2.1)
  cases b with
  |false =>
   have ax:Nx d H7:=by simpa using q7
   erw[xea (ah _ _ ax) λm' hm w7=>?_,[A2f F6],p7=I7.pin #[D,{cls:=.type "list",data:=.seq f.toArray P}] (M7 _ (W8 _ (C5.mpr Z))),(m',hm,i+1,d,f,P,H7,weak I7,(C I7).1,(C I7).2,p7.2.1,ai,v3,p7.1,w7)]
  |true =>
   rw[A2h rfl]at q7;erw[[A2h rfl],thn (he sD E (D::fp) _ s7 R H7 _ I7 q7) λy s8 M=>AK M λv H8 I8 r8 q8=>xea (ah _ _ q8) λm' hm w8=>?_,p8=I8.pin #[D,{cls:=.type "list",data:=.seq f.toArray P}] (M7 _ (W8 _ (C5.mpr Z))),a1=v3.length,A9g F.slot_list_append (_,p8.1,Z) F.entry_list_append (F.args_list_append_2 _ _) (PySem.list_append D f.toArray P y (by rw[J3];lia)) (p8.1,?_),q=PySem.IsL.update p8.1 (·.push y),(eq:f.toArray.push y=(f++[y]).toArray)=by simp]
   dsimp only at q;rw[eq]at q;have an:Inv (cxC X scope N sD E (D::fp)) ([]++NC fp s5.heap) R H8 s8:=I8.pins_of λp G=>I8.pin p (M7 _ (M7 _ G));have I9:=an.turned (t':=s8.toks) (it:=D) (h':=s8.heap.update D (Obj.mapSeq (·.push y))) (λb o a e=>(A0c s8.heap (Obj.mapSeq (·.push y)) (A3f a)).trans e) p8.2.1 (Q D (.head _)) (.inl (.head _)) (I D (.head _)) (λp G z=>aj (by
     have:=(Ri (fp:=fp) (h:=s5.heap) (p:=p) (by simpa[cxC] using G)).1;rw[z]at this;exact this))
   erw[(m',hm,i+1,d++[v],f++[y],_,H8,weak I9,(C I9).1,(C I9).2,p8.2.1,?_,v3.append (.cons r8 .nil),q,w8),[D3,T7],X5 aw]
theorem Qt{h:A_}{σ:St}{y:Hp}{c:P_}{it:R_}{fp:H_}{I:Nat->Heap->Prop}{J:It}{RR:Value->Addr->Result->Shared->Prop}{E:B_}{Cq:Cx->Prop}(Q:∀s H n,Cq (cxC X scope N s H n))(S:Bd X scope N k cs)
  (U:∀s H n,PG (cxC X scope N s H n) tg g) (W:∀s H n,PTs (cxC X scope N s H n) ifs tc) (R:∀s H n,PE (cxC X scope N s H n) elt te)
  (q:Inv X h σ y c) (T:aAn Cq X.prog X.w X.K tg J fp it I) (st:I 0 c.heap) (M:∀b∈fp,Ed X h y b) (P:Ft k cs g tc te J σ y fin)
  (B:∀(D C:R_)(p:Hp)(a:List V)(u:P_),fin a p->p D=n9->Inv X h σ (upd p D (.lst a)) u->(∃m,u.heap.Ns C m)->Ed X h (upd p D (.lst a)) C->RR (.ref D) C (.ok .next) u) :
  wpAny (model X.prog X.w) X.A (newList []) (λa d=>wpAny (model X.prog X.w) X.A (newFunctionEnv scope X.env.globals (Mq X.env scope.names) [] X.env.qual n9 .none (n8 X.env)) (λj x =>
   codeAny (model X.prog X.w) X.A (.compStart (.ListComp elt [(tg,iter,ifs,0)] scope pos) 0 (.ref it) a {j with scope:=relabel scope X.env}) (RR a j.locals) x) E d) E c:=by
 erw[A8h (nfe S.cell λt f F r=>?_)];dsimp only at f F r⊢;erw[(i:∀b o,c.heap.get? b=n8 o->(c.heap.push {cls:=.type "list",dict:=n9,data:=.seq ([]:F_).toArray}).get? b=n8 o)=λb o e=>C6 _ e,L=q.kept (t':=c.toks) i,(O:(c.heap.push {cls:=.type "list",dict:=n9,data:=.seq ([]:F_).toArray}).get? c.heap.objs.size=n8 {cls:=.type "list",data:=.seq ([]:F_).toArray})=F4 _ Z];have G:c.heap.objs.size∉fp:=λz=>by
  erw[xea (T.obj _ _ st _ z) λo e _=>absurd (F8 e) (S6 _)]
 erw[v=T.keep _ _ _ st λb _ o e=>i b o e];have l:∀d:Shared,d={c with heap:=t} -> codeAny (model X.prog X.w) X.A (.compLoop (.ListComp elt [(tg,iter,ifs,0)] scope pos) 0 (.ref it) (.ref c.heap.objs.size) (compEnvC scope (clA X.env ((c.heap.push {cls:=.type "list",dict:=n9,data:=.seq ([]:F_).toArray}).objs.size+1) scope.names) (c.heap.push {cls:=.type "list",dict:=n9,data:=.seq ([]:F_).toArray}).objs.size X.env)) (RR (.ref c.heap.objs.size) (c.heap.push {cls:=.type "list",dict:=n9,data:=.seq ([]:F_).toArray}).objs.size) d:=by
  rintro d rfl;erw[Zv (sD:={c with heap:=c.heap.push {cls:=.type "list",dict:=n9,data:=.seq ([]:F_).toArray} }) Q S U W R L O q.sz (q.fpOk (C1 _) q.fresh) G T v M P Z q.bare F f r λp a u=>B _ _ p a u]
 erw[codeAny_compStart_list (l _ Z) (T.self _ 0 _ _ _ (T.keep _ _ _ v λb _ o e=>F b o e) (l _ Z))]
theorem Cc(E:X.calm=o0)(S:Bd X scope N k cs)(hi:PI X tg iter wi)(K:∀s H d,PG (cxC X scope N s H d) tg g)(P:∀s H d,PTs (cxC X scope N s H d) ifs tc)(F:∀s H d,PE (cxC X scope N s H d) elt te)
  (O:∀x,foldedSetIterable iter X.env x=pure x:=by intro _;rfl):PE X (.ListComp elt [(tg,iter,ifs,0)] scope pos) (aHi k cs wi g tc te):=by
 erw[?a s σ H Q I h,[eval_ListComp],wpAny_comprehension_free (use:=n9) Z O (Qu λy R G=>I.ok.has _ (S.free y R G)) S.kind S.names (thn (hi a s σ H _ I h) λv s1 B=>thn B λU s2 p=>?_),xe5 p λit fp tn J H2 i=>xa5 i λj t T n z l=>?_,-i,-p,<-j,Qt (RR:=λc C=>compPost (model X.prog X.w) X.A X.xe n9 (EP X a σ Q) c C) (Cq:=λX=>X.calm=o0) (λ_ _ _=>E) S K P F t T.q n z l λD C r c Y W V u M f=>?_,(m,L)=M,(m,L,λh' sb=>(.ref D,upd r D (.lst c),?_,Z,W D V)),u.turned (t':=Y.toks) (it:=C) (λb o l e=>(sb.2 b l).trans e) f.1 f.2.1 f.2.2.2.1 f.2.2.2.2.1 f.2.2.2.2.2]
def ZN(i k:Nat)(cs:J_)(wi:TI)(g:TG)(tc:TT)(te:TE):TS:=λD σ H=>wi σ H λJ H1=>Ft k cs g tc te J σ H1 λacc H2=>∀p,H2 p=n9->D.nx (σ.set i (n8 (.ref p))) (upd H2 p (.lst acc))
theorem CB{l d:Pos}(hc:X.calm=o0)(hN:X.N.Nodup)(E:X.N[i]?=n8 y)(r:X.env.scope.names.lookup y=n8 .local)(S:Bd X scope N k cs)(hi:PI X tg iter wi)
  (hg:∀s H n,PG (cxC X scope N s H n) tg g) (ht:∀s H n,PTs (cxC X scope N s H n) ifs tc) (he:∀s H n,PE (cxC X scope N s H n) elt te)
  (G:swapsWith (.ListComp elt [(tg,iter,ifs,0)] scope pos) (n8 (.Name y l)) d.line X.env=pure o0:=by rfl) (hs:∀x,foldedSetIterable iter X.env x=pure x:=by intro _;rfl) :
  PS X (.Assign [.Name y l] (.ListComp elt [(tg,iter,ifs,0)] scope pos) d) (ZN i k cs wi g tc te):=by
 erw[?c s σ H D I h,[exec_Assign_Name_used _ _ _ _ G],A2e (B2h (A2e ?_)),(_:wpAny _ X.A (do let _ <-comprehension (.ListComp elt [(tg,iter,ifs,0)] scope pos) scope X.env _ (newList []) o3 (eval iter X.env) (n8 (assign (.Name y l) X.env))) _ _ s),A2e (A6a (wpAny_comprehension_free (use:=n8 (assign (.Name y l) X.env)) (Q:=λ_ t=>SP X c D .next t) Z hs (Qu λy r hf=>I.ok.has _ (S.free y r hf)) S.kind S.names (thn (hi c s σ H _ I h) λv s1 h1=>thn h1 λaa s2 P=>?_)) (λ_ t hq=>A3c (A3c hq)) λ_ _ e=>e)]
 erw[xe5 P λit fp tn J H2 p=>xa5 p λu U T O Y B=>?_,-p,-P,<-u,Qt (RR:=λf C=>compPost (model X.prog X.w) X.A X.xe (n8 (assign (.Name y l) X.env)) (λ_ t=>SP X c D .next t) f C) (Cq:=λX=>X.calm=o0) (λ_ _ _=>hc) S hg ht he U T.q O Y B λL C R f s4 qf nD V hn j=>?_,(m,hm)=hn,(_:wpAny _ X.A (assign (.Name y l) X.env (.ref L)) _ _ _),wpAny_assign_Name (Rb V hN E (.inl r) (v:=.ref L) Z (λs5 W F=>?_) (.inr r)),xea F λa sb ha=>?_];have K:C≠a:=by
  rcases ha with z|z
  .erw[[z],j.2.1]
  .erw[λq=>j.2.2.2.2.1 y a z q.symm]
 erw[(m,hm.sameBut sb K,λh' M=>(σ.set i (n8 (.ref L)),upd R L (.lst f),?_,qf L nD)),W.turned (t':=s5.toks) (it:=C) (λb o B e=>(M.2 b B).trans e) j.1 j.2.1 j.2.2.2.1 j.2.2.2.2.1 j.2.2.2.2.2]
end
section
variable{K:O_}{k:Nat}{cs:J_}{g:TG}{tc:TT}{te:TE}{σ:St}{H:Hp}{fin:List V->Hp->Prop}
abbrev Bt(k:Nat)(cs:J_)(g:TG)(tc:TT)(te:TE)(σ:St)(x:V)(acc:List V)(H:Hp)(Nx:List V->Hp->Prop):Prop :=
 g x (List.replicate k n9++OF cs σ) H fun σ2 H2=>(∃ts:St,ts.length=k/\σ2=ts++OF cs σ)/\acc.length<sizeLine/\tc σ2 H2 λb H3=>if b=o0 then te σ2 H3 λv H4=>Nx (acc++[v]) H4 else Nx acc H3
theorem Ca(c:Nat->List V->Hp->Prop)(n:c 0 [] H)(r:∀i b H,i<=xs.length->c i b H->SqL K H a xs)
  (s:∀i x b H,xs[i]?=n8 x->c i b H->Bt k cs g tc te σ x b H (c (i+1))) (o:∀b H,c xs.length b H->fin b H):Ft k cs g tc te (Itl K a) σ H fin:=by
 erw[(λi m b H=>m=xs.length-i/\i<=xs.length/\c i b H,(xs.length,by simp,L7 _,n),?_),?i m b H f,xa2 f λh hi p=>?_,-f,<-h,q=r i b H hi p,(d:i<xs.length)]
 .erw[.inr ((xs,xs[i],q,by simp[d]),c (i+1),λj l t=>(xs.length-(i+1),by lia,Z,d,t),λx l y=>?_),(e,y)=y,<-e,s i x b _ (y xs q) p]
 .have e:i=xs.length:=by lia
  erw[<-e,.inl ((xs,q,C1 _),o b H p)]
theorem OX(c:Nat->List V->Hp->Prop)(n:c 0 [] H)(r:∀i b H,i<=xs.length->c i b H->SqT K H a xs)
  (s:∀i x b H,xs[i]?=n8 x->c i b H->Bt k cs g tc te σ x b H (c (i+1))) (o:∀b H,c xs.length b H->fin b H):Ft k cs g tc te (Itt K a) σ H fin:=by
 erw[(λi m b H=>m=xs.length-i/\i<=xs.length/\c i b H,(xs.length,by simp,L7 _,n),?_),?i m b H f,xa2 f λh hi p=>?_,-f,<-h,q=r i b H hi p,(d:i<xs.length)]
 .erw[.inr ((xs,xs[i],q,by simp[d]),c (i+1),λj l t=>(xs.length-(i+1),by lia,Z,d,t),λx l y=>?_),(e,y)=y,<-e,s i x b _ (y xs q) p]
 .have e:i=xs.length:=by lia
  erw[<-e,.inl ((xs,q,C1 _),o b H p)]
theorem RD{lo:Int}{n:Nat}(c:Nat->List V->Hp->Prop)(l:c 0 [] H)(q:∀i a H,i<n->c i a H->Bt k cs g tc te σ (.int (lo+i)) a H (c (i+1)))(o:∀a H,c n a H->fin a H):Ft k cs g tc te (Itr lo n) σ H fin:=by
 erw[(λi m a H=>m=n-i/\i<=n/\c i a H,(n,by simp,L7 _,l),?_),?i m a H d,xa2 d λf hi p=>?_,-d,<-f,(b:i<n)]
 .erw[.inr (b,c (i+1),λh j r=>(n-(i+1),by lia,Z,b,r),λx j y=>?_),(e,y)=y,<-e y,q i a _ b p]
 .have e:i=n:=by lia
  erw[<-e,.inl (C1 _,o a H p)]
end
section
variable{prog:N_}{w:Q_}{A:Around}{E:B_}{s:P_}
theorem MQ{I t:R_}{k:Nat}(c:s.heap.IsTupleIter I t k)(i:s.heap.IsTuple t vs)(j:vs[k]?=n8 v)
  (q:∀g,g.IsTupleIter I t (k+1)->Heap.SameBut I s.heap g->Q v {s with heap:=g}):wpAny (model prog w) A (Builtin.SmallTypes.nextOf (.ref I)) Q E s:=by
 erw[AI (id c) λm b e a=>AI i λn h _ d=>xe d λl f=>?_,¬Builtin.SmallTypes.nextOf,A2e (wpAny_callSpecial?_slot (name:=Str.ofString "__next__") c.typeIs A9a (A7d A9a c.typeIs F.entry_tuple_iterator_next ?_ (F.args_tuple_iterator_next_1 _))),(_:wpAny _ _ (field (.ref I) 0 >>= _) _ _ s),A2e (A7a b a (x:=.ref t) Z ?_),(_:wpAny _ _ (if(Value.ref t==Value.none)=o0 then _ else _) _ _ s),[A2f (λz:(Value.ref t==Value.none)=o0=>F6 z)],(_:wpAny _ _ (field (.ref I) 1 >>= _) _ _ s),A2e (A7a b a (x:=.int k 0) Z ?_),(_:wpAny _ _ (seqItems? (.ref t) >>= _) _ _ s),A2e (A7e h f ?_)];simp only[M9,j];erw[A2e (B2f b a B0 (A3c (v,Z,A3c (q _ ?_ (B0f ..))))),(_,A0h _ b (Obj.isFreed_of_fields (B1a a _)),(Obj.cls_mapFields ..).trans e,by rw[B1a a];simp[rawInt])]
theorem NJ{I t:R_}{k:Nat}(h:A.handled=n9)(d:s.heap.IsTupleIter I t k)(l:s.heap.IsTuple t vs)(n:vs[k]?=n9)
  (q:∀g e,Heap.ExtBut I s.heap g->(∃o,g.get? e=n8 o/\o.cls=.type "StopIteration")->E (.ref e) {s with heap:=g}):wpAny (model prog w) A (Builtin.SmallTypes.nextOf (.ref I)) Q E s:=by
 erw[AI (id d) λu c p b=>AI l λv j _ f=>xe f λr i=>?_,¬Builtin.SmallTypes.nextOf,A2e (wpAny_callSpecial?_slot (name:=Str.ofString "__next__") d.typeIs A9a (A7d A9a d.typeIs F.entry_tuple_iterator_next ?_ (F.args_tuple_iterator_next_1 _))),(_:wpAny _ _ (field (.ref I) 0 >>= _) _ _ s),A2e (A7a c b (x:=.ref t) Z ?_),(_:wpAny _ _ (if(Value.ref t==Value.none)=o0 then _ else _) _ _ s),[A2f (λz:(Value.ref t==Value.none)=o0=>F6 z)],(_:wpAny _ _ (field (.ref I) 1 >>= _) _ _ s),A2e (A7a c b (x:=.int k 0) Z ?_),(_:wpAny _ _ (seqItems? (.ref t) >>= _) _ _ s),A2e (A7e j i ?_)];simp only[M9,n];erw[A2e (A9b (A2e (B2f c b B0 ?_))),(_:wpAny _ _ (newExc (.type "StopIteration") [] >>= _) _ _ _),A2e ?_];simp only[newExc,newTuple];erw[A2e (A8h ?_ (by size_fits)),A2e (m:=firstArgMember _ _) (wpAny_of_eq (a:=Value.none) (by first|rfl|(simp only[firstArgMember];rfl)) (A8h ?_ (by size_fits)))];simp only[raiseNew];erw[A2e (wpAny_handled ?_)]
 first|rw[show A.in1.handled=n9 from h]|rw[h]
 erw[A2e (A3c (wpAny_throw (q _ _ (((B0f ..).extBut.push _).push _) (_,F4 _ Z,Z))))]
def Do:Bool->Heap->Addr->Addr->Nat->Prop
|true,h,I,l,k=>h.IsTupleIter I l k
|false,h,I,l,k=>h.IsListIter I l k
def EB:Bool->Heap->Addr->Array Value->Prop
|true,h,l,vs=>h.IsTuple l vs
|false,h,l,vs=>h.IsList l vs
def SqX(K:O_):Bool->Hp->Addr->List V->Prop
|true,H,a,xs=>SqT K H a xs
|false,H,a,xs=>SqL K H a xs
theorem Do.move{k:Nat}(x:Do b h I l k)(e:∀o,h.get? I=n8 o->g.get? I=n8 o):Do b g I l k:=by
 cases b with
 |true=>erw[xea x λo a r=>(o,e _ a,r)]
 |false=>erw[xea x λo a r=>(o,e _ a,r)]
theorem Do.there{k:Nat}(x:Do b h I l k):∃o,h.get? I=n8 o/\∀v,o.data≠.cell v:=by
 cases b with
 |true=>erw[AI x λo a _ d=>(o,a,λv z=>by rw[d]at z;cases z)]
 |false=>erw[AI x λo a _ d=>(o,a,λv z=>by rw[d]at z;cases z)]
theorem EB.move(x:EB b h l vs)(e:∀o,h.get? l=n8 o->g.get? l=n8 o):EB b g l vs:=by
 cases b with
 |true=>erw[xea x λo a r=>(o,e _ a,r)]
 |false=>erw[xea x λo a r=>(o,e _ a,r)]
theorem DW{k:Nat}(a:Do b s.heap I l k)(c:EB b s.heap l vs)(d:vs[k]?=n8 v)
  (q:∀g,Do b g I l (k+1)->Heap.SameBut I s.heap g->Q v {s with heap:=g}):wpAny (model prog w) A (Builtin.SmallTypes.nextOf (.ref I)) Q E s:=by
 cases b with
 |true=>erw[MQ a c d q]
 |false=>erw[wpAny_nextOf_list_item a c d q]
theorem GC{k:Nat}(a:A.handled=n9)(c:Do b s.heap I l k)(d:EB b s.heap l vs)(f:vs[k]?=n9)
  (q:∀g e,Heap.ExtBut I s.heap g->(∃o,g.get? e=n8 o/\o.cls=.type "StopIteration")->E (.ref e) {s with heap:=g}):wpAny (model prog w) A (Builtin.SmallTypes.nextOf (.ref I)) Q E s:=by
 cases b with
 |true=>erw[NJ a c d f q]
 |false=>erw[wpAny_nextOf_list_end a c d f q]
theorem Gm(a:EB b s.heap l vs)
  (q:∀g,Do b g s.heap.objs.size l 0->g.objs.size=s.heap.objs.size+1->(∀c o,s.heap.get? c=n8 o->g.get? c=n8 o)->Q (.ref s.heap.objs.size) {s with heap:=g}):wpAny (model prog w) A (pyIter (.ref l)) Q E s:=by
 cases b with
 |true=>erw[wpAny_pyIter_tuple a (q _ (_,F4 _ Z,Z,Z) (O9 ..) λc o e=>C6 _ e)]
 |false=>erw[A8g a (q _ (_,F4 _ Z,Z,Z) (O9 ..) λc o e=>C6 _ e)]
structure Yw(z U O i j l m:R_):Prop where
nd:[z,U,O,i,j].Nodup
l:l∉[z,O,i,j]
m:m∉[z,O,i,j]
theorem ZC{b c:Bool}{z U O i j l m:R_}{k:Nat}{xs ys:M_}{x y p q:S_}{Q:B_}(D:Yw z U O i j l m)(K:IsZip s.heap z U O .none)(hU:IsPair s.heap U (.ref i) (.ref j))(hO:IsPair s.heap O p q)
  (hi:Do b s.heap i l k) (hj:Do c s.heap j m k) (hl:EB b s.heap l xs) (hm:EB c s.heap m ys) (hx:xs[k]?=n8 x) (hy:ys[k]?=n8 y)
  (fin:∀g,IsZip g z U O (rawInt s.heap.objs.size)->IsPair g O x y->Do b g i l (k+1)->Do c g j m (k+1)->IsPair g s.heap.objs.size x y->g.objs.size=s.heap.objs.size+1 ->
   (∀a o,a∉[z,O,i,j]->s.heap.get? a=n8 o->g.get? a=n8 o)->Q (.ref s.heap.objs.size) {s with heap:=g}) :
  wpAny (model prog w) A (Builtin.«zip.__next__» ([.ref z],[])) (λr s'=>∃v,r=.done (.ret v)/\Q v s') E s:=by
 erw[(nd,nl,nm)=D];simp only[N8,C4,F7,A5a,B0d,Q0,and_true,A9c]at nd nl nm;erw[((zU,V,zi,zj),(UO,Ui,Uj),(W,X),ij)=nd,xa3 nl λlz lO li lj=>xa3 nm λmz mO mi mj=>?_,(_:wpAny _ _ (field (.ref z) 2 >>= _) _ _ _),A2e (A7a K Z (x:=.bool o3) Z ?_),(_:wpAny _ _ (field (.ref z) 3 >>= _) _ _ _),A2e (A7a K Z (x:=.ref U) Z (A2e (A7e hU Z ?_))),(_:wpAny _ _ (Builtin.SmallTypes.ownedTupleIsFree (.ref z) >>= _) _ _ _),A2e ?_,¬Builtin.SmallTypes.ownedTupleIsFree,A2e (A7a K Z (x:=.none) Z (A3c ?_))];simp only[B0c];erw[A2e (A9b (A2e (A7a K Z (x:=.ref O) Z (A2e (A8b K B0 λh1 u C=>?_)))))];replace u:IsZip h1 z U O .ellipsis:=u;erw[A2e ?_];simp only[List.zipIdx_cons,List.zipIdx_nil,List.forIn_cons,List.forIn_nil];erw[A2e (A2e (B3a ?_)),(_:wpAny _ _ (Builtin.SmallTypes.nextOf (.ref i) >>= _) _ _ _),A2e (DW (hi.move λo e=>C.extBut _ _ (A3f zi) e) (hl.move λo e=>C.extBut _ _ lz e) hx λh2 aa F=>A3c ?_),H=F.extBut _ _ W (C.extBut _ _ (A3f V) hO),A2e (A7e H Z (A2e (B2g H λh3 t G=>?_)))];replace t:IsPair h3 O x q:=t;erw[A2e (wpAny_letGo (A3c (A2e (A2e (B3a ?_))))),(_:wpAny _ _ (Builtin.SmallTypes.nextOf (.ref j) >>= _) _ _ _),A2e (DW (hj.move λo e=>G.extBut _ _ (A3f X) (F.extBut _ _ (A3f ij) (C.extBut _ _ (A3f zj) e))) (hm.move λo e=>G.extBut _ _ mO (F.extBut _ _ mi (C.extBut _ _ mz e))) hy λh4 ac M=>A3c ?_),I=M.extBut _ _ X t,A2e (A7e I Z (A2e (B2g I λd h N=>?_)))];replace h:IsPair d O x y:=h;erw[A2e (wpAny_letGo (A3c (A3c (A2e (A7e h Z (A2e (wpAny_newTuple ?_))))))),(sz:d.objs.size=s.heap.objs.size)=by rw[N.1,M.1,G.1,F.1,C.1]]
 erw[L=N.extBut _ _ V (M.extBut _ _ zj (G.extBut _ _ V (F.extBut _ _ zi u)))];have kp:∀a o,a∉[z,O,i,j]->s.heap.get? a=n8 o->d.get? a=n8 o:=λa o f e=>by
  simp only[C4,F7,A5a,B0d]at f;erw[N.extBut _ _ f.2.1 (M.extBut _ _ f.2.2.2 (G.extBut _ _ f.2.1 (F.extBut _ _ f.2.2.1 (C.extBut _ _ f.1 e))))]
 erw[ab=aa.move λo e=>N.extBut _ _ (A3f W) (M.extBut _ _ ij (G.extBut _ _ (A3f W) e)),ad=ac.move λo e=>N.extBut _ _ (A3f X) e,R=F8 L,(_:wpAny _ _ (Builtin.SmallTypes.ownedTupleHandOut (.ref z) (.ref d.objs.size) >>= _) _ _ _),A2e ?_,¬Builtin.SmallTypes.ownedTupleHandOut,(Y:IsZip (d.push {cls:=.type "tuple",data:=.seq [x,y].toArray}) z U O .ellipsis)=C6 _ L,A2e (A8b Y B0 λh7 B s7=>?_)];replace B:IsZip h7 z U O (rawInt d.objs.size):=B;erw[A8b B B0 λS n s8=>?_];replace n:IsZip S z U O (rawInt d.objs.size):=n;erw[(T:∀a o,a≠z->d.get? a=n8 o->S.get? a=n8 o)=λa o na e=>s8.extBut _ _ na (s7.extBut _ _ na (C6 _ e)),hT=s8.extBut _ _ (Y9 R) (s7.extBut _ _ (Y9 R) (F4 _ Z)),(P:S.objs.size=d.objs.size+1)=by rw[s8.1,s7.1,O9]]
 rw[sz]at n hT P;erw[A3c (_,Z,?_),(_:Q (.ref d.objs.size) _),[sz],fin S n (T _ _ (A3f V) h) (ab.move λo e=>T _ o (A3f zi) e) (ad.move λo e=>T _ o (A3f zj) e) hT P λa o f e=>T a o ?_ (kp a o f e)];simp only[C4,F7,A5a,B0d]at f;erw[f.1]
theorem ZB{b c:Bool}{z U O i j l m:R_}{k:Nat}{p q:S_}(P:A.handled=n9)(D:Yw z U O i j l m)(B:IsZip s.heap z U O .none)(hU:IsPair s.heap U (.ref i) (.ref j))(hO:IsPair s.heap O p q)
  (hi:Do b s.heap i l k) (hj:Do c s.heap j m k) (R:EB b s.heap l xs) (hm:EB c s.heap m ys) (G:xs[k]?=n9\/ys[k]?=n9)
  (fin:∀g e,(∀a o,a∉[z,O,i,j]->s.heap.get? a=n8 o->g.get? a=n8 o)->(∃o,g.get? e=n8 o/\o.cls=.type "StopIteration")->E (.ref e) {s with heap:=g}) :
  wpAny (model prog w) A (Builtin.«zip.__next__» ([.ref z],[])) Q E s:=by
 erw[(T,nl,nm)=D];simp only[N8,C4,F7,A5a,B0d,Q0,and_true,A9c]at T nl nm;erw[((zU,X,H,Y),(UO,Ui,Uj),(Oi,Oj),ij)=T,xa3 nl λS lO li lj=>xa3 nm λmz mO mi mj=>?_,(_:wpAny _ _ (field (.ref z) 2 >>= _) _ _ _),A2e (A7a B Z (x:=.bool o3) Z ?_),(_:wpAny _ _ (field (.ref z) 3 >>= _) _ _ _),A2e (A7a B Z (x:=.ref U) Z (A2e (A7e hU Z ?_))),(_:wpAny _ _ (Builtin.SmallTypes.ownedTupleIsFree (.ref z) >>= _) _ _ _),A2e ?_,¬Builtin.SmallTypes.ownedTupleIsFree,A2e (A7a B Z (x:=.none) Z (A3c ?_))];simp only[B0c];erw[A2e (A9b (A2e (A7a B Z (x:=.ref O) Z (A2e (A8b B B0 λh1 n r=>?_)))))];replace n:IsZip h1 z U O .ellipsis:=n;erw[A2e ?_];simp only[List.zipIdx_cons,List.zipIdx_nil,List.forIn_cons,List.forIn_nil];erw[A2e (A2e (B3a ?_)),(_:wpAny _ _ (Builtin.SmallTypes.nextOf (.ref i) >>= _) _ _ _),(out:∀{a:R_},a∉[z,O,i,j]->a≠z/\a≠O/\a≠i/\a≠j)=λf=>by simpa only[C4,F7,A5a,B0d] using f]
 cases L:xs[k]? with
 |none =>
  erw[A2e (GC P (hi.move λo e=>r.extBut _ _ (A3f H) e) (R.move λo e=>r.extBut _ _ S e) L λh2 e u K=>?_),xea K λM d h=>?_,C=u _ _ H n,(I:e≠z)=λt=>by subst t;rw[C]at d;cases d;simp at h]
  erw[A8b C B0 λN _ v=>fin N e (λa o f t=>v.extBut _ _ (out f).1 (u _ _ (out f).2.2.1 (r.extBut _ _ (out f).1 t))) (M,v.extBut _ _ I d,h)]
 |some x =>
  have hy:ys[k]?=n9:=by
   rcases G with t|t
   .rw[L]at t;cases t
   .erw[t]
  erw[A2e (DW (hi.move λo e=>r.extBut _ _ (A3f H) e) (R.move λo e=>r.extBut _ _ S e) L λh2 ab u=>A3c ?_),y=u.extBut _ _ Oi (r.extBut _ _ (A3f X) hO),A2e (A7e y Z (A2e (B2g y λN aa v=>?_))),A2e (wpAny_letGo (A3c (A2e (A2e (B3a ?_))))),(_:wpAny _ _ (Builtin.SmallTypes.nextOf (.ref j) >>= _) _ _ _),A2e (GC P (hj.move λo e=>v.extBut _ _ (A3f Oj) (u.extBut _ _ (A3f ij) (r.extBut _ _ (A3f Y) e))) (hm.move λo e=>v.extBut _ _ mO (u.extBut _ _ mi (r.extBut _ _ mz e))) hy λh4 e V K=>?_),xea K λM d h=>?_,F=V _ _ Y (v.extBut _ _ X (u.extBut _ _ H n)),(I:e≠z)=λt=>by subst t;rw[F]at d;cases d;simp at h]
  erw[A8b F B0 λh5 _ W=>fin h5 e (λa o f t=>W.extBut _ _ (out f).1 (V _ _ (out f).2.2.2 (v.extBut _ _ (out f).2.1 (u.extBut _ _ (out f).2.2.1 (r.extBut _ _ (out f).1 t))))) (M,W.extBut _ _ I d,h)]
theorem ZD(b:T_)(n:Nat)(d:b.objs.size=n+2)(i j:S_):∃c,c=((b.push {cls:=.type "tuple",data:=.seq [i,j].toArray}).push {cls:=.type "tuple",data:=.seq [.none,.none].toArray}).push
   {cls:=.type "zip",data:=.fields [.none,.bool o3,.bool o3,.ref b.objs.size,.ref (b.push {cls:=.type "tuple",data:=.seq [i,j].toArray}).objs.size].toArray} /\
  IsZip c (n+4) (n+2) (n+3) .none/\IsPair c (n+2) i j/\IsPair c (n+3) .none .none/\(∀a o,b.get? a=n8 o->c.get? a=n8 o) /\
  ((b.push {cls:=.type "tuple",data:=.seq [i,j].toArray}).push {cls:=.type "tuple",data:=.seq [.none,.none].toArray}).objs.size=n+4:=by
 have f:(b.push {cls:=.type "tuple",data:=.seq [i,j].toArray}).objs.size=n+3:=by rw[O9,d]
 have g:((b.push {cls:=.type "tuple",data:=.seq [i,j].toArray}).push {cls:=.type "tuple",data:=.seq [.none,.none].toArray}).objs.size=n+4:=by rw[O9,f]
 erw[(_,Z,?_,?_,?_,λa o e=>C6 _ (C6 _ (C6 _ e)),g)]
 .erw[q=F4 ((b.push {cls:=.type "tuple",data:=.seq [i,j].toArray}).push {cls:=.type "tuple",data:=.seq [.none,.none].toArray}) (o:={cls:=.type "zip",data:=.fields [.none,.bool o3,.bool o3,.ref b.objs.size,.ref (b.push {cls:=.type "tuple",data:=.seq [i,j].toArray}).objs.size].toArray}) Z];rw[g]at q;show _=n8 _;rw[q,d,f]
 .erw[q=C6 {cls:=.type "zip",data:=.fields [.none,.bool o3,.bool o3,.ref b.objs.size,.ref (b.push {cls:=.type "tuple",data:=.seq [i,j].toArray}).objs.size].toArray} (C6 {cls:=.type "tuple",data:=.seq [.none,.none].toArray} (F4 b (o:={cls:=.type "tuple",data:=.seq [i,j].toArray}) Z)),[-d],q]
 .erw[q=C6 {cls:=.type "zip",data:=.fields [.none,.bool o3,.bool o3,.ref b.objs.size,.ref (b.push {cls:=.type "tuple",data:=.seq [i,j].toArray}).objs.size].toArray} (F4 (b.push {cls:=.type "tuple",data:=.seq [i,j].toArray}) (o:={cls:=.type "tuple",data:=.seq [.none,.none].toArray}) Z),[-f],q]
theorem Zc{b c:Bool}(l m:R_)(xs ys:M_):Meets (Builtin.«zip.__new__» ([.type "zip",.ref l,.ref m],[])) (λ_ R s=>EB b s.heap l xs/\EB c s.heap m ys /\
   ∀g,IsZip g (s.heap.objs.size+4) (s.heap.objs.size+2) (s.heap.objs.size+3) .none->IsPair g (s.heap.objs.size+2) (.ref s.heap.objs.size) (.ref (s.heap.objs.size+1))->IsPair g (s.heap.objs.size+3) .none .none ->
    Do b g s.heap.objs.size l 0->Do c g (s.heap.objs.size+1) m 0->(∀a o,s.heap.get? a=n8 o->g.get? a=n8 o)->R (.ok (.ret (.ref (s.heap.objs.size+4)))) {s with heap:=g}) :=
 .of_wp λprog w A R s h=>by
  erw[(f,g,d,tk,N)=s,xa2 h λF G h=>?_,u=sub_zip]
  wp_walk using Gm F
  intro r H L v
  wp_walk using Gm (G.move λo e=>v _ o e)
  intro j I M x
  wp_walk
  erw[(_,Z,?_),n=L,(C:j.objs.size=f.objs.size+2)=by rw[show j.objs.size=r.objs.size+1 from M,n]]
  erw[(t,D,y,z,B,q,K)=ZD j f.objs.size C (.ref f.objs.size) (.ref r.objs.size),(k:IsPair t (f.objs.size+2) (.ref f.objs.size) (.ref (f.objs.size+1)))=by erw[[-n],z]]
  have p:Do c j (f.objs.size+1) m 0:=by erw[[-n],I]
  erw[i=h t y k B ((H.move λo e=>x _ o e).move λo e=>q _ o e) (p.move λo e=>q _ o e) λa o e=>q _ _ (x _ _ (v _ _ e))];dsimp only at i;rw[D,<-K]at i;erw[i]
theorem Inv.turnedL{X:Cx}{d:A_}{σ:St}{H:Hp}{s:P_}{g:T_}{tk:Nat}{ch:H_}(I:Inv X d σ H s)(k:∀b o,b∉ch->s.heap.get? b=n8 o->g.get? b=n8 o)(a:∀b∈ch,Ed X d H b):Inv X d σ H {s with heap:=g,toks:=tk}:=by
 have h:∀b u,H b=n8 u->b∉ch:=λb u e z=>by rw[(a b z).1]at e;cases e
 erw[I.step (g':=s.gens) (d':=s.drawn) (ch:=ch) (λb i=>((a b i).2.2.2.1,(a b i).2.1,(a b i).2.2.2.2.1,(a b i).2.2.2.2.2)) (λb o _ _ f e _=>k b o f e) (λb o _ _ f e _=>(o.slots,k b o f e)) (λ_ _ _ _ n=>n) (λb o f e=>(o,k b o f e)) (λ_ _ e=>e) (λ_ _ _ e=>e) (λb y e=>(#[],by rw[e];simp)) (λm t=>?_) (λb u e=>?_) I.bare]
 .erw[xe3 t λo p l j=>xa j λx r=>(o,p,l,k _ o (λz=>(a _ z).2.1 Z) x,r)]
 .erw[(I.hok b u e).stay (λc v f q=>k c v ?_ q) (λ_ q=>q) λ_ _ q=>q];rcases f with z|z
  .erw[[z],h b u e]
  .erw[h c _ z]
theorem Inv.pair{X:Cx}{a:A_}{σ:St}{H:Hp}{s:P_}{g:T_}{tk n:Nat}{ch:H_}{x y:V}{u v:S_}(I:Inv X a σ H s)(k:∀b o,b∉ch->s.heap.get? b=n8 o->g.get? b=n8 o)(c:∀b∈ch,Ed X a H b)
  (h:Bc x u) (i:Bc y v) (e:g.get? s.heap.objs.size=n8 {cls:=.type "tuple",data:=.seq [u,v].toArray n}):H s.heap.objs.size=n9/\Inv X a σ (upd H s.heap.objs.size (.tup [x,y])) {s with heap:=g,toks:=tk}:=by
 erw[f=I.fpOk (C1 _) I.fresh,(f.1,(I.turnedL (tk:=tk) k c).track f.1 (Q4 I.sz) (Q4 (C9 I.ok.bsz I.sz)) (A3f f.2.1) f.2.2.2.2.1 f.2.2.2.2.2 (λb d z=>f.2.2.1 (z▸d)) ?_),(by show 2<=sizeLine;decide,[u,v],.cons h (.cons i .nil),_,e,Z,n,Z)]
theorem Inv.sq{s:P_}(I:Inv X d σ H s)(h:SqX X.K b H a xs):∃c:List Value,AT xs c/\EB b s.heap a c.toArray:=by
 cases b with
 |true =>
  erw[AI (I.tuple h) λc r p _=>(c,r,p)]
 |false =>
  erw[AI (I.list h) λc r p _=>(c,r,p.isList)]
theorem Inv.sq_inj{c:A_}{s:P_}(I:Inv X c σ H s)(h:SqX X.K b H a xs)(h':SqX X.K b H a ys):xs=ys:=by
 cases b with
 |true=>erw[I.tuple_inj h h']
 |false=>erw[I.list_inj h h']
noncomputable def Itz(K:O_)(b c:Bool)(l m:R_):It :=
 (λi H=>∃xs ys x y,SqX K b H l xs/\SqX K c H m ys/\xs[i]?=n8 x/\ys[i]?=n8 y,
  λi H v H'=>∃(T:R_)(x y:V),v=.ref T/\H T=n9/\H'=upd H T (.tup [x,y])/\(∀xs,SqX K b H l xs->xs[i]?=n8 x)/\∀ys,SqX K c H m ys->ys[i]?=n8 y,
  λi H=>∃xs ys,SqX K b H l xs/\SqX K c H m ys/\(xs.length<=i\/ys.length<=i))
def aGT(b c:Bool)(z U O i j l m:R_)(k:Nat)(h:T_):Prop:=IsZip h z U O .none/\IsPair h U (.ref i) (.ref j)/\(∃p q,IsPair h O p q)/\Do b h i l k/\Do c h j m k
theorem ZL{P:N_}{w:Q_}{K:O_}{es:List Expr}{n:Nat}{Q:Pos}{b c:Bool}{z U O i j l m:R_}(D:Yw z U O i j l m):QU P w K (.Tuple es n Q) (Itz K b c l m) [z,U,O,i,j] z (aGT b c z U O i j l m) where
 mem:=by simp
 obj:=λk h st a d=>by
  erw[(f,r,(p,q,B),hi,C)=st];simp only[C4,F7,A5a]at d;rcases d with rfl|rfl|rfl|rfl|rfl
  .exact(_,f,λv t=>by cases t)
  .exact(_,r,λv t=>by cases t)
  .exact(_,B,λv t=>by cases t)
  .erw[hi.there]
  .erw[C.there]
 keep:=λk h h' st kp=>by
  erw[(f,r,(p,q,B),hi,C)=st,(kp z B0 _ f,kp U B0 _ r,(p,q,kp O B0 _ B),hi.move λo e=>kp i B0 o e,C.move λo e=>kp j B0 o e)]
 item:=by
  erw[?X hP hw hK hc k G s σ H E I S st hg,<-hP hw hK,(f,r,(p,q,B),hi,C)=st,xe4 hg λxs ys x y af=>xa3 af λV Y hx hy=>xea (I.sq V) λus ru ou=>xea (I.sq Y) λvs rv ov=>xea (ru.get hx) λu hu ad=>xea (rv.get hy) λv hv ae=>?_,(L:s.TypeIs (.ref z) "zip" )= (_,f,Z)]
  unfold pyNext;refine A2e (A8f (wpAny_callSpecial?_slot (name:=Str.ofString "__next__") L B2a (A7d B2a L F.entry_zip_next (ZC D f r B hi C ou ov (by simpa using hu) (by simpa using hv) λg gZ gO gi gj gT gs gk=>A3c (_,Z,?_)) (F.args_zip_next_1 _))));refine wpAny_letOwnedTupleGo_zip (s:={s with heap:=g}) gZ λg2 ab N=>?_;obtain⟨nd,nl,nm⟩:=D;simp only[N8,C4,F7,A5a,B0d,Q0,and_true,A9c]at nd;obtain⟨⟨zU,zO,zi,zj⟩,⟨UO,Ui,Uj⟩,⟨Oi,Oj⟩,ij⟩:=nd;have R:z<s.heap.objs.size:=F8 f;have kk:∀a o,a∉[z,O,i,j]->s.heap.get? a=n8 o->g2.get? a=n8 o:=λa o d e=>(N.2 a (λt=>d (by simp[t]))).trans (gk a o d e);have aa:∀a∈[z,O,i,j],Ed X G H a:=λa d=>S a (by
   simp only[C4,F7,A5a]at d⊢;rcases d with t|t|t|t<;>simp[t])
  erw[(nT,J)=I.pair (tk:=s.toks) kk aa ad ae ((N.2 _ (Y9 R)).trans gT),(.ref s.heap.objs.size,_,J,Z,(_,x,y,Z,nT,Z,λag q'=>by erw[[I.sq_inj q' V],hx],λah q'=>by erw[[I.sq_inj q' Y],hy]),(ab,kk U _ ?_ r,(u,v,(N.2 O (A3f zO)).trans gO),gi.move λo e=>(N.2 i (A3f zi)).trans e,gj.move λo e=>(N.2 j (A3f zj)).trans e),λa d=>?_)]
  .simp only[C4,F7,A5a,B0d];exact(A3f zU,UO,Ui,Uj)
  .erw[e=(S a d).1];have lt:a≠s.heap.objs.size:=by
    simp only[C4,F7,A5a]at d;rcases d with t|t|t|t|t<;>subst t
    .erw[L9 R]
    .erw[L9 (F8 r)]
    .erw[L9 (F8 B)]
    .erw[xea hi.there λo e _=>L9 (F8 e)]
    .erw[xea C.there λo e _=>L9 (F8 e)]
   erw[[Aq lt],e]
 done:=by
  erw[?X hP hw hK hc k G s σ H E I S st hg,<-hP hw hK,(f,r,(p,q,B),hi,C)=st,AK hg λxs ys V Y M=>xea (I.sq V) λus ru ou=>xea (I.sq Y) λvs rv ov=>?_,lu=ru.length,lv=rv.length,(L:s.TypeIs (.ref z) "zip" )= (_,f,Z)]
  have he:us.toArray[k]?=n9\/vs.toArray[k]?=n9:=M.imp (λt=>by simp;lia) (λt=>by simp;lia);unfold pyNext;refine A2e (A8f (wpAny_callSpecial?_slot (name:=Str.ofString "__next__") L B2a (A7d B2a L F.entry_zip_next (ZB (I.ok.hd hc) D f r B hi C ou ov he λg e gk ge=>?_) (F.args_zip_next_1 _))));refine xea ge λo ho ac=>A2e (wpAny_isInstance (T:="StopIteration") (b:=o0) (o,ho,ac) isSubtype_stop (A3c (Z,?_)));exact I.turnedL (tk:=s.toks) gk λa d=>S a (by
   simp only[C4,F7,A5a]at d⊢;rcases d with t|t|t|t<;>simp[t])
 self:=λ_ _ _ _ _ st h=>wpAny_pyIter_zip st.1 h
end
theorem EB.obj(x:EB b h l vs):∃o,h.get? l=n8 o:=by
 cases b with
 |true=>erw[xea x λo e _=>(o,e)]
 |false=>erw[xea x λo e _=>(o,e)]
theorem Zq(b:T_)(n:Nat)(d:b.objs.size=n+1):∃c,c=b.push {cls:=.type "enumerate",data:=.fields [.none,.bool o3,.ref n,rawInt 0,.none,.none].toArray}/\IsEnum c (n+1) n 0 .none/\∀a o,b.get? a=n8 o->c.get? a=n8 o:=by
 erw[(_,Z,?_,λa o e=>C6 _ e),q=F4 b (o:={cls:=.type "enumerate",data:=.fields [.none,.bool o3,.ref n,rawInt 0,.none,.none].toArray}) Z];rw[d]at q;erw[q]
set_option maxHeartbeats 1000000 in
theorem VG(l:R_)(xs:M_):Meets (Builtin.«enumerate.__new__» ([.type "enumerate",.ref l],[])) (λ_ R s=>EB b s.heap l xs /\
   ∀g,IsEnum g (s.heap.objs.size+1) s.heap.objs.size 0 .none->Do b g s.heap.objs.size l 0->(∀a o,s.heap.get? a=n8 o->g.get? a=n8 o)->R (.ok (.ret (.ref (s.heap.objs.size+1)))) {s with heap:=g}) :=
 .of_wp λprog w A R s h=>by
  erw[(p,g,d,tk,B)=s,(q,h)=h,(C,i)=q.obj,r=sub_enumerate];have fin:∀f,Do b f p.objs.size l 0->f.objs.size=p.objs.size+1->(∀c o,p.get? c=n8 o->f.get? c=n8 o)->∃v,Fin.done (Flow.ret (.ref f.objs.size))=Fin.done (Flow.ret v)/\R (.ok (.ret v)) (f.push {cls:=.type "enumerate",data:=.fields [.none,.bool o3,.ref p.objs.size,rawInt 0,.none,.none].toArray},g,d,tk,B):=λf k j m=>by
   erw[AI (Zq f p.objs.size j) λz y u t=>(_,Z,?_)]
   erw[n=h z u (k.move λo e=>t _ o e) λa o e=>t _ _ (m _ _ e)];dsimp only at n;rw[y,<-j]at n;erw[n]
  wp_walk using AutoSeq1.wpAny_loadPart' i
  erw[wpAny_stack_any λst=>A3c ?_];split
  .rename_i x _ _ _ _ _;cases(x==Value.type "enumerate")
   .wp_walk using AutoSeq1.wpAny_loadPart' i,Gm q
    intro f k j m
    wp_walk
    erw[fin f k j m]
   .wp_walk using AutoSeq1.wpAny_loadPart' i,Gm q
    intro f k j m
    wp_walk
    erw[fin f k j m]
  .wp_walk using AutoSeq1.wpAny_loadPart' i,Gm q
   intro f k j m
   wp_walk
   erw[fin f k j m]
theorem Rx(d:A.handled=n9)(I l:R_)(ne:l≠I)(vs:M_) :
  Draws prog w A I [I,l] vs.size (λk v=>vs[k]?=n8 v) (λk h=>Do b h I l k/\EB b h l vs) where
 live:=λ_ _ st=>let ⟨o,ho,_⟩:=st.1.there;(o,ho)
 frame:=λ_ _ _ st a=>(st.1.move λo e=>a I B0 o e,st.2.move λo e=>a l B0 o e)
 item:=λk s Q E hi st j=>DW st.1 st.2 (v:=vs[k]) (by simp[hi]) λg i c=>j _ g s.toks (by simp[hi]) (i,st.2.move λo e=>(c.2 l ne).trans e) c
 done:=λs Q E st f=>GC d st.1 st.2 B0 f
noncomputable def Ite(K:O_)(b:Bool)(l:R_):It :=
 (λi H=>∃xs x,SqX K b H l xs/\xs[i]?=n8 x,
  λi H v H'=>∃(T:R_)(x:V),v=.ref T/\H T=n9/\H'=upd H T (.tup [.int i,x])/\∀xs,SqX K b H l xs->xs[i]?=n8 x,
  λi H=>∃xs,SqX K b H l xs/\xs.length=i)
theorem Yz{P:N_}{w:Q_}{K:O_}{es:List Expr}{n:Nat}{q:Pos}{b:Bool}{e I l:R_}(C:e≠I)(le:l≠e)(lI:l≠I) :
  QU P w K (.Tuple es n q) (Ite K b l) [e,I] e (λk h=>(∃c,IsEnum h e I k c)/\Do b h I l k) where
 mem:=by simp
 obj:=λk h st a d=>by
  erw[((c,f),j)=st];simp only[C4,F7,A5a]at d;rcases d with rfl|rfl
  .exact(_,f,λv t=>by cases t)
  .erw[j.there]
 keep:=λk h h' st kp=>by
  erw[((c,f),j)=st,((c,kp e B0 _ f),j.move λo t=>kp I B0 o t)]
 item:=by
  erw[?X L R G M k p s σ H E J r st N,<-L R G,((c,f),j)=st,BM N λxs x B S=>xea (J.sq B) λus y T=>?_,lu=y.length,hk=(C2.mp S).1,wpAny_pyNext_enum_itemD (Rx (b:=b) (A:=X.A.in1) (J.ok.hd M) I l lI us.toArray) f (j,T) (by simp;lia) C (by simp[C,A3f le]) λu g tk hu gE gS gT gs F=>(_,Z,?_)]
  erw[xea (y.get S) λu' O U=>?_];have eu:u=u':=by
   have:us[k]?=n8 u:=by simpa using hu
   rw[O]at this;exact(A3h this).symm
  erw[<-eu,wpAny_letOwnedTupleGo_enum (s:={s with heap:=g,toks:=tk+1}) gE λg2 D V=>?_,m=F8 f,(kk:∀a o,a∉[e,I]->s.heap.get? a=n8 o->g2.get? a=n8 o)=λa o d t=>(V.2 a (λz=>d (by simp[z]))).trans (F a o (λz=>d (by simp[z])) (λz=>d (by simp[z])) t),(nT,J2)=J.pair (tk:=tk+1) (x:=.int k) (u:=.int k tk) kk r (tk,Z) U ((V.2 _ (Y9 m)).trans gT),(.ref s.heap.objs.size,_,J2,Z,(_,x,Z,nT,Z,λaa q'=>by erw[[J.sq_inj q' B],S]),((_,by simpa using D),gS.1.move λo t=>(V.2 I (A3f C)).trans t),λa d=>?_),t=(r a d).1];have lt:a≠s.heap.objs.size:=by
   simp only[C4,F7,A5a]at d;rcases d with z|z<;>subst z
   .erw[L9 m]
   .erw[xea j.there λo t _=>L9 (F8 t)]
  erw[[Aq lt],t]
 done:=by
  erw[?X L R G M k p s σ H E J r st N,<-L R G,((c,f),j)=st,xea N λxs B Y=>xea (J.sq B) λus y T=>?_,lu=y.length,(ek:k=us.toArray.size)=by simp;lia]
  erw[wpAny_pyNext_enum_endD (Rx (b:=b) (A:=X.A.in1) (J.ok.hd M) I l lI us.toArray) f (ek▸j,T) λg F=>(Z,?_)]
  erw[J.turnedL (tk:=s.toks) (ch:=[e,I]) (λa o d t=>F a o (λz=>d (by simp[z])) t) r]
 self:=λA i s Q E st h=>by
  erw[((c,f),_)=st,wpAny_pyIter_enum f h]
section
variable{X:Cx}{es:List Expr}{n:Nat}{tpos p pos:Pos}{e1 e2:Expr}{t:TA}
def iZip(b c:Bool)(K:O_)(t:TA):TI:=fun σ H R=>t σ H λvs H1=>∃(l m:R_),vs=[.ref l,.ref m]/\(∃xs,SqX K b H1 l xs)/\(∃ys,SqX K c H1 m ys)/\R (Itz K b c l m) H1
theorem EB.lt(x:EB b h l vs):l<h.objs.size:=by
 cases b with
 |true=>erw[xea x λo e _=>F8 e]
 |false=>erw[xea x λo e _=>F8 e]
theorem aER(n l m:Nat)(a:l<n)(b:m<n):Yw (n+4) (n+2) (n+3) n (n+1) l m:=by
 erw[((show([n+4,n+2,n+3,n,n+1]:J_).Nodup from ?_),(show l∉([n+4,n+3,n,n+1]:J_)from ?_),(show m∉([n+4,n+3,n,n+1]:J_)from ?_))]
 .simp only[N8,C4,F7,A5a,B0d,Q0,and_true,A9c];lia
 .simp only[C4,F7,A5a,B0d];lia
 .simp only[C4,F7,A5a,B0d];lia
theorem aFX(b c:Bool)(E:Gl X "zip")(G:X.mg "zip" = n9)(j:PA X [e1,e2] t)(L:starEach [e1,e2] X.env=[#[o3,eval e1 X.env],#[o3,eval e2 X.env]]:=by rfl)(e:starEach [e2] X.env=[#[o3,eval e2 X.env]]:=by rfl) :
  PI X (.Tuple es n tpos) (.Call (.Name "zip" p) [e1,e2] [] pos) (iZip b c X.K t):=by
 erw[?f s σ H R I h,Call_ (Lk I E G PyProof.Rows.boot_zip (A6e (thn (j pos f s σ H _ I h) λus i D=>?_) (by rw[L,e]) (by rw[e];rfl))),AK D λvs x d N M=>?_,(l,m,rfl,(xs,Q),(ys,S),q)=M,AK N.two λu v k O P=>?_,<-k,!(show u=Value.ref l from O),!(show v=Value.ref m from P),xea (d.sq Q) λT _ r=>xea (d.sq S) λU _ w=>callType_new F.called_zip A6 (F.typeCall_zip_2 _ _) (F.newCall_zip_2 _ _) (λobj=>F.args_object_init_3 obj _ _) F.entry_zip_new (Zc (b:=b) (c:=c) l m T.toArray U.toArray) (r,w,λg o z y A B C=>?_),((_,o,Z),wpAny_pyIter_zip (s:={i with heap:=g}) o ?_),(i.heap.objs.size+4,_,_,_,x,Z,d.kept (t':=i.toks) C,ZL (aER i.heap.objs.size l m r.lt w.lt),(o,z,(_,_,y),A,B),λa j=>?_,q)];have le:i.heap.objs.size<=a:=by
  simp only[C4,F7,A5a]at j;rcases j with t|t|t|t|t<;>rw[t]<;>first|exact C1 _|exact F5 _ _
 erw[d.fpOk le (d.hok.fresh le)]
def aGm(b:Bool)(K:O_)(t:TA):TI:=fun σ H R=>t σ H λvs H1=>∃(l:R_),vs=[.ref l]/\(∃xs,SqX K b H1 l xs)/\R (Ite K b l) H1
theorem MJ(b:Bool)(y:Gl X "enumerate")(z:X.mg "enumerate" = n9)(i:PA X [e1] t)(A:starEach [e1] X.env=[#[o3,eval e1 X.env]]:=by rfl) :
  PI X (.Tuple es n tpos) (.Call (.Name "enumerate" p) [e1] [] pos) (aGm b X.K t):=by
 erw[?d s σ H R I h,Call_ (Lk I y z PyProof.Rows.boot_enumerate (A6e (thn (i pos d s σ H _ I h) λus c x=>?_) A Z)),AK x λvs r f C B=>?_,(l,rfl,(xs,E),q)=B,xea C.one λu j D=>?_,<-j,!(show u=Value.ref l from D),xea (f.sq E) λG _ o=>callType_new F.called_enumerate A6 (F.typeCall_enumerate_1 _) (F.newCall_enumerate_1 _) (λobj=>F.args_object_init_2 obj _) F.entry_enumerate_new (VG (b:=b) l G.toArray) (o,λg k v w=>?_),((_,k,Z),wpAny_pyIter_enum (s:={c with heap:=g}) k ?_),m=o.lt,(c.heap.objs.size+1,_,_,_,r,Z,f.kept (t':=c.toks) w,Yz (e:=c.heap.objs.size+1) (I:=c.heap.objs.size) (l:=l) (Nat.succ_ne_self _) (L9 (X7 m)) (L9 m),((_,k),v),λa i=>?_,q)];have le:c.heap.objs.size<=a:=by
  simp only[C4,F7,A5a]at i;rcases i with t|t<;>rw[t]<;>first|exact C1 _|exact F5 _ _
 erw[f.fpOk le (f.hok.fresh le)]
end
section
variable{K:O_}{b c:Bool}{l m:R_}{xs ys:List V}{σ:St}{H:Hp}
theorem Ql{K:O_}{i j:Nat}{σ:St}{H:Hp}(h:H T=n8 (.tup [x,y]))(q:Q ((σ.set i (n8 x)).set j (n8 y)) H):aEh K 2 (Ux (JB i) (Ux (JB j) aEg)) (.ref T) σ H Q :=
 (T,_,Z,SqT.of h,Z,x,_,Z,y,_,Z,Z,q)
theorem Lm{g:TG}{t:TS}{D:II}(a:Nat->St->Hp->Prop)(u:a 0 σ H)(w:∀i σ H,i<=xs.length->a i σ H->SqX K b H l xs)
  (A:∀i x σ H T,xs[i]?=n8 x->a i σ H->H T=n9->g (.ref T) σ (upd H T (.tup [.int i,x])) fun f k=>t {D with nx:=a (i+1),ct:=a (i+1),bk:=D.nx} f k) (v:∀σ H,a xs.length σ H->D.nx σ H) :
  ∃W:Nat->Nat->St->Hp->Prop,(∃m,W 0 m σ H)/\∀i m σ H,W i m σ H ->
   ((Ite K b l).stop i H/\D.nx σ H)\/((Ite K b l).go i H/\∃N:St->Hp->Prop,(∀σ' d,N σ' d->∃s,s<m/\W (i+1) s σ' d)/\∀x d,(Ite K b l).yld i H x d->g x σ d fun f k=>t {D with nx:=N,ct:=N,bk:=D.nx} f k):=by
 erw[(λi m σ H=>m=xs.length-i/\i<=xs.length/\a i σ H,(xs.length,by simp,L7 _,u),?_),?i m σ H j,xa2 j λn hi p=>?_,-j,<-n,q=w i σ H hi p,(h:i<xs.length)]
 .erw[.inr ((xs,xs[i],q,by simp[h]),a (i+1),fun σ' d E=>(xs.length-(i+1),by lia,Z,h,E),λx d y=>?_),CG y λT z o C r B=>?_,-y,<-o,<-r,A i z σ _ T (B xs q) p C]
 .have e:i=xs.length:=by lia
  erw[<-e,.inl ((xs,q,Z),v σ H p)]
variable{k:Nat}{cs:J_}{g:TG}{tc:TT}{te:TE}{fin:List V->Hp->Prop}
theorem aCO(d:Nat->List V->Hp->Prop)(w:d 0 [] H)(B:∀i a H,d i a H->SqX K b H l xs/\SqX K c H m ys)
  (C:∀i x y a H T,xs[i]?=n8 x->ys[i]?=n8 y->d i a H->H T=n9->Bt k cs g tc te σ (.ref T) a (upd H T (.tup [x,y])) (d (i+1))) (A:∀a H,d (min xs.length ys.length) a H->fin a H):Ft k cs g tc te (Itz K b c l m) σ H fin:=by
 erw[(λi n a H=>n=min xs.length ys.length-i/\i<=min xs.length ys.length/\d i a H,(min xs.length ys.length,by simp,L7 _,w),?_),?i n a H f,xa2 f λh hi p=>?_,-f,<-h,(s,t)=B i a H p,(q:i<min xs.length ys.length)]
 .have E:i<xs.length:=by lia
  have F:i<ys.length:=by lia
  erw[.inr ((xs,ys,xs[i],ys[i],s,t,by simp[E],by simp[F]),d (i+1),λu v I=>(min xs.length ys.length-(i+1),by lia,Z,q,I),λx v y=>?_),Ch y λT z L j G o D r=>?_,-y,<-j,<-o,C i z L a _ T (D xs s) (r ys t) p G]
 .have e:i=min xs.length ys.length:=by lia
  erw[<-e,.inl ((xs,ys,s,t,by lia),A a H p)]
theorem aCN(d:Nat->List V->Hp->Prop)(t:d 0 [] H)(w:∀i ch a H,x.cps.toList[i]?=n8 ch->d i a H->Bt k cs g tc te σ (.str ⟨#[ch]⟩) a H (d (i+1)))(u:∀a H,d x.cps.toList.length a H->fin a H):Ft k cs g tc te (Its x) σ H fin:=by
 have s:x.cps.toList.length=x.cps.size:=by simp
 erw[(λi m a H=>m=x.cps.size-i/\i<=x.cps.size/\d i a H,(x.cps.size,by simp,L7 _,t),?_),?i m a H h,xa2 h λj hi p=>?_,-h,<-j,(f:i<x.cps.size)]
 .erw[.inr (f,d (i+1),λq r z=>(x.cps.size-(i+1),by lia,Z,f,z),λv r y=>?_),JC y λe ch o n=>?_,-y,<-n,<-e,w i ch a _ (by simpa using o) p]
 .have e:i=x.cps.size:=by lia
  erw[<-e,.inl (Z,u a H (by erw[[s],p]))]
end
theorem PE.or{t u:TE}(h:PE X e t)(h':PE X e u):PE X e (fun σ H Q=>t σ H Q\/u σ H Q):=by
 intro a s σ H Q I q;rcases q with q|q
 .erw[h a s σ H Q I q]
 .erw[h' a s σ H Q I q]
theorem rm(h:De b A)(c:a<=b:=by first|decide|lia):De a A:=h.mono c
structure Cal(P:N_)(w:Q_)(K:O_)(mg:C_)(n6:T_)(CX:CXT)(k:Nat)(x:Str)(ps:K_)(sp:Sp):Prop where
ex:∃(f:R_)(fd:E_),AJ P w K mg n6 CX k f fd ps sp/\mg x=n8 (.ref f)/\keepIn K (.ref f)=o0/\CO K fd ps []
structure BY(P:N_)(w:Q_)(K:O_)(mg:C_)(n6:T_)(CX:CXT)(k:Nat)(C:R_)(m:Str)(ps:K_)(sp:Sp):Prop where
ex:∃(f:R_)(fd:E_),AJ P w K mg n6 CX k f fd ps sp/\QB K C m f/\CO K fd ps []
cl:Cls K C
structure Tf(P:N_)(w:Q_)(K:O_)(mg:C_)(n6:T_)(CX:CXT)(k:Nat)(x:Str)(C:R_)(ps:K_)(sp:Sp):Prop where
ex:∃(f:R_)(fd:E_),AJ P w K mg n6 CX k f fd ps sp/\Mk K C f/\mg x=n8 (.ref C)/\CO K fd ps []
section
variable{X:Cx}{CX:CXT}{k:Nat}{C:R_}{ps:K_}{sp:Sp}{E:XK}{x m:Str}{p pos apos:Pos}{e o:Expr}{es:List Expr}{ta:TE}{t:TA}
theorem aFU(c:Cal X.prog X.w X.K X.mg X.n6 CX k x ps sp)(n:De k X.A)(i:Gl X x)(q:GJ CX X E)(d:PA X (e::es) t)(a:(x==("__debug__" : Str))=o3:=by decide)
  (h:starEach (e::es) X.env=#[o3,eval e X.env]::starEach es X.env:=by rfl) (b:(backTo pos (starEach es X.env)).any (·.1)=o3:=by rfl):PE X (.Call (.Name x p) (e::es) [] pos) (ZP sp [] E t):=by
 erw[CG c.ex λf fd F l j g=>aC6 F n i l j g .nil q d a h b]
theorem AD(i:PE X o ta)(c:BY X.prog X.w X.K X.mg X.n6 CX k C m ps sp)(l:De k X.A)(q:GJ CX X E)(g:PA X (e::es) t)
  (b:starEach (e::es) X.env=#[o3,eval e X.env]::starEach es X.env:=by rfl) (a:(backTo pos (starEach es X.env)).any (·.1)=o3:=by rfl)
  (n:eval (.Call (.Attribute o m apos) (e::es) [] pos) X.env=(do
   let d <-eval o X.env;standAt apos.atName;let #[f,first] <-holding [d] (getMethod d m pl);callWith pos f first (backTo pos (starEach (e::es) X.env)) (backToKw pos (keywordEach [] X.env))):=by rfl):PE X (.Call (.Attribute o m apos) (e::es) [] pos) (Wh C m sp [] E ta t):=by
 erw[AK c.ex λf fd F j h=>aC9 i c.cl j F l h .nil q g b a n]
theorem Lz(c:Tf X.prog X.w X.K X.mg X.n6 CX k x C ps sp)(l:De (k+1) X.A)(i:Gl X x)(n:GJ CX X E)(d:PA X (e::es) t)(a:(x==("__debug__" : Str))=o3:=by decide)
  (h:starEach (e::es) X.env=#[o3,eval e X.env]::starEach es X.env:=by rfl) (b:(backTo pos (starEach es X.env)).any (·.1)=o3:=by rfl):PE X (.Call (.Name x p) (e::es) [] pos) (Wi C sp [] E t):=by
 erw[CG c.ex λf fd F M j g=>aC8 M F l i j g .nil n d a h b]
theorem aB4(c:Tf X.prog X.w X.K X.mg X.n6 CX k x C ps sp)(h:De (k+1) X.A)(d:Gl X x)(i:GJ CX X E)(a:(x==("__debug__" : Str))=o3:=by decide):PE X (.Call (.Name x p) [] [] pos) (Wi C sp [] E Pd):=by
 erw[CG c.ex λf fd F M g b=>aB6 M F h d g b .nil i a]
theorem Co(c:Gl X x)(a:∃tk,X.mg x=n8 (.int i tk))(b:(x==("__debug__" : Str))=o3:=by decide):PE X (.Name x pos) (tC (.int i)):=by
 erw[(tk,a)=a,Sf c a (tk,Z) b]
theorem OP{z:Str}(c:Gl X x)(a:∃tk,X.mg x=n8 (.str z tk))(b:(x==("__debug__" : Str))=o3:=by decide):PE X (.Name x pos) (tC (.str z)):=by
 erw[(tk,a)=a,Sf c a (tk,Z) b]
theorem aC7(c:Gl X x)(d:X.mg x=n8 (.ref a))(b:(x==("__debug__" : Str))=o3:=by decide):PE X (.Name x pos) (tC (.ref a)):=Sf c d Z b
end
noncomputable def cOk(So:Scope)(No:K_)(scope:Scope)(N:K_)(k:Nat)(cs:J_):Bool :=
 decide ((ocN scope.names).length<=1) && ((ocN scope.names).all (λy=>!(scope.names.lookup y==n8 .free)) && (scope.kind==.function && (scope.names.all (λy=>y.2 != .local || scope.names.lookup y.1==n8 .local) && (scope.names.all (λy=>y.2 != .free || (So.names.lookup y.1==n8 .cell || So.names.lookup y.1==n8 .free)) && (N.length==k+cs.length && (List.range cs.length).all λj=>match N[k+j]?,No[cs.getD j 0]? with
   |some x,n8 y=>x==y && scope.names.lookup x==n8 .free
   |_,_=>o3)))))
theorem Bd.of{No:K_}{k:Nat}(q:X.env.scope=So)(p:X.N=No)(h:cOk So No a N k cs=o0):Bd X a N k cs:=by
 subst q p;unfold cOk at h;simp only[R6,U5,bne_iff_ne,ne_eq,Bool.or_eq_true,B2c,N9,A9d,Bool.not_eq_true']at h;erw[xa h λg h=>xa5 h λf i l m n o=>(g,λy b z=>absurd (f y b) (by rw[z];decide),i,λy b e=>?_,λy b e=>?_,n,λj r=>?_)]
 .rcases l y b with z|z
  .erw[absurd e z]
  .erw[z]
 .rcases m y b with z|z
  .erw[absurd e z]
  .erw[z]
 .erw[z=o j r];split at z
  .rename_i x y c d;simp only[R6,B2c]at z;erw[(s,t)=z,<-s,(x,c,d,t)]
  .cases z
theorem EF{σ:St}{H:Hp}{A B:Hp->Prop}(h:A H):aFu σ H λb a=>if b=o0 then A a else B a:=by
 erw[(_:if o0=o0 then A H else B H),Cy h]
theorem Pa{d:TE}{σ:St}{H:Hp}{Q:VK}{a b2:Bool}(e:a=o0->∀b:VK,b (.bl b2) H->d σ H b)(q:Q (.bl (a && b2)) H):∃c,V.bl a=.bl c/\if c=o0 then d σ H Q else Q (.bl o3) H:=by
 cases a with
 |true=>exact(o0,Z,Cy (e Z Q q))
 |false=>exact(o3,Z,Bj q)
theorem ZM{u:TT}{σ:St}{H:Hp}{Q:Bool->Hp->Prop}{a b2:Bool}(c:a=o0->∀b:Bool->Hp->Prop,b b2 H->u σ H b)(q:Q (a && b2) H):if a=o0 then u σ H Q else Q o3 H:=by
 cases a with
 |true=>erw[Cy (c Z Q q)]
 |false=>erw[Bj q]
section
variable{X:Cx}{scope:Scope}{N:K_}{s:P_}{H:Hp}{ex:H_}{x y:Str}{px py pos:Pos}{k:Nat}
theorem aB9(a:N.Nodup)(hi:N[i]?=n8 x)(c:(relabel scope X.env).names.lookup x=n8 .cell)(b:(ocN scope.names).contains x=o0):PG (cxC X scope N s H ex) (.Name x pos) (JB i):=AV (X:=cxC X scope N s H ex) a hi (.inr c) (.inl b)
theorem AW(b:N.Nodup)(hi:N[i]?=n8 x)(a:(relabel scope X.env).names.lookup x=n8 .local):PG (cxC X scope N s H ex) (.Name x pos) (JB i):=AV (X:=cxC X scope N s H ex) b hi (.inl a) (.inr a)
theorem TX{i j:Nat}(b:X.calm=o0)(a:N.Nodup)(hi:N[i]?=n8 x)(c:N[j]?=n8 y)(d:(relabel scope X.env).names.lookup x=n8 .local)(e:(relabel scope X.env).names.lookup y=n8 .local) :
  PG (cxC X scope N s H ex) (.Tuple [.Name x px,.Name y py] k pos) (aEh X.K 2 (Ux (JB i) (Ux (JB j) aEg))) :=
 ND (X:=cxC X scope N s H ex) b (CZ (AW a hi d) (CZ (AW a c e) Ly))
end
theorem AT.strs:∀(l:K_)(k:Nat),AT (l.map V.str) (strsFrom k l)
|[],_=>.nil
|x::r,k=>.cons (k,Z) (AT.strs r (k+1))
section
variable{X:Cx}
theorem Ul:MtR X "str.split" (λx xs H Q=>∃a b,x=.str a/\xs=[.str b]/\(b.length==0)=o3/\a.length<=100000/\∀p,H p=n9->Q (.ref p) (upd H p (.lst ((Txt.split a b).map V.str)))):=by
 erw[?g s σ H x xs v us Q I z r h,Ci h λa b k l n o q=>?_,-h,<-k,<-l,(t,rfl)=z,xea r.one λu j w=>?_,<-j,(m,rfl)=w,(big:a.length+2<=sizeLine)=C9 (U2 o 2) A6];have fin:∀(c:F_)(tk:Nat),AT ((Txt.split a b).map V.str) c->EP X g σ Q (.ref s.heap.objs.size) {s with heap:=s.heap.push {cls:=.type "list",data:=.seq c.toArray},toks:=tk}:=λc tk y =>
  (.ref _,_,I.lnew (t':=tk) y (by rw[C0];exact C9 (split_le a b) big),Z,q _ I.fresh)
 erw[(d:(decide (a.length<b.length) || decide (Builtin.Str.strKind a<Builtin.Str.strKind b))=o0)]
 .erw[A9g F.slot_str_split (B1f _ _ _) F.entry_str_split (B3b _ _) (meets_str_split_cannot_occur a b t m d) (fin _ s.toks ?_),¬Txt.split,[A2h d],.cons (t,Z) .nil]
 .erw[f=A2d.mpr d,(i:(Builtin.Str.occurrences a b 0 a.length (a.length+1)).isEmpty=o0)]
  .erw[A9g F.slot_str_split (B1f _ _ _) F.entry_str_split (B3b _ _) (meets_str_split_not_found a b t m f n i) (fin _ s.toks ?_),¬Txt.split,[A2f d,A2h i],.cons (t,Z) .nil]
  .have e:Txt.split a b=Builtin.Str.partsBetween a (Builtin.Str.occurrences a b 0 a.length (a.length+1)) b.length:=by
    erw[¬Txt.split,[A2f d,A2f i]]
   erw[A9g F.slot_str_split (B1f _ _ _) F.entry_str_split (B3b _ _) (meets_str_split_sep a b t m f n (A2d.mpr i) A3 (by erw[[-e],C9 (split_le a b) big])) ?_,fin _ _ ?_,[e],AT.strs _ _]
theorem SI:MtR X "str.partition" (λx xs H Q=>∃a b,x=.str a/\xs=[.str b]/\(b.length==0)=o3/\a.length<=100000/\∀p,H p=n9->Q (.ref p) (upd H p (.tup [.str (Txt.partition a b).1,.str (Txt.partition a b).2.1,.str (Txt.partition a b).2.2]))):=by
 erw[?d s σ H x xs v us Q I y r h,Ci h λa b g j m k q=>?_,-h,<-g,<-j,(t,rfl)=y,xea r.one λu f n=>?_,<-f,(z,rfl)=n];have fin:∀(c:F_)(tk:Nat),AT [.str (Txt.partition a b).1,.str (Txt.partition a b).2.1,.str (Txt.partition a b).2.2] c->EP X d σ Q (.ref s.heap.objs.size) {s with heap:=s.heap.push {cls:=.type "tuple",data:=.seq c.toArray},toks:=tk}:=λc tk w =>
  (.ref _,_,I.laid (t':=tk) (o:=.tup [.str (Txt.partition a b).1,.str (Txt.partition a b).2.1,.str (Txt.partition a b).2.2]) (λ_ _ e=>C6 _ e) (C1 _) (by show 3<=sizeLine;decide,c,w,_,F4 _ Z,Z,_,Z),Z,q _ I.fresh)
 erw[A9g F.slot_str_partition (B1f _ _ _) F.entry_str_partition (F.args_str_partition_2 _ _) (meets_str_partition a b t z m (C9 k A6)) ?_,(_:EP X d σ Q _ _)];cases e:Builtin.Str.occurrences a b 0 a.length 1 with
 |nil =>
  erw[fin _ _ ?_,¬Txt.partition,[e],.cons (_,Z) (.cons (_,Z) (.cons (_,Z) .nil))]
 |cons i l =>
  erw[fin _ _ ?_,¬Txt.partition,[e],.cons (_,Z) (.cons (_,Z) (.cons (_,Z) .nil))]
theorem AT.tstrs:∀{l:K_}{a:F_},AT (l.map V.str) a->∃ts:List (Str×Tok),a=strValues ts/\ts.map (·.1)=l
|[],_,.nil=>([],Z,Z)
|x::r,_,.cons ⟨t,e⟩ rr=>by
 erw[xea (AT.tstrs rr) λts b c=>?_,<-e b,(#[x,t]::ts,Z,by rw[J0,c])]
theorem OR:MtR X "str.join" (λx xs H Q=>∃(a:Str)(p:R_)(l:K_),x=.str a/\xs=[.ref p]/\SqL X.K H p (l.map V.str)/\JoinOk a l=o0/\Q (.str (Str.join a l)) H):=by
 erw[?g s σ H x xs v us Q I o r h,Ch h λa p l c d i f q=>?_,-h,<-c,<-d,(t,rfl)=o,xea r.one λu b j=>?_,<-b,!(show u=Value.ref p from j),AI (I.list i) λm n pl _=>xea (AT.tstrs n) λts b e=>?_,<-b,SC.join (texts:=l) pl.isList e f λt' k=>(.str _,H,I.tok k,(t',Z),?_)]
 have:Txt.join a l=Str.join a l:=StrLaws.glued_eq_join a l;erw[[this],q]
theorem UG(n:Int):∀{ns:I_}{a:F_},AT (ns.map V.int) a->a.countP (λy=>match y with|.int i _=>i==n|_=>o3)=ns.countP (· == n)
|[],_,.nil=>rfl
|x::r,_,.cons ⟨t,e⟩ rr=>by
 erw[<-e,[K7,K7,UG n rr]]
theorem ZI{ns:I_}{a:F_}(h:AT (ns.map V.int) a){y:S_}(b:y∈a):∃i t,y=.int i t:=by
 induction ns generalizing a with
 |nil=>cases h;simp at b
 |cons n r c =>
  cases h with
  |cons q d =>
   erw[(t,e)=q];rcases C4.mp b with z|z
   .exact(n,t,z.trans e)
   .erw[c d z]
theorem aBg:MtR X "list.count" (λx xs H Q=>∃(l:R_)(ns:I_)(n:Int),x=.ref l/\xs=[.int n]/\H l=n8 (.lst (ns.map V.int))/\Q (.int (ns.countP (· == n):Nat)) H):=by
 erw[?g s σ H x xs v us Q I w r h,Fk h λl ns n d f m q=>?_,-h,<-d,<-f,!w,xea r.one λu b o=>?_,<-b,(tk,rfl)=o,DH (I.lstM m) λz a k j A e=>A9g F.slot_list_count (_,e,Z) F.entry_list_count (F.args_list_count_2 _ _) (MeetsSeq.list_count l a.toArray k (.int n tk) (λy=>match y with|.int i _=>i==n|_=>o3) (λy p=>?_)) (e,?_)]
 .erw[xe2 (ZI j (by simpa using p)) λi t c=>?_,<-c,PySem.MeetsSeq.EqGives.int i n t tk]
 .erw[(.int _,H,I.tok _,(_,Z),?_)];have:(List.countP (λy=>match y with|Value.int i _=>i==n|_=>o3) a.toArray.toList)=ns.countP (· == n):=UG n (by simpa using j);erw[[this],q]
end
end L2
namespace L2
open PySem
section
variable{X:Cx}{es es':List Expr}{t t':TA}{pos:Pos}
theorem AN{j}(a:PA X es t):PA X (.Constant (.int i) j pos::es) (CH (tC (.int i)) t):=Aa Ae a
theorem PH{z:Str}{j}(a:PA X es t):PA X (.Constant (.str z) j pos::es) (CH (tC (.str z)) t):=Aa FC a
theorem Vk(h:PA X es' t')(a:PA X es t):PA X (.List es' pos::es) (CH (aDM t') t):=Aa (BO h) a
theorem Bb{x1}(h:PA X es' t')(a:PA X es t):PA X (.Tuple es' x1 pos::es) (CH (YC t') t):=Aa (Dv h) a
theorem AY{c:Operator}(h:OpR X (binaryOp c) r)(f:PE X a d)(g:PE X b e)(i:PA X es t):PA X (.BinOp a c b pos::es) (CH (tOp r d e) t):=Aa (AE h f g) i
theorem GX{K:O_}(h:X.K=K):IxR X (JO K):=h▸Ao
theorem aBK{K:O_}(h:X.K=K):IxR X (aFc K):=h▸Ar
end
theorem Cr{P:Prop}(h:∀G:Prop,(P->G)->G):P:=h P id
theorem xq1{α:Sort _}{a:α}{P Q:α->Prop}(h:P a)(k:Q a):∃x,P x/\Q x:=(a,h,k)
theorem xq2{α β:Sort _}{a:α}{b:β}{P Q R:α->β->Prop}(h:P a b)(h':Q a b)(k:R a b):∃x y,P x y/\Q x y/\R x y:=(a,b,h,h',k)
theorem xq3{α β γ:Sort _}{a:α}{b:β}{c:γ}{P Q R S:α->β->γ->Prop}(h:P a b c)(h':Q a b c)(d:R a b c)(k:S a b c):∃x y z,P x y z/\Q x y z/\R x y z/\S x y z:=(a,b,c,h,h',d,k)
theorem xq4{α β γ δ:Sort _}{a:α}{b:β}{c:γ}{d:δ}{P Q R S T:α->β->γ->δ->Prop}(h:P a b c d)(h':Q a b c d)(e:R a b c d)(f:S a b c d)(k:T a b c d):∃x y z w,P x y z w/\Q x y z w/\R x y z w/\S x y z w/\T x y z w:=(a,b,c,d,h,h',e,f,k)
theorem xq5{K:O_}{f:Str}{H:Hp}{a C c:R_}{fs:List (Str×V)}{v:V}{Q:V->Prop}(h:H a=n8 (.ins C c fs))(d:Cls K C)(e:BP K C f)(g:fs.lookup f=n8 v)(k:Q v):∃b C c fs w,V.ref a=.ref b/\H b=n8 (.ins C c fs)/\Cls K C/\BP K C f/\fs.lookup f=n8 w/\Q w:=(a,C,c,fs,v,Z,h,d,e,g,k)
theorem xw2{α β:Sort _}{a:α}{b:β}{P:α->Prop}{Q:α->β->Prop}{K:α->β->Prop}(e:P a)(f:Q a b)(k:K a b):∃c,P c/\∃d,Q c d/\K c d:=(a,e,b,f,k)
theorem xw3{α β γ:Sort _}{a:α}{b:β}{c:γ}{P:α->Prop}{Q:α->β->Prop}{R:α->β->γ->Prop}{K:α->β->γ->Prop}(g:P a)(h:Q a b)(i:R a b c)(k:K a b c):∃d,P d/\∃e,Q d e/\∃f,R d e f/\K d e f:=(a,g,b,h,c,i,k)
theorem xwb{α β γ:Sort _}{a:α}{b:β}{c:γ}{P:α->Prop}{Q:α->β->γ->Prop}{R:α->β->γ->Prop}{K:α->β->γ->Prop}(g:P a)(h:Q a b c)(i:R a b c)(k:K a b c):∃d,P d/\∃e f,Q d e f/\R d e f/\K d e f:=(a,g,b,c,h,i,k)
theorem xwm{α β γ δ:Sort _}{a:α}{b:β}{c:γ}{d:δ}{P:α->Prop}{Q:α->β->γ->δ->Prop}{R:α->β->γ->δ->Prop}{S:α->β->γ->δ->Prop}{K:α->β->γ->δ->Prop}(i:P a)(j:Q a b c d)(l:R a b c d)(m:S a b c d)(k:K a b c d):∃e,P e/\∃f g h,Q e f g h/\R e f g h/\S e f g h/\K e f g h:=(a,i,b,c,d,j,l,m,k)
theorem xwi{α β γ δ ε:Sort _}{a:α}{b:β}{c:γ}{d:δ}{e:ε}{P:α->Prop}{Q:α->β->γ->δ->ε->Prop}{R:α->β->γ->δ->ε->Prop}{S:α->β->γ->δ->ε->Prop}{T:α->β->γ->δ->ε->Prop}{K:α->β->γ->δ->ε->Prop}(l:P a)(m:Q a b c d e)(n:R a b c d e)(o:S a b c d e)(p:T a b c d e)(k:K a b c d e):∃f,P f/\∃g h i j,Q f g h i j/\R f g h i j/\S f g h i j/\T f g h i j/\K f g h i j:=(a,l,b,c,d,e,m,n,o,p,k)
theorem xwf{α β γ δ ε ζ:Sort _}{a:α}{b:β}{c:γ}{d:δ}{e:ε}{f:ζ}{P:α->Prop}{Q:α->β->γ->δ->ε->ζ->Prop}{R:α->β->γ->δ->ε->ζ->Prop}{S:α->β->γ->δ->ε->ζ->Prop}{T:α->β->γ->δ->ε->ζ->Prop}{U:α->β->γ->δ->ε->ζ->Prop}{K:α->β->γ->δ->ε->ζ->Prop}(n:P a)(o:Q a b c d e f)(p:R a b c d e f)(q:S a b c d e f)(r:T a b c d e f)(s:U a b c d e f)(k:K a b c d e f):∃g,P g/\∃h i j l m,Q g h i j l m/\R g h i j l m/\S g h i j l m/\T g h i j l m/\U g h i j l m/\K g h i j l m:=(a,n,b,c,d,e,f,o,p,q,r,s,k)
theorem xwn{α β γ δ ε:Sort _}{a:α}{b:β}{c:γ}{d:δ}{e:ε}{P:α->Prop}{Q:α->β->γ->δ->Prop}{R:α->β->γ->δ->Prop}{S:α->β->γ->δ->Prop}{T:α->β->γ->δ->ε->Prop}{K:α->β->γ->δ->ε->Prop}(l:P a)(m:Q a b c d)(n:R a b c d)(o:S a b c d)(p:T a b c d e)(k:K a b c d e):∃f,P f/\∃g h i,Q f g h i/\R f g h i/\S f g h i/\∃j,T f g h i j/\K f g h i j:=(a,l,b,c,d,m,n,o,e,p,k)
theorem xwj{α β γ δ ε ζ:Sort _}{a:α}{b:β}{c:γ}{d:δ}{e:ε}{f:ζ}{P:α->Prop}{Q:α->β->Prop}{R:α->β->γ->δ->ε->ζ->Prop}{S:α->β->γ->δ->ε->ζ->Prop}{T:α->β->γ->δ->ε->ζ->Prop}{U:α->β->γ->δ->ε->ζ->Prop}{K:α->β->γ->δ->ε->ζ->Prop}(n:P a)(o:Q a b)(p:R a b c d e f)(q:S a b c d e f)(r:T a b c d e f)(s:U a b c d e f)(k:K a b c d e f):∃g,P g/\∃h,Q g h/\∃i j l m,R g h i j l m/\S g h i j l m/\T g h i j l m/\U g h i j l m/\K g h i j l m:=(a,n,b,o,c,d,e,f,p,q,r,s,k)
theorem Bn{A B:TS}{D:II}{σ:St}{H:Hp}(h:let r:=B D;let s:=σ;∀k:St->Hp->Prop,(∀{σ H},r σ H->k σ H)->let E:II:={D with nx:=k};A E s H):YD A B D σ H:=h _ λz=>z
section
variable{X:Cx}{x:Str}{pos:Pos}
structure Vr(X:Cx)(i:Nat)(x:Str):Prop where
n:X.N[i]?=n8 x
v:Vis X.env.scope x
d:(x==("__debug__" : Str))=o3
c:(x==("__classdict__" : Str))=o3
theorem vr{i:Nat}(b:X.N[i]?=n8 x:=by rfl)(d:Vis X.env.scope x:=by first|exact Or.inl rfl|exact Or.inr O_9|exact Or.inr (Or.inr rfl))(c:(x==("__debug__" : Str))=o3:=by decide)(a:(x==("__classdict__" : Str))=o3:=by decide):Vr X i x:=(b,d,c,a)
theorem pvr{i:Nat}(h:Vr X i x):PE X (.Name x pos) (DX i):=pv i h.n h.v h.d h.c
theorem pv0(h:Vr X 0 x:=by exact vr):PE X (.Name x pos) (DX 0):=pvr h
theorem pv1(h:Vr X 1 x:=by exact vr):PE X (.Name x pos) (DX 1):=pvr h
theorem pv2(h:Vr X 2 x:=by exact vr):PE X (.Name x pos) (DX 2):=pvr h
theorem pv3(h:Vr X 3 x:=by exact vr):PE X (.Name x pos) (DX 3):=pvr h
theorem pv4(h:Vr X 4 x:=by exact vr):PE X (.Name x pos) (DX 4):=pvr h
theorem pv5(h:Vr X 5 x:=by exact vr):PE X (.Name x pos) (DX 5):=pvr h
theorem pv6(h:Vr X 6 x:=by exact vr):PE X (.Name x pos) (DX 6):=pvr h
theorem pv7(h:Vr X 7 x:=by exact vr):PE X (.Name x pos) (DX 7):=pvr h
theorem pv8(h:Vr X 8 x:=by exact vr):PE X (.Name x pos) (DX 8):=pvr h
end
section
variable{X:Cx}{k n:Nat}{ps:K_}{sp:Sp}{x:Str}{p pos pos':Pos}{e:Expr}{es:List Expr}{te:TE}{t:TA}
theorem Ax(i:Nat)(a:X.N.Nodup)(b:PE X e te)(hi:X.N[i]?=n8 x:=by rfl)(f:Loc X.env.scope x:=by exact Or.inl Z)(d:swapsWith e (n8 (.Name x pos')) pos.line X.env=pure o3:=by rfl)(c:X.fn x=o0\/X.env.scope.names.lookup x=n8 .local:=by first|exact .inl rfl|exact .inr rfl|assumption):PS X (.Assign [.Name x pos'] e pos) (aDK te (JB i)):=Px a hi f b d c
theorem AB(c:Cal X.prog X.w X.K X.mg X.n6 CX0 k x ps sp)(i:De n X.A)(d:PA X (e::es) t)(g:Gl X x:=by rfl)(h:k<=n:=by first|decide|lia)(a:(x==("__debug__" : Str))=o3:=by decide)(f:starEach (e::es) X.env=#[o3,eval e X.env]::starEach es X.env:=by rfl)(b:(backTo pos (starEach es X.env)).any (·.1)=o3:=by rfl):PE X (.Call (.Name x p) (e::es) [] pos) (ZP sp [] E0 t):=aFU c (rm i h) g AQ d a f b
end
end L2
namespace Nu
open PySem PySem.NumText PyProof.Rows
theorem ext{a b:Str}(h:a.cps.toList=b.cps.toList):a=b:=by
 obtain⟨⟨l⟩⟩:=a;obtain⟨⟨r⟩⟩:=b;cases h;rfl
theorem len(x:Str):x.length=x.cps.toList.length:=by simp[Str.length]
end Nu
namespace Tx
open PySem PySem.Builtin PySem.Builtin.Str PyProof.Rows
theorem Cz(a b:Str):(a++b).cps.toList=a.cps.toList++b.cps.toList:=cps_toList_append a b
noncomputable def jl(sep:J_):List (List Nat)->List Nat
|[]=>[]
|[x]=>x
|x::y::r=>x++sep++jl sep (y::r)
theorem Fq(a:Str):∀ts:List Str,(Str.join a ts).cps.toList=jl a.cps.toList (ts.map λt=>t.cps.toList)
|[]=>rfl
|[x]=>rfl
|x::y::r=>by
 erw[(e:Str.join a (x::y::r)=x++a++Str.join a (y::r))=rfl,[e,Cz,Cz,Fq a (y::r)]];rfl
theorem SZ{c:Nat}:∀{x y A B:J_},c∉x->c∉y->x++c::A=y++c::B->x=y/\A=B
|[],[],A,B,_,_,h=>(Z,by simpa using h)
|[],y::ys,A,B,_,hy,h=>by
 simp at h;erw[absurd (by erw[[h.1],D5]) hy]
|x::xs,[],A,B,hx,_,h=>by
 simp at h;erw[absurd (by erw[[-h.1],D5]) hx]
|x::xs,y::ys,A,B,hx,hy,h=>by
 simp at h;erw[(e,h)=h,(a,b)=SZ (x:=xs) (y:=ys) (λz=>hx (D6 _ z)) (λz=>hy (D6 _ z)) h,(by rw[e,a],b)]
theorem VP(c:Nat)(s:J_):∀(as bs:List (List Nat)),as≠[]->bs≠[]->(∀t∈as,c∉t)->(∀t∈bs,c∉t)->jl (c::s) as=jl (c::s) bs->as=bs
|[],_,h,_,_,_,_=>absurd Z h
|_,[],_,h,_,_,_=>absurd Z h
|[x],[y],_,_,_,_,e=>by
 erw[(a:x=y)=e,[a]]
|[x],y::z::r,_,_,ha,_,e=>by
 erw[(a:x=y++c::s++jl (c::s) (z::r))=e,absurd (by rw[a];simp) (ha x D5)]
|x::z::r,[y],_,_,_,hb,e=>by
 erw[(a:x++c::s++jl (c::s) (z::r)=y)=e,absurd (by rw[<-a];simp) (hb y D5)]
|x::x2::r,y::y2::r',_,_,ha,hb,e=>by
 have a:x++c::(s++jl (c::s) (x2::r))=y++c::(s++jl (c::s) (y2::r')):=by
  have:x++c::s++jl (c::s) (x2::r)=y++c::s++jl (c::s) (y2::r'):=e
  simpa using this
 erw[(d,f)=SZ (ha x D5) (hb y D5) a,[d,VP c s (x2::r) (y2::r') B0 B0 (λt b=>ha t (D6 _ b)) (λt b=>hb t (D6 _ b)) (List.append_cancel_left f)]]
theorem Rm {as bs:K_} (h:as.map (λt=>t.cps.toList)=bs.map λt=>t.cps.toList):as=bs:=by
 induction as generalizing bs with
 |nil=>cases bs with|nil=>rfl|cons=>simp at h
 |cons a r c =>
  cases bs with
  |nil=>simp at h
  |cons b q =>
   simp at h;rw[Nu.ext (a:=a) (b:=b) (by simpa using h.1),c (by simpa using h.2)]
theorem Ts(c:Nat)(ts:K_)(b:ts≠[])(f:∀t∈ts,c∉t.cps.toList):Txt.split (Str.join ⟨#[c]⟩ ts) ⟨#[c]⟩=ts:=by
 erw[Rm (VP c [] _ _ ?_ ?_ ?_ ?_ ?_)]
 .intro h;have:=split_pos (Str.join ⟨#[c]⟩ ts) ⟨#[c]⟩;have g:(Txt.split (Str.join ⟨#[c]⟩ ts) ⟨#[c]⟩).length=0:=by simpa using A4e List.length h
  lia
 .simpa using b
 .erw[?t e,xea (F0.mp e) λp d a=>?_,<-a,StrLaws.split_free _ c p d]
 .erw[?t e,xea (F0.mp e) λp d a=>?_,<-a,f p d]
 .erw[h=A4e (λz:Str=>z.cps.toList) (StrLaws.join_split (Str.join ⟨#[c]⟩ ts) ⟨#[c]⟩)];rw[Fq,Fq]at h;erw[h]
theorem GT(c:Nat)(a b:Str)(h:c∉a.cps.toList):Txt.partition (a++⟨#[c]⟩++b) ⟨#[c]⟩=#[a,⟨#[c]⟩,b]:=by
 have d:c∈(a++⟨#[c]⟩++b).cps.toList:=by rw[Cz,Cz];simp
 erw[s=partition_head (a++⟨#[c]⟩++b) ⟨#[c]⟩,g=StrLaws.found_one (a++⟨#[c]⟩++b) c];rw[A2g d]at g;have f:(Txt.partition (a++⟨#[c]⟩++b) ⟨#[c]⟩).2.1=⟨#[c]⟩:=by
  unfold Txt.partition;cases e:occurrences (a++⟨#[c]⟩++b) ⟨#[c]⟩ 0 (a++⟨#[c]⟩++b).length 1 with
  |nil=>rw[e]at g;simp at g
  |cons i l=>rfl
 have m:c∉(Txt.partition (a++⟨#[c]⟩++b) ⟨#[c]⟩).1.cps.toList:=by
  rcases s with ⟨_,no⟩|⟨i,e,r,no⟩
  .erw[(j,t)=J6 d,absurd ((StrLaws.subAt_one _ c j).mpr t) (no j)]
  .erw[[e],StrLaws.part_free _ c 0 i (by have:i+1<=_:=r.1;lia) λk _ u=>no k u]
 have e:(Txt.partition (a++⟨#[c]⟩++b) ⟨#[c]⟩).1.cps.toList++(Txt.partition (a++⟨#[c]⟩++b) ⟨#[c]⟩).2.1.cps.toList++(Txt.partition (a++⟨#[c]⟩++b) ⟨#[c]⟩).2.2.cps.toList=a.cps.toList++[c]++b.cps.toList:=by
  erw[n=A4e (λz:Str=>z.cps.toList) (StrLaws.partition_sum (a++⟨#[c]⟩++b) ⟨#[c]⟩)];rw[Cz,Cz,Cz,Cz]at n;erw[n]
 rw[f]at e;have o:(Txt.partition (a++⟨#[c]⟩++b) ⟨#[c]⟩).1.cps.toList++c::(Txt.partition (a++⟨#[c]⟩++b) ⟨#[c]⟩).2.2.cps.toList=a.cps.toList++c::b.cps.toList:=by simpa using e
 erw[(p,q)=SZ m h o,Prod.ext (Nu.ext p) (Prod.ext f (Nu.ext q))]
theorem Na{n:Int}(a:0<=n)(b:n<=9):(Str.ofString (toString n))=(⟨#[48+n.toNat]⟩:Str):=by
 erw[(m,rfl)=L6 a,(show ∀m:Nat,m<10->(Str.ofString (toString (m:Int)))=(⟨#[48+(m:Int).toNat]⟩:Str) by decide +kernel) m A3]
end Tx
namespace Tx
open PySem PySem.Builtin PySem.Builtin.Str PyProof.Rows
theorem VO:∀ts:List (List Nat),jl [] ts=ts.flatten
|[]=>rfl
|[x]=>by simp[jl]
|x::y::r=>by
 show x++[]++jl [] (y::r)=_;rw[VO (y::r)];simp
theorem Yb(c:Str)(m:Nat):∀(l:K_)(b:Nat),(∀t∈l,t.length<=m)->l.foldl (λa t=>a+t.length+c.length) b<=b+l.length*(m+c.length)
|[],b,_=>by simp
|t::r,b,h=>by
 erw[e=h t D5,f=Yb c m r (b+t.length+c.length) λz d=>h z (D6 _ d),[U9,F2,Nat.succ_mul]];lia
theorem OU(m:Nat)(h:∀t∈l,t.length<=m)(d:l.length*(m+b.length)<=100000):JoinOk b l=o0:=by
 erw[¬JoinOk,c=Yb b m l 0 h,(e:l.toArray.foldl (λa t=>a+t.length+b.length) 0=l.foldl (λa t=>a+t.length+b.length) 0)=by simp]
 rw[e];have:tooLong (l.foldl (λa t=>a+t.length+b.length) 0)=o3:=by
  erw[¬tooLong,A3a ?_];have:(100000:Nat)<=sizeLine:=by decide
  lia
 rw[this];rfl
theorem app_len(a b:Str):(a++b).length=a.length+b.length:=by
 rw[Nu.len,Nu.len,Nu.len,Cz,D3]
end Tx
namespace Tx
open PySem PySem.Builtin PySem.Builtin.Str PyProof.Rows
theorem aAr(x:Str)(c d k:Nat)(e:x.cps.toList[k]?=n8 c)(a:x.cps.toList[k+1]?=n8 d):StrLaws.At x ⟨[c,d].toArray⟩ x.length k:=by
 erw[l=(C2.mp a).1,(?_,?_)]
 .erw[(_:k+2<=x.length),[Nu.len],X5 l]
 .rw[StrLaws.subAt_eq];show((x.cps.toList.drop k).take 2==[c,d])=o0;have b:x.cps.toList.drop k=c::d::x.cps.toList.drop (k+2):=by
   rw[S3 A3,(C2.mp e).2,S3 l,(C2.mp a).2]
  rw[b];simp
def Led(c d:Nat)(l:J_):Prop:=∀k:Nat,l[k]?=n8 c->l[k+1]?=n8 d
theorem PD{c d a b:Nat}(l:Led c d x.cps.toList)(m:b<=x.length)(i:∀k,a<=k->k<b->¬StrLaws.At x ⟨[c,d].toArray⟩ x.length k):c∉(strSub x a b).cps.toList:=by
 intro g;rw[StrLaws.strSub_toList]at g;erw[(j,e)=J6 g];have f:j<b-a:=by
  erw[h=(C2.mp e).1];rw[J8]at h;lia
 rw[K0 f,A1h]at e;erw[i (a+j) (F5 _ _) A3 (aAr x c d (a+j) e (l _ e))]
theorem On{c d:Nat}(j:Led c d x.cps.toList):∀(b:J_)(a f:Nat),StrLaws.ChainG x ⟨[c,d].toArray⟩ x.length a b f->(∀k,f<=k->¬StrLaws.At x ⟨[c,d].toArray⟩ x.length k)->∀p∈StrLaws.partsFrom x 2 a b,c∉p.cps.toList
|[],a,f,h,hn,p,hp=>by
 erw[e=h,<-e,[C5.mp hp],PD j (C1 _) λk l _=>hn k l]
|g::r,a,f,h,hn,p,hp=>by
 rcases C4.mp hp with rfl|i
 .erw[PD j (by have:g+2<=_:=h.2.1.1;lia) h.2.2.1]
 .erw[On j r _ f h.2.2.2 hn p i]
theorem aCc(x:Str):¬Builtin.Str.strKind x<Builtin.Str.strKind (⟨[59,32].toArray⟩:Str):=by
 have e:Builtin.Str.strKind (⟨[59,32].toArray⟩:Str)=1:=by simp[Builtin.Str.strKind]
 erw[[e],¬Builtin.Str.strKind];split
 .decide
 .split<;>decide
theorem Tt(l:Led 59 32 x.cps.toList):∀p∈Txt.split x ⟨[59,32].toArray⟩,59∉p.cps.toList:=by
 erw[xea (StrLaws.occ_tight x ⟨[59,32].toArray⟩ A6) λf b i=>?_];have whole:59∈x.cps.toList->∃k,StrLaws.At x ⟨[59,32].toArray⟩ x.length k:=λa=>by
  erw[(j,g)=J6 a,(j,aAr x 59 32 j g (l j g))]
 unfold Txt.split;split
 .rename_i e;erw[?p d,[C5.mp d],?a,(k,c)=whole a,o=c.1];rw[Bool.or_eq_true,A9d,A9d]at e;rcases e with h|h
  .erw[q=h];lia
  .erw[aCc x h]
 .split
  .rename_i m;erw[?p d,[C5.mp d],?a,(k,c)=whole a];rw[List.isEmpty_iff.mp m]at b;erw[(n:f=0)=b,i k A3 c]
  .erw[[StrLaws.partsBetween_eq],On l _ 0 f b i]
theorem aBT{c d:Nat}(a:c≠d):∀ts:List (List Nat),(∀t∈ts,c∉t)->Led c d (jl [c,d] ts)
|[],_=>λk h=>by simp[jl]at h
|[x],hf=>λk h=>absurd (D0 (show x[k]?=n8 c from h)) (hf x D5)
|x::y::r,hf=>λk h=>by
 have e:jl [c,d] (x::y::r)=x++(c::d::jl [c,d] (y::r)):=by
  show x++[c,d]++jl [c,d] (y::r)=_;simp
 rw[e]at h⊢;erw[(b:k<x.length)]
 .rw[M5 b]at h;erw[absurd (D0 h) (hf x D5)]
 .rw[L5 (M4 b)]at h;rw[L5 A3];obtain⟨m,f⟩:∃m,k-x.length=m:=(_,Z)
  rw[show k+1-x.length=m+1 by lia];rw[f]at h;cases m with
  |zero=>rfl
  |succ m =>
   cases m with
   |zero =>
    have:n8 d=n8 c:=h;erw[absurd (A3h this).symm a]
   |succ m =>
    rw[K6,K6]at h⊢;exact(aBT a (y::r) λt g=>hf t (D6 _ g)) m h
theorem Og(ts:K_)(d:ts≠[])(f:∀t∈ts,59∉t.cps.toList):Txt.split (Str.join ⟨[59,32].toArray⟩ ts) ⟨[59,32].toArray⟩=ts:=by
 have e:Led 59 32 (Str.join ⟨[59,32].toArray⟩ ts).cps.toList:=by
  erw[[Fq],aBT A6 _ λt c=>xea (F0.mp c) λp b a=>?_,<-a,f p b]
 erw[Rm (VP 59 [32] _ _ ?_ ?_ ?_ ?_ ?_)]
 .intro h;have:=split_pos (Str.join ⟨[59,32].toArray⟩ ts) ⟨[59,32].toArray⟩;have g:(Txt.split (Str.join ⟨[59,32].toArray⟩ ts) ⟨[59,32].toArray⟩).length=0:=by simpa using A4e List.length h
  lia
 .simpa using d
 .erw[?t c,xea (F0.mp c) λp b a=>?_,<-a,Tt e p b]
 .erw[?t c,xea (F0.mp c) λp b a=>?_,<-a,f p b]
 .erw[h=A4e (λz:Str=>z.cps.toList) (StrLaws.join_split (Str.join ⟨[59,32].toArray⟩ ts) ⟨[59,32].toArray⟩)];rw[Fq,Fq]at h;erw[h]
end Tx
namespace L2
open PySem PySem.Spec PyProof.Rows
section
variable{κ:Type}[DecidableEq κ]
noncomputable def BQ(kvs:List (κ×V))(k:κ):Option V:=(kvs.find? λkv=>decide (kv.1=k)).map (·.2)
noncomputable def EL(kvs:List (κ×V))(k:κ)(v:V):List (κ×V) :=
 if(kvs.any λkv=>decide (kv.1=k))=o0 then kvs.map (λkv=>if kv.1=k then#[kv.1,v]else kv)else kvs++[#[k,v]]
theorem BZ{p:κ×V}{r:List (κ×V)}{k:κ}(e:p.1=k):BQ (p::r) k=n8 p.2:=by simp[BQ,T1,e]
theorem BF{p:κ×V}{r:List (κ×V)}{k:κ}(e:¬p.1=k):BQ (p::r) k=BQ r k:=by simp[BQ,T1,e]
theorem JH(k:κ):∀kvs:List (κ×V),(kvs.any λa=>decide (a.1=k))=(BQ kvs k).isSome
|[]=>rfl
|p::r=>by
 erw[[W6],(e:p.1=k)]
 .simp only[BZ e,A2g e,Bool.true_or,Option.isSome_some]
 .erw[[BF e,A3a e,Bool.false_or],JH k r]
theorem Th(k j:κ)(y:V):∀kvs:List (κ×V),BQ (kvs.map λa=>if a.1=k then#[a.1,y]else a) j=(BQ kvs j).map λx=>if j=k then y else x
|[]=>rfl
|p::r=>by
 erw[b=Th k j y r,[J0],(h:p.1=k)]
 .erw[[A2h h],(e:p.1=j)]
  .rw[BZ (p:=#[p.1,y]) e,BZ e,A0d,A2h (e.symm.trans h)]
  .rw[BF (p:=#[p.1,y]) e,BF e,b]
 .erw[[A2f h],(e:p.1=j)]
  .rw[BZ (p:=p) e,BZ e,A0d,A2f (λz=>h (e.trans z))]
  .rw[BF (p:=p) e,BF e,b]
theorem QZ(k j:κ)(y:V):∀kvs:List (κ×V),BQ kvs k=n9->BQ (kvs++[#[k,y]]) j=if j=k then n8 y else BQ kvs j
|[],_=>by
 erw[(e:k=j)]
 .erw[[A2h e.symm],BZ (p:=#[k,y]) e]
 .erw[[A2f (λz=>e z.symm)],BF (p:=#[k,y]) e]
|p::r,hn=>by
 erw[[W4],(a:¬p.1=k)=λz=>by rw[BZ z]at hn;cases hn]
 rw[BF a]at hn;erw[b=QZ k j y r hn,(e:p.1=j)]
 .rw[BZ e,BZ e,A2f (λz=>a (e.trans z))]
 .rw[BF e,BF e,b]
theorem Iy(kvs:List (κ×V))(k j:κ)(y:V):BQ (EL kvs k y) j=if j=k then n8 y else BQ kvs j:=by
 erw[¬EL,(a:(kvs.any λc=>decide (c.1=k))=o0)]
 .rw[A2h a,Th];rw[JH]at a;erw[(e:j=k)]
  .erw[(x,b)=Option.isSome_iff_exists.mp a,[A2h e,e,b,A0d,A2h rfl]]
  .rw[A2f e];cases BQ kvs j with
   |none=>rfl
   |some x=>rw[A0d,A2f e]
 .erw[[A2f a],QZ k j y kvs ?_];rw[JH]at a;cases q:BQ kvs k with
  |none=>rfl
  |some x=>rw[q]at a;exact(a Z).elim
theorem GW(kvs:List (κ×V))(k:κ)(v:V):(EL kvs k v).length<=kvs.length+1:=by
 unfold EL;split
 .erw[[C0],F5 _ _]
 .erw[[D3,F2,T0],C1 _]
theorem MG{kvs:List (κ×V)}{k:κ}(v:V)(h:BQ kvs k=n9):EL kvs k v=kvs++[#[k,v]]:=by
 erw[¬EL,[JH,h],A2f A6]
theorem JF.isSome_eq(r:JF o u):o.isSome=u.isSome:=by
 cases o with
 |none=>cases u with
  |none=>rfl
  |some _=>exact(show False from r).elim
 |some _=>cases u with
  |none=>exact(show False from r).elim
  |some _=>rfl
theorem JF.getD(r:JF o u)(a:Bc d d'):Bc (o.getD d) (u.getD d'):=by
 cases o with
 |none=>cases u with
  |none=>erw[a]
  |some _=>exact(show False from r).elim
 |some _=>cases u with
  |none=>exact(show False from r).elim
  |some _=>erw[r]
theorem KV.val{kvs:List (κ×V)}{vs:List (κ×Value)}(r:KV kvs vs)(k:κ):JF (BQ kvs k) (valueAt vs k):=by
 unfold KV at r;induction r with
 |nil=>erw[True.intro]
 |@cons p q g qs h t f =>
  erw[(c,d)=h,(e:p.1=k)]
  .erw[a=c.symm.trans e,(b:valueAt (q::qs) k=n8 q.2)=by simp[valueAt,T1,a]]
   erw[[BZ e,b],d]
  .erw[(a:¬q.1=k)=λz=>e (c.trans z),(b:valueAt (q::qs) k=valueAt qs k)=by simp[valueAt,T1,a]]
   erw[[BF e,b],f]
theorem KV.any(r:KV kvs vs)(k:κ):(kvs.any λa=>decide (a.1=k))=vs.any λa=>decide (a.1=k):=by
 unfold KV at r;induction r with
 |nil=>rfl
 |cons h t b=>rw[W6,W6,b,h.1]
theorem KV.repl(r:KV kvs vs)(k:κ)(f:Bc y u) :
  KV (kvs.map λa=>if a.1=k then#[a.1,y]else a) (vs.map λa=>if a.1=k then#[a.1,u]else a):=by
 unfold KV at r⊢;induction r with
 |nil=>erw[.nil]
 |@cons p q g qs h t d =>
  erw[[J0,J0],.cons ?_ d,(b,c)=h,(e:p.1=k)]
  .erw[[A2h e,A2h (b.symm.trans e)],(b,f)]
  .erw[[A2f e,A2f (λz=>e (b.trans z))],(b,c)]
theorem KV.put(r:KV kvs vs)(k:κ)(a:Bc y u):KV (EL kvs k y) (stored vs k u):=by
 erw[¬EL stored,[r.any k],(e:(vs.any λb=>decide (b.1=k))=o0)]
 .erw[[A2h e,A2h e],r.repl k a]
 .erw[[A2f e,A2f e],A5d r (Z,a)]
theorem KV.length(r:KV kvs vs):kvs.length=vs.length:=A3e r
end
theorem Rq{k:Key}(r:Bc (kV k) u):(Cp P w).is k u=o0:=by
 cases k with
 |inl i=>erw[(t,e)=(show ∃t,u=Value.int i t from r),<-e,Uq P w i t]
 |inr x=>erw[(t,e)=(show ∃t,u=Value.str x t from r),<-e,Uo P w x t]
theorem Rr:∀{ks:List Key}{us:F_},AT (ks.map kV) us->ItemsAre (Cp P w) ks us
|[],_,r=>by rw[Z2]at r;cases r;exact .nil
|k::ks,_,r=>by
 rw[J0]at r;cases r with
 |cons h t=>erw[.cons (Rq h) (Rr t)]
abbrev KT(H:Hp):List (List Key×V)->List (List Key×Addr×Value)->Prop:=Paired λp q=>p.1=q.1/\H q.2.1=n8 (.tup (p.1.map kV))/\Bc p.2 q.2.2
theorem KT.val{H:Hp}{kvs:List (List Key×V)}{xs:List (List Key×Addr×Value)}(r:KT H kvs xs)(k:List Key):JF (BQ kvs k) ((atKey xs k).map (·.2)):=by
 induction r with
 |nil=>erw[True.intro]
 |@cons p q g qs h t f =>
  erw[xa2 h λc _ d=>?_,(e:p.1=k)]
  .erw[a=c.symm.trans e,(b:atKey (q::qs) k=n8 q.2)=by simp[atKey,T1,a]]
   erw[[BZ e,b],d]
  .erw[(a:¬q.1=k)=λz=>e (c.trans z),(b:atKey (q::qs) k=atKey qs k)=by simp[atKey,T1,a]]
   erw[[BF e,b],f]
theorem KT.repl(r:KT H kvs xs)(k:List Key)(g:Bc y u) :
  KT H (kvs.map λb=>if b.1=k then#[b.1,y]else b) (xs.map (putAt k u)):=by
 induction r with
 |nil=>erw[.nil]
 |@cons p q i qs h t f =>
  erw[[J0,J0],.cons ?_ f,xa2 h λa c d=>?_,¬putAt,(e:p.1=k)]
  .erw[[A2h e,A2h (a.symm.trans e)],(a,c,g)]
  .erw[[A2f e,A2f (λz=>e (a.trans z))],(a,c,d)]
theorem KT.put(r:KT H kvs xs)(k:List Key)(c:H b=n8 (.tup (k.map kV)))(a:Bc y u) :
  KT H (EL kvs k y) (storedH xs k b u):=by
 have e:(kvs.any λd=>decide (d.1=k))=(atKey xs k).isSome:=by
  rw[JH,(r.val k).isSome_eq,Option.isSome_map]
 erw[¬EL storedH,[e],(q:(atKey xs k).isSome=o0)]
 .erw[[A2h q,A2h q],r.repl k a]
 .erw[[A2f q,A2f q],A5d r (Z,c,a)]
theorem KT.keeps(r:KT H kvs xs)(c:∀b ys,H b=n8 (.tup ys)->a b=n8 (.tup ys)):KT a kvs xs :=
 Paired.mapP r λ_ _ z=>(z.1,c _ _ z.2.1,z.2.2)
section
variable{P:N_}{w:Q_}{H:Hp}{h:T_}{a:R_}
theorem aD7(ok:HOk P w H h)(e:Rd H a u):BU P w H h a u:=e.ok ok
theorem Qs(ok:HOk P w H h)(e:Rd H a (.dK kvs)):kvs.length<=sizeLine/\(a==sysModules)=o3/\∃vs,KV kvs vs/\h.DictOf (Cp P w) a vs :=
 show BU P w H h a (.dK kvs)from aD7 ok e
theorem aGb(ok:HOk P w H h)(e:H a=n8 (.dK kvs)):kvs.length<=sizeLine/\(a==sysModules)=o3/\∃vs,KV kvs vs/\h.DictOf (Cp P w) a vs:=Qs ok (.inl e)
theorem NT(ok:HOk P w H h)(e:H a=n8 (.tup (ks.map kV))):(tupleKind (Cp P w)).is h ks a:=by
 erw[JC (show BU P w H h a (.tup (ks.map kV))from ok a _ e) λ_ b r c=>AI c λo f g d=>xe d λn i=>(o,b.toArray,n,f,g,i,by simpa using Rr r)]
theorem Ou(ok:HOk P w H h)(e:Rd H a (.dT kvs)):kvs.length<=sizeLine/\(a==sysModules)=o3 /\
  ∃xs,KT H kvs xs/\h.DictOfH (tupleKind (Cp P w)) a xs:=by
 erw[CW (show BU P w H h a (.dT kvs)from aD7 ok e) λz y xs r c=>Ch c λo g f i j k n s=>(z,y,xs,r,o,g,f,i,j,k,n,λx b=>?_,s)];have all:∀{l:List (List Key×V)}{m:List (List Key×Addr×Value)},KT H l m->∀x∈m,(tupleKind (Cp P w)).is h x.1 x.2.1:=by
  intro l m q;induction q with
  |nil=>erw[?x b,nomatch b]
  |@cons p q v qs d t u =>
   intro x b;rcases C4.mp b with e|b
   .erw[<-e,NT ok (by erw[[-d.1],d.2.1])]
   .erw[u x b]
 erw[all r x b]
theorem aGe(ok:HOk P w H h)(e:H a=n8 (.dT kvs)):kvs.length<=sizeLine/\(a==sysModules)=o3 /\
 ∃xs,KT H kvs xs/\h.DictOfH (tupleKind (Cp P w)) a xs:=Ou ok (.inl e)
end
def GL(H:Hp)(a:R_)(y:V)(r:Option V):Prop :=
 (∃kvs k,Rd H a (.dK kvs)/\y=kV k/\r=BQ kvs k)\/∃kvs k b,Rd H a (.dT kvs)/\y=.ref b/\H b=n8 (.tup (k.map kV))/\r=BQ kvs k
def Mt(H:Hp)(a:R_)(y v:V)(H':Hp):Prop :=
 (∃kvs k,H a=n8 (.dK kvs)/\y=kV k/\kvs.length<sizeLine/\H'=upd H a (.dK (EL kvs k v))) \/
 ∃kvs k b,H a=n8 (.dT kvs)/\y=.ref b/\H b=n8 (.tup (k.map kV))/\kvs.length<sizeLine/\H'=upd H a (.dT (EL kvs k v))
theorem GL.k{H:Hp}{a:R_}{kvs:List (Key×V)}{k:Key}(e:H a=n8 (.dK kvs)):GL H a (kV k) (BQ kvs k):=.inl (kvs,k,.inl e,Z,Z)
theorem GL.t{H:Hp}{a b:R_}{kvs:List (List Key×V)}{k:List Key}(e:H a=n8 (.dT kvs))(c:H b=n8 (.tup (k.map kV))):GL H a (.ref b) (BQ kvs k):=.inr (kvs,k,b,.inl e,Z,c,Z)
theorem Mt.k{H:Hp}{a:R_}{kvs:List (Key×V)}{k:Key}{v:V}(e:H a=n8 (.dK kvs))(b:kvs.length<sizeLine):Mt H a (kV k) v (upd H a (.dK (EL kvs k v))):=.inl (kvs,k,e,Z,b,Z)
theorem Mt.t{H:Hp}{a b:R_}{kvs:List (List Key×V)}{k:List Key}{v:V}(e:H a=n8 (.dT kvs))(c:H b=n8 (.tup (k.map kV)))(d:kvs.length<sizeLine) :
 Mt H a (.ref b) v (upd H a (.dT (EL kvs k v))):=.inr (kvs,k,b,e,Z,c,d,Z)
section
variable{X:Cx}{n7:A_}{σ:St}{H:Hp}{s:P_}{a:R_}{y v:V}{u r:S_}{o:Option V}{A:Around}{E:B_}
theorem Inv.big(I:Inv X n7 σ H s):sysModules<s.heap.objs.size:=by
 erw[h=(I.mod.glob.keeps I.bk).lt,Z0 A6 h]
theorem Zs(D:A.units+1<cLine)(I:Inv X n7 σ H s)(g:GL H a y (n8 v))(q:Bc y u)(h:∀f t,Inv X n7 σ H t->Bc v f->Q f t) :
  wpAny (model X.prog X.w) A (getItem (.ref a) u) Q E s:=by
 rcases g with ⟨kvs,k,e,j,l⟩|⟨kvs,k,b,e,j,x,l⟩
 .erw[<-j,CW (Qs I.hok e) λz B vs c i=>xea (JF.some_of (v:=v) (o:=valueAt vs k) (by erw[[l],c.val k])) λf n d=>wpAny_getItem_of (Rq q) i.mapOf n (h f _ (I.tok _) d)]
 .erw[<-j,!(show u=Value.ref b from q),CW (Ou I.hok e) λz B xs c i=>xea (JF.some_of (v:=v) (o:=(atKey xs k).map (·.2)) (by erw[[l],c.val k])) λf n d=>xea (D7.mp n) λp C m=>wpAny_getItem_heap (A9h D) (NT I.hok x) i C ?_,[m],h f _ (I.tok _) d]
theorem aCT(p:A.units+1<cLine)(I:Inv X n7 σ H s)(g:GL H a y o)(j:Bc y u)(h:∀m,Inv X n7 σ H m->Q (.bool (!o.isSome)) m) :
  wpAny (model X.prog X.w) A (compareOp .NotIn u (.ref a)) Q E s:=by
 rcases g with ⟨kvs,k,e,f,l⟩|⟨kvs,k,b,e,f,n,l⟩
 .erw[<-f,CW (Qs I.hok e) λz i vs c d=>wpAny_notIn_of (Rq j) i d.mapOf ?_,[-(c.val k).isSome_eq,-l],h _ (I.tok _)]
 .erw[<-f,!(show u=Value.ref b from j),CW (Ou I.hok e) λz i xs c d=>wpAny_notIn_heap (A9h p) (NT I.hok n) i d ?_,q=(c.val k).isSome_eq];rw[Option.isSome_map]at q;erw[[-q,-l],h _ (I.tok _)]
theorem SV{c:HO}(I:Inv X n7 σ H s)(h:Mut (H a))(g:Heap.SameBut a s.heap h')(f:∃q,h'.get? a=n8 q)(new:BU X.prog X.w (upd H a c) h' a c) :
  Inv X n7 σ (upd H a c) {s with heap:=h',toks:=t'} :=
 I.write (x:=a) (e:=a) h (.inl Z) (λb q d z=>(g.2 b d).trans z) f new
theorem aEY{c:Hp}(z:kvs.length<=sizeLine)(e:(a==sysModules)=o3)(b:KV kvs vs)(d:h'.DictOf (Cp P w) a vs) :
 BU P w c h' a (.dK kvs):=(z,e,vs,b,d)
theorem Zr(V:A.units+1<cLine)(I:Inv X n7 σ H s)(g:Mt H a y v D)(L:Bc y u)(K:Bc v r)(h:∀M,Inv X n7 σ D M->Q () M) :
  wpAny (model X.prog X.w) A (setItem (.ref a) u r) Q E s:=by
 rcases g with ⟨kvs,k,e,n,l,m⟩|⟨kvs,k,b,e,n,F,l,m⟩
 .erw[<-n m,CW (aGb I.hok e) λz p vs d j=>?_,(B:vs.length<=sizeLine)=by erw[[-d.length],z]]
  have t:(EL kvs k v).length<=sizeLine:=by have:=GW kvs k v;lia
  erw[wpAny_setItem_pairs (hsz:=B) (Rq L) j λh' f x=>h _ ?_];have U:∃q,h'.get? a=n8 q:=let ⟨q,_,_,i,_⟩:=f;(q,i);exact SV I (by rw[e];exact True.intro) x U (aEY t p (d.put k K) f)
 .erw[<-n m,!(show u=Value.ref b from L),CW (aGe I.hok e) λz p xs d j=>?_,(B:xs.length<=sizeLine)=by erw[[-A3e d],z]]
  have t:(EL kvs k v).length<=sizeLine:=by have:=GW kvs k v;lia
  erw[wpAny_setItem_heap (hsz:=B) (A9h V) (NT I.hok F) j λh' f x=>h _ ?_,Ch f λq O N i P R S C=>xa C λ_ T=>SV I (by erw[[e],True.intro]) x (q,i) (t,p,_,(d.put k F K).keeps λc ys G=>?_,q,O,N,i,P,R,S,T),[Aq (AC G e (λz=>nomatch z))],G]
end
def aF1(i:Expr):Prop:=∀ov iv,subscripted i o3 ov iv=operate [ov,iv] (getItem ov iv)
theorem aDJ{prog:N_}{w:Q_}{A:Around}{E:B_}{s:P_}{env:Env}{b a:Expr}{pos:Pos}{T id:String}{Q:B_}
  (l:typeLookup (.type T) "__getitem__" = pure (n8 (.builtin id))) (m:aF1 a)
  (h:wpAny (model prog w) A (eval b env) (λo e=>wpAny (model prog w) A (eval a env) (λi c=>c.TypeIs o T/\wpAny (model prog w) A (getItem o i) Q E c) E e) E s) :
  wpAny (model prog w) A (eval (.Subscript b a pos) env) Q E s:=by
 erw[Subscript_ (A6a h (λo e g=>A6a g (λi c d=>?_) λ_ _ x=>x) λ_ _ x=>x),(k,d)=d,¬subscriptTail,A2e ?_,[getitemInPython_of_ne k.not_modules],A2e (wpAny_specialOf k l ?_)];have fin:wpAny (model prog w) A (subscripted a o3 o i) (λr f=>wpAny (model prog w) A (letTemporaryGo b o r >>= λ_=>pure r) Q E f) E c:=by
  erw[[m o i],wpAny_operating (A6a d (λr f j=>A2e (wpAny_letTemporaryGo (A3c j))) λ_ _ x=>x)]
 first
  |exact A3c (A2e fin)
  |exact A2e (A3c (A2e fin))
  |exact A2e fin
theorem UC{c:A_}(I:Inv X c σ H s)(g:GL H a y o):s.TypeIs (.ref a) "dict" := by
 rcases g with ⟨kvs,k,e,_,_⟩|⟨kvs,k,b,e,_,_,_⟩
 .erw[CW (Qs I.hok e) λ_ _ vs _ d=>d.typeIs]
 .erw[CW (Ou I.hok e) λ_ _ xs _ d=>d.typeIs]
def aHj(td ty:TE):TE:=fun σ H Q=>td σ H λx H1=>ty σ H1 λy H2=>∃a v,x=.ref a/\GL H2 a y (n8 v)/\Q v H2
def aDL(ty td:TE):TE:=fun σ H Q=>ty σ H λy H1=>td σ H1 λx H2=>∃a o,x=.ref a/\GL H2 a y o/\Q (.bl (!o.isSome)) H2
def aHN(td ty tv:TE):TS:=λD σ H=>tv σ H λv H1=>td σ H1 λx H2=>ty σ H2 λy H3=>∃a H4,x=.ref a/\Mt H3 a y v H4/\D.nx σ H4
section
variable{X:Cx}{o i e value:Expr}{pos pos' tpos:Pos}{td ty tv:TE}
theorem Sh(q:X.A.units+1<cLine)(n:PE X o td)(hi:PE X i ty)(p:aF1 i):PE X (.Subscript o i pos) (aHj td ty):=by
 erw[?b s σ H Q I h,aDJ PySem.F.slot_dict_getitem.lookup p (thn (n b s σ H _ I h) λu B ⟨x,f,k,w,r⟩=>thn (hi b B σ f _ k r) λC D ⟨y,j,d,z,a,v,m,g,t⟩=>?_),<-m];obtain rfl:u=Value.ref a:=w;exact(UC d g,Zs q d g z λG E l c=>(v,j,l,c,t))
theorem YJ(q:X.A.units+1<cLine)(hi:PE X i ty)(p:PE X o td):PC X .NotIn i o (aDL ty td):=by
 erw[?b s σ H Q I h,thn (hi b s σ H _ I h) λC B c=>AK c λy f k z t=>thn (p b B σ f _ k t) λu D c=>AK c λx j l w d=>AK d λa r n g v=>?_,<-n];obtain rfl:u=Value.ref a:=w;erw[aCT q l g z λE m=>(.bl (!r.isSome),j,m,Z,v)]
theorem FN(t:X.A.units+1<cLine)(p:PE X o td)(hi:PE X i ty)(w:PE X value tv)(q:swapsWith value (n8 (.Subscript o i pos')) pos.line X.env=pure o3) :
  PS X (.Assign [.Subscript o i pos'] value pos) (aHN td ty tv):=by
 erw[?b s σ H D I h,wpAny_Assign_Subscript (thn (w b s σ H _ I h) λr K ⟨v,c,j,E,z⟩=>thn (p b K σ c _ j z) λu L ⟨x,d,k,F,B⟩=>thn (hi b L σ d _ k B) λN O ⟨y,M,l,G,a,f,n,g,C⟩=>?_) q,<-n];obtain rfl:u=Value.ref a:=F;erw[Zr t l g G E λP m=>(σ,f,m,C)]
end
theorem aA3(h:T_)(a:sysModules<h.objs.size):BU P w H (h.push {cls:=.type "dict",data:=.dict #[]}) h.objs.size (.dK []) :=
 (L7 _,beq_eq_false_iff_ne.mpr (A3f (L9 a)),[],.nil,Heap.DictOf.new h)
theorem aA4(h:T_)(a:sysModules<h.objs.size):BU P w H (h.push {cls:=.type "dict",data:=.dict #[]}) h.objs.size (.dT []) :=
 (L7 _,beq_eq_false_iff_ne.mpr (A3f (L9 a)),[],.nil,_,#[],0,F4 _ Z,(Z,Z,Z),Z,Z,Q0)
def aFo:TE:=λ_ H Q=>∀p,H p=n9->Q (.ref p) (upd H p (.dK []))
def aFp:TE:=λ_ H Q=>∀p,H p=n9->Q (.ref p) (upd H p (.dT []))
section
variable{X:Cx}{pos:Pos}
theorem ML:PE X (.Dict [] [] pos) aFo:=λb s σ H Q I h =>
 wpAny_Dict_empty (.ref s.heap.objs.size,_,I.laid (a:=s.heap.objs.size) (o:=.dK []) (t':=s.toks) (λ_ _ q=>C6 _ q) (C1 _) (aA3 s.heap I.big),Z,h _ (I.hok.fresh (C1 _)))
theorem MK:PE X (.Dict [] [] pos) aFp:=λb s σ H Q I h =>
 wpAny_Dict_empty (.ref s.heap.objs.size,_,I.laid (a:=s.heap.objs.size) (o:=.dT []) (t':=s.toks) (λ_ _ q=>C6 _ q) (C1 _) (aA4 s.heap I.big),Z,h _ (I.hok.fresh (C1 _)))
end
structure M1(X:Cx)(o:Expr)(m:Str)(apos:Pos)(e:Expr)(cpos:Pos):Prop where
n6:attributeBase o m X.env (eval o X.env)=eval o X.env
few:((backTo cpos (starEach [e] X.env)).all (λx=>!x.1) && (backToKw cpos (keywordEach [] X.env)).all (λx=>x.1.isSome)
 && decide (([e]:List Expr).length+([]:List Keyword).length+(if([]:List Keyword).isEmpty then 0 else 1)<30))=o0
line:(apos.endLine==cpos.line)=o0
trees:backTo cpos (starEach [e] X.env)=[#[o3,eval e X.env]]
structure M2(X:Cx)(o:Expr)(m:Str)(apos:Pos)(e f:Expr)(cpos:Pos):Prop where
n6:attributeBase o m X.env (eval o X.env)=eval o X.env
few:((backTo cpos (starEach [e,f] X.env)).all (λx=>!x.1) && (backToKw cpos (keywordEach [] X.env)).all (λx=>x.1.isSome)
 && decide (([e,f]:List Expr).length+([]:List Keyword).length+(if([]:List Keyword).isEmpty then 0 else 1)<30))=o0
line:(apos.endLine==cpos.line)=o0
trees:backTo cpos (starEach [e,f] X.env)=[#[o3,eval e X.env],#[o3,eval f X.env]]
def IsD(H:Hp)(a:R_):Prop:=(∃kvs,Rd H a (.dK kvs))\/∃kvs,Rd H a (.dT kvs)
theorem aBI(I:Inv X g σ H s)(d:IsD H a) :
  s.TypeIs (.ref a) "dict" /\ (∀b,Value.ref a=.ref b->∃c,s.heap.get? b=n8 c/\c.dict=n9)/\(a==sysModules)=o3:=by
 rcases d with ⟨kvs,e⟩|⟨kvs,e⟩
 .erw[CW (Qs I.hok e) λ_ j vs _ f=>(f.typeIs,λb q=>?_,j)]
  erw[!q,Dl f λc _ _ h i _=>(c,h,i.2.1)]
 .erw[CW (Ou I.hok e) λ_ j xs _ f=>(f.typeIs,λb q=>?_,j)]
  erw[!q,Dl f λc _ _ h i _=>(c,h,i.2.1)]
section
variable{X:Cx}{n7:A_}{σ:St}{H:Hp}{s:P_}{a:R_}{y d:V}{u r:S_}{o:Option V}{A:Around}{E:B_}
theorem aEW(t:A.units+1<cLine)(I:Inv X n7 σ H s)(g:GL H a y o)(m:Bc y u)(h:∀p n,Inv X n7 σ H n->Bc (o.getD .non) p->Q p n) :
  wpAny (model X.prog X.w) A (call (.builtin "dict.get") [.ref a,u]) Q E s:=by
 rcases g with ⟨kvs,k,e,i,l⟩|⟨kvs,k,b,e,i,q,l⟩
 .erw[<-i,CW (Qs I.hok e) λz j vs c f=>call_meetsIn A6f f.typeIs A9e (PySem.F.args_dict_get_2 _ _) (meets_dict_get (Cp X.prog X.w) a (Rq m) j) (_,f.mapOf,h _ _ (I.tok _) ?_),[l],(c.val k).getD Z]
 .erw[<-i,!(show u=Value.ref b from m),CW (Ou I.hok e) λz j xs c f=>call_meetsIn A6f f.typeIs A9e (PySem.F.args_dict_get_2 _ _) (meetsH_dict_get (tupleKind (Cp X.prog X.w)) a b j) (A9h t,k,xs,NT I.hok q,f,h _ _ (I.tok _) ?_),[l],(c.val k).getD Z]
theorem aEX(v:A.units+1<cLine)(I:Inv X n7 σ H s)(g:GL H a y o)(n:Bc y u)(m:Bc d r)(h:∀q p,Inv X n7 σ H p->Bc (o.getD d) q->Q q p) :
  wpAny (model X.prog X.w) A (call (.builtin "dict.get") [.ref a,u,r]) Q E s:=by
 rcases g with ⟨kvs,k,e,i,l⟩|⟨kvs,k,b,e,i,t,l⟩
 .erw[<-i,CW (Qs I.hok e) λz j vs c f=>call_meetsIn A6f f.typeIs A9e (PySem.F.args_dict_get_3 _ _ _) (meets_dict_get_default (Cp X.prog X.w) a (Rq n) j r) (_,f.mapOf,h _ _ (I.tok _) ?_),[l],(c.val k).getD m]
 .erw[<-i,!(show u=Value.ref b from n),CW (Ou I.hok e) λz j xs c f=>call_meetsIn A6f f.typeIs A9e (PySem.F.args_dict_get_3 _ _ _) (meetsH_dict_get_default (tupleKind (Cp X.prog X.w)) a b j r) (A9h v,k,xs,NT I.hok t,f,h _ _ (I.tok _) ?_),[l],(c.val k).getD m]
end
def aFm(td ty:TE):TE:=fun σ H Q=>td σ H λx H1=>∃a,x=.ref a/\IsD H1 a/\ty σ H1 λy H2=>∃o,GL H2 a y o/\Q (o.getD .non) H2
def aFn(td ty tx:TE):TE:=fun σ H Q=>td σ H λx H1=>∃a,x=.ref a/\IsD H1 a/\ty σ H1 λy H2=>tx σ H2 λz H3=>∃o,GL H3 a y o/\Q (o.getD z) H3
section
variable{X:Cx}{o e f:Expr}{apos cpos:Pos}{td ty tx:TE}
theorem JS(w:X.A.units+1<cLine)(v:PE X o td)(t:PE X e ty)(m:M1 X o "get" apos e cpos):PE X (.Call (.Attribute o "get" apos) [e] [] cpos) (aFm td ty):=by
 erw[?b s σ H Q I h,wpAny_Call_method m.n6 m.few m.line PySem.F.plainAttrs_dict A6f PySem.F.type_dict_get (thn (v b s σ H _ I h) λu E r=>?_),AK r λx k j C i=>AI i λa q d z=>?_,<-q];obtain rfl:u=Value.ref a:=C;erw[xa2 (aBI j d) λG K _=>(G,K,?_)]
 erw[[m.trees],B1g Z (B2e (B0g (thn (t b E σ k _ j z) λL N ⟨y,l,n,D,M,g,B⟩=>Calls.spliced_nil ?_))),aEW w n g D λP O p c=>(_,l,p,c,B)]
theorem TZ(D:X.A.units+1<cLine)(C:PE X o td)(w:PE X e ty)(B:PE X f tx)(m:M2 X o "get" apos e f cpos):PE X (.Call (.Attribute o "get" apos) [e,f] [] cpos) (aFn td ty tx):=by
 erw[?b s σ H Q I h,wpAny_Call_method m.n6 m.few m.line PySem.F.plainAttrs_dict A6f PySem.F.type_dict_get (thn (C b s σ H _ I h) λu O v=>?_),AK v λx k j L i=>AI i λa t d E=>?_,<-t];obtain rfl:u=Value.ref a:=L;erw[xa2 (aBI j d) λR S _=>(R,S,?_)]
 rw[m.trees];refine B1g Z (B2e (B0g (thn (w b O σ k _ j E) λU P ⟨y,l,p,M,G⟩ =>
  B0g (thn (B b P σ l _ p G) λT W ⟨z,n,q,N,V,g,K⟩=>Calls.spliced_nil ?_))))
 erw[aEX D q g M N λw' Y r c=>(_,n,r,c,K)]
end
section
variable{X:Cx}
theorem Sg{K:O_}(b:X.K=K)(d:PE X e a)(c:attributeBase e f X.env (eval e X.env)=eval e X.env):PE X (.Attribute e f pos) (aHk K a f):=b▸AA d c
theorem Om(ns:I_):∀k,k<=ns.length->preSum (λi=>ns.getD i 0) k=(ns.take k).sum
|0,_=>by simp[preSum]
|k+1,h=>by
 erw[h'=h,(_:preSum _ k+ns.getD k 0=_),[Om ns k (M0 h'),F9,C7 h',D9,C7 h',List.sum_append],(_:_+ns[k]=_+(ns[k]+0))]
 rw[V9]
theorem GF{ns:I_}{a:F_}(f:AT (ns.map V.int) a):∀(i:Nat) v,a.toArray[i]?=n8 v->∃t,v=.int (ns.getD i 0) t:=λi v e=>by
 have e:a[i]?=n8 v:=by simpa using e
 cases c:ns[i]? with
 |none =>
  have:a[i]?=n9:=f.none_of (by rw[C3,c];rfl);rw[e]at this;cases this
 |some b =>
  erw[xea (f.get (i:=i) (x:=V.int b) (by rw[C3,c];rfl)) λu d g=>?_];rw[e]at d;erw[!d,[D9,c],(t,rfl)=g,(t,Z)]
theorem aA0(x:X.calm=o0):FJ X (.builtin "sum") (λxs H Q=>∃(p:R_)(ns:I_),xs=[.ref p]/\SqL X.K H p (ns.map V.int)/\Q (.int ns.sum) H):=by
 erw[?g s σ H xs us Q I r h,AK h λp ns j y q=>?_,-h,<-j];cases r with
 |cons B C =>
  erw[!C,!(show _=Value.ref p from B),AI (I.list y) λf u pl D=>?_,(d:p<s.heap.objs.size)=by erw[BM pl λo n e _=>?_,F8 e]]
  have len:f.toArray.size=ns.length:=by rw[J3,<-u.length,C0]
  erw[call_sum_walkAnyS (A8g pl.isList ?_),(s.heap.objs.size,_,_,_,_,_,_,λi=>ns.getD i 0,Z,(Walks.list (A:=X.A.in1) (I.ok.hd x) s.heap.objs.size p (L9 d) f.toArray).toS,((_,F4 _ Z,Z,Z),?_),?_,GF u,?_)]
  .erw[pl.isList.at λo e=>C6 _ e]
  .erw[?b c,(_:b<(s.heap.push _).objs.size),[O9]];rcases C4.mp c with rfl|c
   .erw[P1 _]
   .rcases C4.mp c with rfl|c
    .erw[X7 d]
    .cases c
  .erw[?a t' t,(v:Inv X g σ H {s with heap:=a.heap,toks:=a.toks})=I.kept λb o e=>t.heap b o (by erw[?z,L9 (F8 e) (by simpa using z)]) (C6 _ e)];have w:a={s with heap:=a.heap,toks:=a.toks}:=by
    erw[(E,k,l,m,F)=t,!a];simp only at k l m;erw[<-k,<-l,<-m];rfl
   erw[[w,len,Om ns _ (C1 _),J7],(.int ns.sum,H,v,(t',Z),q)]
theorem LH(E:X.calm=o0):FJ X (.builtin "min") (λxs H Q=>∃(p:R_)(ns:I_),xs=[.ref p]/\SqL X.K H p (ns.map V.int)/\ns≠[]/\∀m∈ns,(∀x∈ns,m<=x)->Q (.int m) H):=by
 erw[?g s σ H xs us Q I r h,CG h λp ns k G ne q=>?_,-h,<-k];cases r with
 |cons M N =>
  erw[!N,!(show _=Value.ref p from M),AI (I.list G) λa u pl O=>?_,(d:p<s.heap.objs.size)=by erw[BM pl λo n e _=>?_,F8 e]]
  erw[l=L9 d,(len:a.toArray.size=ns.length)=by rw[J3,<-u.length,C0]]
  erw[pos=Y7.mpr ne,call_min_walk (A8g pl.isList ?_),(s.heap.objs.size,_,_,_,_,_,_,Z,(Walks.list (A:=X.A.in1) (I.ok.hd E) s.heap.objs.size p l a.toArray),((_,F4 _ Z,Z,Z),?_),?_,by erw[[len],pos],CmpOf.ints_lt (λi=>ns.getD i 0) (GF u),?_)]
  .erw[pl.isList.at λo e=>C6 _ e]
  .erw[?b c,(_:b<(s.heap.push _).objs.size),[O9]];rcases C4.mp c with rfl|c
   .erw[P1 _]
   .rcases C4.mp c with rfl|c
    .erw[X7 d]
    .cases c
  .erw[?v h' tk y kk,(B:Inv X g σ H {s with heap:=h',toks:=tk})=I.kept λb o e=>kk b o (by erw[?z,L9 (F8 e) (by simpa using z)]) (C6 _ e),(t,rfl)=GF u _ _ y,(w,b2)=argBest_lt (λi=>ns.getD i 0) (a.toArray.size-1)];generalize argBest (λi j=>decide (ns.getD i 0<ns.getD j 0)) (a.toArray.size-1)=z at w b2 y⊢;rw[len]at w b2;have f:z<ns.length:=by lia
   have D:ns.getD z 0=ns[z]:=by rw[D9,C7 f];rfl
   erw[(.int _,H,B,(t,Z),q _ (by erw[[D],P2 f]) λx L=>?_),(j,F,e)=A1b.mp L];have:=b2 j A3;have C:ns.getD j 0=x:=by rw[D9,C7 F,<-e];rfl
   erw[[-C],this]
theorem LI(E:X.calm=o0):FJ X (.builtin "max") (λxs H Q=>∃(p:R_)(ns:I_),xs=[.ref p]/\SqL X.K H p (ns.map V.int)/\ns≠[]/\∀m∈ns,(∀x∈ns,x<=m)->Q (.int m) H):=by
 erw[?g s σ H xs us Q I r h,CG h λp ns k G ne q=>?_,-h,<-k];cases r with
 |cons M N =>
  erw[!N,!(show _=Value.ref p from M),AI (I.list G) λa u pl O=>?_,(d:p<s.heap.objs.size)=by erw[BM pl λo n e _=>?_,F8 e]]
  erw[l=L9 d,(len:a.toArray.size=ns.length)=by rw[J3,<-u.length,C0]]
  erw[pos=Y7.mpr ne,call_max_walk (A8g pl.isList ?_),(s.heap.objs.size,_,_,_,_,_,_,Z,(Walks.list (A:=X.A.in1) (I.ok.hd E) s.heap.objs.size p l a.toArray),((_,F4 _ Z,Z,Z),?_),?_,by erw[[len],pos],CmpOf.ints_gt (λi=>ns.getD i 0) (GF u),?_)]
  .erw[pl.isList.at λo e=>C6 _ e]
  .erw[?b c,(_:b<(s.heap.push _).objs.size),[O9]];rcases C4.mp c with rfl|c
   .erw[P1 _]
   .rcases C4.mp c with rfl|c
    .erw[X7 d]
    .cases c
  .erw[?v h' tk y kk,(B:Inv X g σ H {s with heap:=h',toks:=tk})=I.kept λb o e=>kk b o (by erw[?z,L9 (F8 e) (by simpa using z)]) (C6 _ e),(t,rfl)=GF u _ _ y,(w,b2)=argBest_gt (λi=>ns.getD i 0) (a.toArray.size-1)];generalize argBest (λi j=>decide (ns.getD i 0 > ns.getD j 0)) (a.toArray.size-1)=z at w b2 y⊢;rw[len]at w b2;have f:z<ns.length:=by lia
   have D:ns.getD z 0=ns[z]:=by rw[D9,C7 f];rfl
   erw[(.int _,H,B,(t,Z),q _ (by erw[[D],P2 f]) λx L=>?_),(j,F,e)=A1b.mp L];have:=b2 j A3;have C:ns.getD j 0=x:=by rw[D9,C7 F,<-e];rfl
   erw[[-C],this]
end
theorem aAo(ns a:I_):((List.range (min ns.length a.length)).all (λj=>ns.getD j 0==a.getD j 0) && ns.length==a.length)=decide (ns=a):=by
 rw[T5,R6,U5,B2c,decide_eq_true_iff];constructor
 .erw[?b,(c,d)=b,List.ext_getElem d λi e f=>?_];have:=c i (N9.mpr A3);rw[B2c,D9,D9,C7 e,C7 f]at this;erw[this]
 .rintro rfl;exact(λx _=>beq_iff_eq.mpr Z,Z)
section
variable{X:Cx}
theorem YA{H:Hp}{ns:I_}{a:F_}(i:AT (ns.map V.int) a){A:Around}{s:P_}{d:I_}{b:F_}(c:AT (d.map V.int) b)(j:Nat)(g:j<a.toArray.size)(h:j<b.toArray.size):PySem.SeqAt.EqAt A s a.toArray[j] b.toArray[j] (ns.getD j 0==d.getD j 0):=by
 erw[(t,e)=GF i j _ (C8 g),(u,f)=GF c j _ (C8 h),[e,f],PySem.SeqAt.EqAt.int_int _ t _ u]
theorem YK(w:X.A.units+64<cLine):OpR X (compareOp .NotEq) (λx y H Q=>∃(a b:R_)(ns e:I_),x=.ref a/\y=.ref b/\SqT X.K H a (ns.map V.int)/\SqT X.K H b (e.map V.int)/\Q (.bl (!decide (ns=e))) H):=by
 erw[?f s σ H x y v u Q I r t h,Cd h λa b ns e c d k l q=>?_,-h,<-c,<-d,!r,!t,AI (I.tuple k) λxs g o _=>AI (I.tuple l) λys i p _=>PySem.SeqAt.RcNeAt.tuples o p A3 (λj m n=>YA (H:=H) g i j m n) _ _ _ _ ?_,[J3,J3,-g.length,-i.length,C0,C0,aAo],(.bl _,H,I,Z,q)]
end
section
variable{prog:N_}{w:Q_}{A:Around}{E:B_}{s:P_}{d it:R_}{o:Obj}{es:Array DictEntry}{ep i:Nat}
theorem TQ(f:(d==sysModules)=o3)(b:s.heap.get? d=n8 o)(e:o.ExactDict)(c:o.data=.dict es ep)
  (q:Q (.ref s.heap.objs.size) {s with heap:=s.heap.push {cls:=.type "dict_keyiterator",data:=.fields [.ref d,.int 0 0,.int es.size 0,.int ep 0].toArray} }):wpAny (model prog w) A (pyIter (.ref d)) Q E s:=by
 have a:s.TypeIs (.ref d) "dict" := (o,b,e.1)
 erw[wpAny_pyIter_slot a F.slot_dict_iter (A7d F.slot_dict_iter a F.entry_dict_iter ?_ (F.args_dict_iter_1 _))];unfold Builtin.«dict.__iter__»;erw[A2e ?_,¬Builtin.Dict.dictSlotNone,A2e (wpAny_notOrdered_dict a ?_),(_:wpAny _ _ (pure (Value.ref d)) _ _ s),A3c ?_,(_:wpAny _ _ (Builtin.Dict.showsAll d >>= _) _ _ s),¬Builtin.Dict.showsAll,[A2f (by erw[[f],F6])],A2e (A3c ?_),A2e (B1c b c ?_),A2e (wpAny_dictEpoch b c ?_),A2e (A8h (A3c (_,Z,"dict_keyiterator",_,(_,F4 _ Z,Z),F.slot_dict_keyiterator_next.lookup,?_)))];simpa[rawInt] using q
theorem aCD(a:s.heap.IsKeyIter it d i es.size ep)(g:s.heap.get? d=n8 o)(f:o.data=.dict es ep)(hi:i<es.size)
  (q:∀h',h'.IsKeyIter it d (i+1) es.size ep->Heap.SameBut it s.heap h'->Q (n8 es[i].key) {s with heap:=h'}):wpAny (model prog w) A (pyNext (.ref it)) Q E s:=by
 erw[AI (id a) λj c h b=>?_,¬pyNext,A2e (A8f (wpAny_callSpecial?_slot (name:=Str.ofString "__next__") a.typeIs A8d (A7d A8d a.typeIs F.entry_dict_keyiterator_next ?_ (F.args_dict_keyiterator_next_1 _)))),A2e (A3c ?_),A2e ?_,A2e ?_]
 (first|refine A2e (A7h a.typeIs (A3c ?_))|refine A2e (A9f a.typeIs (A3c ?_)));refine A2e (wpAny_fieldsOf c b ?_)
 have e:Builtin.Dict_items.ownsTuple "dict_keyiterator" = o3:=A6;simp only[e,O0,A7b];erw[(_:wpAny _ _ (if(Value.ref d==Value.none)=o0 then _ else _) _ _ s),[A2f (show ¬((Value.ref d==Value.none)=o0)from F6)],A2e (A3c ?_),A2e (B1c g f ?_),[A2f B0],A2e (A3c ?_),A2e (wpAny_dictEpoch g f ?_),[A2f B0],A3c ?_];simp only[show ¬((i:Int)<0)from by lia,A7b,M9,C8 hi];erw[A2e ?_]
 (first|refine A2e (A7h a.typeIs (A3c ?_))|refine A2e (A9f a.typeIs (A3c ?_)));refine A2e (wpAny_isOneOf_keyiter a.typeIs ?_)
 erw[(_:wpAny _ _ (setField (.ref it) 1 (rawInt ((i:Int)+1)) >>= _) _ _ s),A2e (B2f c b B0 ?_),(next:(s.heap.update it (Obj.mapFields (·.setIfInBounds 1 (rawInt ((i:Int)+1))))).IsKeyIter it d (i+1) es.size ep)=(_,A0h _ c (Obj.isFreed_of_fields (B1a b _)),(Obj.cls_mapFields ..).trans h,by rw[B1a b];simp[rawInt])]
 erw[A2e (A8e ?_),A2e (wpAny_isOneOf_keyiter (s:={s with heap:=s.heap.update it (Obj.mapFields (·.setIfInBounds 1 (rawInt ((i:Int)+1))))}) next.typeIs ?_),(_:wpAny _ _ (pure es[i].key) _ _ _),A3c (A3c (_,Z,A3c (q _ next (B0f ..))))]
theorem aDD(k:A.handled=n9)(c:s.heap.IsKeyIter it d i es.size ep)(j:s.heap.get? d=n8 o)(h:o.data=.dict es ep)(hi:es.size<=i)
  (q:∀h',Heap.ExtBut it s.heap h'->Q n9 {s with heap:=h'}):wpAny (model prog w) A (pyNext (.ref it)) Q E s:=by
 erw[AI (id c) λn e l g=>?_,¬pyNext,A2e (A8f (wpAny_callSpecial?_slot (name:=Str.ofString "__next__") c.typeIs A8d (A7d A8d c.typeIs F.entry_dict_keyiterator_next ?_ (F.args_dict_keyiterator_next_1 _)))),A2e (A3c ?_),A2e ?_,A2e ?_]
 (first|refine A2e (A7h c.typeIs (A3c ?_))|refine A2e (A9f c.typeIs (A3c ?_)));refine A2e (wpAny_fieldsOf e g ?_)
 have f:Builtin.Dict_items.ownsTuple "dict_keyiterator" = o3:=A6;simp only[f,O0,A7b];erw[(_:wpAny _ _ (if(Value.ref d==Value.none)=o0 then _ else _) _ _ s),[A2f (show ¬((Value.ref d==Value.none)=o0)from F6)],A2e (A3c ?_),A2e (B1c j h ?_),[A2f B0],A2e (A3c ?_),A2e (wpAny_dictEpoch j h ?_),[A2f B0],A3c ?_];simp only[show ¬((i:Int)<0)from by lia,A7b,M9,W1 hi];erw[A2e ?_]
 (first|refine A2e (A7h c.typeIs (A3c ?_))|refine A2e (A9f c.typeIs (A3c ?_)))
 erw[(_:wpAny _ _ (setField (.ref it) 0 .none >>= _) _ _ s),A2e (B2f e g B0 ?_),(_:wpAny _ _ (newExc (.type "StopIteration") [] >>= _) _ _ _),A2e ?_];simp only[newExc,newTuple];erw[A2e (A8h ?_ (by size_fits)),A2e (m:=firstArgMember _ _) (wpAny_of_eq (a:=Value.none) (by first|rfl|(simp only[firstArgMember];rfl)) ?_),A8h ?_ (by size_fits)];simp only[raiseNew];erw[A2e (wpAny_handled ?_)];rw[show A.in1.handled=n9 from k];erw[A2e (A3c (wpAny_throw ?_)),A2e (wpAny_isInstance (T:="StopIteration") (b:=o0) (_,F4 _ Z,Z) isSubtype_stop ?_),A3c (q _ (((B0f ..).extBut.push _).push _))]
end
noncomputable def Itd(a:R_)(o:Obj)(kvs:List (List Key×V)):It :=
 (λi H=>H a=n8 (.frz o (.dT kvs))/\i<kvs.length,λi H x H'=>H'=H/\∃b k v,x=.ref b/\kvs[i]?=n8 #[k,v]/\H b=n8 (.tup (k.map kV)),λi H=>H a=n8 (.frz o (.dT kvs))/\kvs.length<=i)
theorem aBC(ok:HOk P w H h)(e:H a=n8 (.frz o (.dT kvs))) :
  h.get? a=n8 o/\∃(xs:List (List Key×Addr×Value))(b:Array DictEntry)(c:Nat),KT H kvs xs/\o.data=.dict b c/\b.toList=xs.map (entryOfKey (tupleKind (Cp P w))):=by
 erw[xa3 (show BU P w H h a (.frz o (.dT kvs))from ok a _ e) λg z y d=>xea d λxs r f=>Ch f λn b c i l j k m=>?_];rw[g]at i;erw[!i,(g,xs,b,c,r,j,k)]
theorem KT.at_:∀{kvs:List (List Key×V)}{xs:List (List Key×Addr×Value)}{i:Nat}{x:List Key×Addr×Value},KT H kvs xs->xs[i]?=n8 x->∃v,kvs[i]?=n8 #[x.1,v]/\H x.2.1=n8 (.tup (x.1.map kV)):=by
 intro kvs xs i x r;induction r generalizing i with
 |nil=>intro e;simp at e
 |@cons p q g qs h t f =>
  intro e;cases i with
  |zero =>
   have e:q=x:=by simpa using e
   erw[<-e,xa2 h λa d _=>(p.2,by rw[List.getElem?_cons_zero,<-a],by erw[[-a],d])]
  |succ i =>
   erw[xea (f (i:=i) (by simpa using e)) λv b c=>(v,by simpa using b,c)]
theorem Pc{P:N_}{w:Q_}{K:O_}{tg:Expr}(a it:R_)(o:Obj)(kvs:List (List Key×V))(l:Array DictEntry)(N:Nat)(r:o.data=.dict l N)(hz:l.size=kvs.length):QU P w K tg (Itd a o kvs) [it] it (λi h=>h.IsKeyIter it a i l.size N) where
 mem:=by simp
 obj:=λi h st b f=>by
  obtain rfl:b=it:=by simpa using f
  erw[AI st λo e c d=>(o,e,λv z=>(by rw[d]at z;cases z))]
 keep:=λi h h' st k=>st.at λo e=>k it B0 o e
 item:=by
  erw[?X C G B O i m s σ H E I p st D,<-C G B,(F,hi)=D,xa (aBC I.hok F) λA L=>Dl L λxs aa Y kt j M=>?_];rw[r]at j;erw[!j,(g:i<l.size)=by lia]
  erw[xa5 (p it B0) λt u f2 x f4 y=>aCD st A r g λh' n sb=>?_,(Q:i<xs.length)=by erw[[-size_of_entries M],g]]
  erw[xea (KT.at_ kt (C7 Q)) λv R S=>?_];have U:l[i].key=.ref xs[i].2.1:=by
   have:=entry_at M i;rw[C8 g,C7 Q]at this;rw[A3h this];rfl
  erw[AI (id n) λq e c d=>(_,Z,Uw (s:={s with heap:=h'}) e c d A6 (.ref xs[i].2.1,H,(I.turned (t':=s.toks) (λb o f e=>(sb.2 b f).trans e) t u x f4 y),U,(Z,_,_,v,Z,R,S),n,λb f=>(p b f).1))]
 done:=by
  erw[?X C G B O i m s σ H E I p st D,<-C G B,(F,hi)=D,(A,_)=aBC I.hok F,xa5 (p it B0) λt u f2 x f4 y=>aDD (I.ok.hd O) st A r A3 λh' T=>(Z,I.turned (t':=s.toks) (λb o f e=>T b o f e) t u x f4 y)]
 self:=λ_ _ _ _ _ st h=>wpAny_pyIter_keyiter st h
theorem aEf{a:R_}{o:Obj}{kvs:List (List Key×V)}{g:TG}{w:TS}{D:II}{σ:St}{H:Hp}(c:Nat->St->Hp->Prop)(B:c 0 σ H)(E:∀i σ H,i<=kvs.length->c i σ H->H a=n8 (.frz o (.dT kvs)))
  (F:∀i b k v σ H,kvs[i]?=n8 #[k,v]->H b=n8 (.tup (k.map kV))->c i σ H->g (.ref b) σ H fun h r=>w {D with nx:=c (i+1),ct:=c (i+1),bk:=D.nx} h r) (C:∀σ H,c kvs.length σ H->D.nx σ H) :
  ∃W:Nat->Nat->St->Hp->Prop,(∃m,W 0 m σ H)/\∀i m σ H,W i m σ H ->
   ((Itd a o kvs).stop i H/\D.nx σ H)\/((Itd a o kvs).go i H/\∃N:St->Hp->Prop,(∀σ' d,N σ' d->∃u,u<m/\W (i+1) u σ' d)/\∀x d,(Itd a o kvs).yld i H x d->g x σ d fun h r=>w {D with nx:=N,ct:=N,bk:=D.nx} h r):=by
 erw[(λi m σ H=>m=kvs.length-i/\i<=kvs.length/\c i σ H,(kvs.length,by simp,L7 _,B),?_),?i m σ H n,xa2 n λf hi p=>?_,-n,<-f,e=E i σ H hi p,(j:i<kvs.length)]
 .erw[.inr ((e,j),c (i+1),fun σ' d z=>(_,by lia,Z,X5 j,z),?_),?x d q,xa q λf l=>Dl l λb k v s y A=>?_,-l,-q,<-f,<-s,F i b k v σ _ y A p]
 .have t:i=kvs.length:=by lia
  erw[<-t,.inl ((e,C1 _),C σ H p)]
section
variable{X:Cx}
def aFz(i j:Int):Prop:=0<j/\j<2^64
theorem Ub:OpR X (binaryOp .FloorDiv) (rI aFz λi j=>.int (i/j)):=opI λi j _ _ _ _ _ b q=>by
 erw[a=b.1,d=b.2,floordiv_int (A2b a) (by erw[[Z6 i (Z3 a)],q]) (.inl (PyProof.noPylong_of_log2 ?_)),(c:j.natAbs<2^64)=by lia]
 erw[D8 ((Nat.log2_lt A3).mpr c) A6]
end
end L2
namespace L2
open PySem PySem.W PyProof.Rows
section
variable{rk:Nat->Int}{n:Nat}
structure aAZ(n:Nat)(p:Array Nat):Prop where
sz:p.size=n
pm:p.Perm (List.range n).toArray
noncomputable def kk(rk:Nat->Int)(p:Array Nat)(i:Nat):Int:=rk (p.getD i 0)
def Up(rk:Nat->Int)(p:Array Nat)(m:Nat):Prop:=∀i j,i<=j->j<m->kk rk p i<=kk rk p j
end
end L2
namespace L2
open PySem PySem.W PySem.Spec PyProof.Rows
noncomputable def Dc:List Int->List Int->Bool
|[],[]=>o3
|[],_::_=>o0
|_::_,[]=>o3
|a::as,b::bs=>if a=b then Dc as bs else decide (a<b)
theorem Qj:∀a,Dc a a=o3
|[]=>rfl
|a::as=>by unfold Dc;rw[A2h rfl];exact Qj as
theorem MT:∀{a b c:I_},Dc a c=o0->Dc a b=o0\/Dc b c=o0
|[],[],_,h=>.inr h
|[],_::_,_,_=>.inl Z
|_::_,_,[],h=>by cases h
|a::as,[],c::cs,_=>.inr Z
|a::as,b::bs,c::cs,h=>by
 unfold Dc at h⊢;erw[(e:a=c)]
 .subst e;rw[A2h rfl]at h;erw[(d:a=b)]
  .erw[<-d,[A2h rfl,A2h rfl],MT h]
  .rw[A2f d,A2f (λz=>d z.symm)];rcases Int.lt_or_gt_of_ne d with z|z
   .erw[.inl (A2g z)]
   .erw[.inr (A2g z)]
 .rw[A2f e]at h;erw[(d:a=b)]
  .erw[<-d,[A2f e],.inr (A2g (A4f h))]
  .erw[[A2f d],(z:a<b)]
   .erw[.inl (A2g z)]
   .erw[(f:b=c)]
    .lia
    .erw[[A2f f],.inr (A2g A3)]
theorem Ut:∀{a b:I_},Dc a b=o3->Dc b a=o3->a=b
|[],[],_,_=>rfl
|[],_::_,h,_=>by cases h
|_::_,[],_,h=>by cases h
|a::as,b::bs,h,h'=>by
 unfold Dc at h h';erw[(c:a=b)]
 .subst c;rw[A2h rfl]at h h';rw[Ut h h']
 .rw[A2f c]at h;rw[A2f (λz=>c z.symm)]at h';have:=B2d h;have:=B2d h';lia
theorem aBU(h:Dc a b=o0):Dc b a=o3:=by
 cases e:Dc b a with
 |false=>rfl
 |true =>
  rcases MT (b:=b) (show Dc a b=o0 from h)with z|z
  ·
   have:Dc a a=o0\/Dc a a=o3:=by cases Dc a a<;>simp
   erw[absurd (lexI_two h e) B0]
  .rw[Qj]at z;cases z
where lexI_two:∀{a b:I_},Dc a b=o0->Dc b a=o0->o3=o0
|[],[],h,_=>h
|[],_::_,_,h=>h
|_::_,[],h,_=>h
|a::as,b::bs,h,h'=>by
 unfold Dc at h h';erw[(c:a=b)]
 .subst c;rw[A2h rfl]at h h';erw[lexI_two h h']
 .rw[A2f c]at h;rw[A2f (λz=>c z.symm)]at h';have:=A4f h;have:=A4f h';lia
noncomputable def TM(rows:List (List Int))(i:Nat):Int:=((rows.countP λr=>Dc r (rows.getD i []):Nat):Int)
theorem Ry{α:Type}{p q:α->Bool}:∀{l:List α}{x:α},x∈l->(∀y,p y=o0->q y=o0)->p x=o3->q x=o0->l.countP p<l.countP q
|y::l,x,a,h,hp,hq=>by
 erw[[K7,K7],(le:l.countP p<=l.countP q)=List.countP_mono_left λz _=>h z];rcases C4.mp a with rfl|a
 .rw[hp,hq];simp only[O0,A7b,B0c];erw[Nat.lt_succ_of_le le]
 .have:=Ry a h hp hq;erw[(b:p y=o0)]
  .erw[[b,h y b],Nat.add_lt_add_right this _]
  .rw[A2f b];split<;>lia
theorem aCF{rows:List (List Int)}{i j:Nat}(hi:i<rows.length):decide (TM rows i<TM rows j)=Dc (rows.getD i []) (rows.getD j []):=by
 have d:rows.getD i []∈rows:=by
  erw[[D9,C7 hi],P2 hi]
 unfold TM;generalize rows.getD i []=a at *
 generalize rows.getD j []=b;cases h:Dc a b with
 |true =>
  erw[A2g ?_];have:=Ry (p:=λr=>Dc r a) (q:=λr=>Dc r b) d (λy c=>?_) (Qj a) h
  .lia
  .rcases MT (b:=b) c with z|z
   .erw[z]
   .rw[aBU h]at z;cases z
 |false =>
  erw[A3a ?_];have:=List.countP_mono_left (l:=rows) (p:=λr=>Dc r b) (q:=λr=>Dc r a) λy _ c=>?_
  .lia
  .rcases MT (b:=a) c with z|z
   .erw[z]
   .rw[h]at z;cases z
section
variable{prog:N_}{w:Q_}{A:Around}{E:B_}
theorem WU:∀{xs ys:I_}{us vs:F_}{i:Nat},AT (xs.map V.int) us->AT (ys.map V.int) vs->Q (Dc xs ys) s->KatLex prog w A b (decide (xs.length<ys.length)) Q (us.zip vs) i s
|[],[],_,_,i,.nil,.nil,q=>q
|[],y::ys,_,_,i,.nil,.cons _ _,q=>by
 erw[(_:Q (decide (0<ys.length+1)) s),[A2g (Nat.succ_pos _)],q]
|x::xs,[],_,_,i,.cons _ _,.nil,q=>by
 erw[(_:Q (decide (xs.length+1<0)) s),[A3a (O1 _)],q]
|x::xs,y::ys,u::us,v::vs,i,.cons r1 t1,.cons r2 t2,q=>by
 erw[(t,rfl)=(show ∃t,u=.int x t from r1)]
 erw[(t',rfl)=(show ∃t,v=.int y t from r2)]
 erw[wpAny_eqBool_int ?_];unfold Dc at q;erw[(e:x=y)]
 .subst e;rw[A2h rfl]at q;simp only[B0h,B0c];rw[show decide ((x::xs).length<(x::ys).length)=decide (xs.length<ys.length) by simp];exact(WU (b:=b) (i:=i+1) t1 t2 q)
 .rw[A2f e]at q;have a:(x==y)=o3:=by simpa using e
  simp only[a,O0,A7b];cases b && i==0 with
  |true=>erw[oneLt_int q]
  |false =>
   erw[kat_one _ _ (wpAny_lt_int q)]
end
section
variable{X:Cx}
theorem We{H:Hp}{h:T_}(ok:HOk X.prog X.w H h){items:List (Addr×List Int)}(l:∀q∈items,H q.1=n8 (.tup (q.2.map V.int))/\q.2≠[]){i:Nat}(hi:i<items.length) :
  ∃(b:R_)(o:Obj)(us:F_)(m:Nat),(items.map λq=>Value.ref q.1).getD i Value.none=.ref b/\h.get? b=n8 o/\o.cls=.type "tuple" /\ o.data=.seq us.toArray m/\AT (((items.map (·.2)).getD i []).map V.int) us:=by
 erw[k=P2 hi,(j,p)=l _ k,JC (show BU X.prog X.w H h _ (.tup _)from ok _ _ j) λ_ a r f=>AI f λo e c g=>xe g λn d=>(_,o,a,n,?_,e,c,d,?_)]
 .rw[D9,C3,C7 hi];rfl
 .erw[[D9,C3,C7 hi],r]
theorem Rw(ok:HOk X.prog X.w H h):∀{items:List (Addr×List Int)},(∀q∈items,H q.1=n8 (.tup (q.2.map V.int))/\q.2≠[])->∃fs:List Value,KatTups h (items.map λq=>Value.ref q.1) fs/\fs.length=items.length/\∀v∈fs,∃x t,v=.int x t
|[],_=>([],.nil,Z,λv a=>nomatch a)
|q::items,hq=>by
 erw[AI (Rw ok λs b=>hq s (D6 _ b)) λfs j k l=>?_,(e,ne)=hq q (D5 ..),JC (show BU X.prog X.w H h _ (.tup _)from ok _ _ e) λ_ p r f=>AI f λo i c g=>xe g λn d=>?_]
 match m:q.2,ne with
 |x::xs,_ =>
  rw[m]at r;cases r with
  |@cons _ u _ us y z =>
   erw[(t,rfl)=(show ∃t,u=.int x t from y)]
   erw[(.int x t::fs,.cons i c d B0 j,by rw[F2,F2,k],λv a=>?_)];rcases C4.mp a with rfl|a
   .exact(x,t,Z)
   .erw[l v a]
end
end L2
namespace L2
open PySem PySem.W PySem.Spec PyProof.Rows
def aEi(tl:TE):TI:=fun σ H R=>tl σ H λx H1=>∃a kvs,x=.ref a/\Rd H1 a (.dT kvs)/\∀o H2,H2 a=n8 (.frz o (.dT kvs))->(∀b u,H1 b=n8 u->b≠a->H2 b=n8 u)->R (Itd a o kvs) H2
theorem Pz(P:PE X l N):PI X T l (aEi N):=by
 erw[?g s σ H R I h,thn (P g s σ H _ I h) λv d ⟨x,C,k,S,Q⟩=>AK Q λa kvs e f q=>?_,<-e,!S];rcases f with f|⟨o,f⟩
 .erw[CW (show BU X.prog X.w C d.heap a (.dT kvs)from k.hok a _ f) λz y xs r j=>Ch j λo m t i A p B M=>?_,(G:m.size=kvs.length)=by rw[size_of_entries B,<-A3e r]]
  erw[(D:Inv X g σ (upd C a (.frz o (.dT kvs))) d)=SV (t':=d.toks) k (by erw[[f],True.intro]) (Z,λ_ _=>Z) (o,i) (i,z,y,xs,KT.keeps r λc ys L=>(by erw[[Aq (AC L f (λz=>nomatch z))],L]),o,m,t,i,A,p,B,M),TQ y i A p (d.heap.objs.size,[d.heap.objs.size],_,_,_,Z,D.kept (t':=d.toks) λb o e=>C6 _ e,Pc a _ o kvs m t p G,(_,F4 _ Z,Z,Z),λb F=>?_,q o _ Af λb u e n=>by erw[[Aq n],e])];obtain rfl:b=d.heap.objs.size:=by simpa using F
  erw[D.fpOk (C1 _) (D.hok.fresh (C1 _))]
 .erw[xa3 (show BU X.prog X.w C d.heap a (.frz o (.dT kvs))from k.hok a _ f) λi z y j=>xea j λxs r K=>Ch K λU m t E A p B M=>?_,O=A3h (i.symm.trans E),<-O,(G:m.size=kvs.length)=by rw[size_of_entries B,<-A3e r]]
  erw[TQ y i A p (d.heap.objs.size,[d.heap.objs.size],_,_,_,Z,k.kept (t':=d.toks) λb o e=>C6 _ e,Pc a _ o kvs m t p G,(_,F4 _ Z,Z,Z),λb F=>?_,q o _ f λb u e n=>e)];obtain rfl:b=d.heap.objs.size:=by simpa using F
  erw[k.fpOk (C1 _) (k.hok.fresh (C1 _))]
theorem QS(d:R_)(i:(d==sysModules)=o3):Meets (Builtin.«dict.__len__» {pos:=[Value.ref d]}) λ_ R s=>∃o a f,s.heap.get? d=n8 o/\o.data=Data.dict a f/\R (Except.ok (Flow.ret (Value.int (a.size:Int) s.toks))) {s with toks:=s.toks+1}:=by
 intro prog w A R s c;refine Dl c λo a f j b h=>?_;show wpAny (model prog w) A.in1 (do
  let n <-dictSize d;let m <-Builtin.Dict.pendingCount d
  retInt (↑n+↑m)) _ _ s
 erw[A2e (A2e (B1c j b (A3c (A2e (wpAny_pendingCount_other i (A6a (wpAny_ret_mkInt (Q:=λv g=>R (Except.ok (Flow.ret v)) g) ?_) (λfin g ⟨v,e,q⟩=>by erw[<-e,q]) (λ_ _ x=>x))))))),(_:R (Except.ok (Flow.ret (Value.int ((a.size:Int)+((0:Nat):Int)) s.toks))) _)];rw[show((a.size:Int)+((0:Nat):Int))=(a.size:Int) by lia];erw[h]
section
variable{X:Cx}
theorem Zw:FJ X (.builtin "len") (λxs H Q=>∃a kvs,xs=[V.ref a]/\Rd H a (.dT kvs)/\Q (.int kvs.length) H):=by
 erw[?g s σ H xs us Q I r h,AK h λa kvs c m q=>?_,-h,<-c,xea (QY r) λu b v=>?_,<-b,!v,CW (Ou I.hok m) λz y xs d e=>Ch e λo f i j x k l A=>?_];have p:f.size=kvs.length:=by
  have:=A4e List.length l;rw[C0,F1]at this;rw[this,A3e d]
 rw[sizeLine_eq]at z;erw[call_len_meets (n:=(kvs.length:Int)) e.typeIs F.slot_dict_len F.entry_dict_len (F.args_dict_len_1 _) (QS a y) A3 A3 (λw t=>(o,f,i,j,k,?_)) (.int kvs.length,H,I.tok _,(_,Z),q),[p],t]
theorem aCA{K:O_}{c l:Expr}(h:X.K=K)(b:PE X l a):PI X c l (aDx K a):=h▸BH b
end
end L2
namespace L2
open PySem PySem.W PySem.Spec PyProof.Rows
def LN:Sp:=λvs H Q _=>∃(t:R_)(x y:Int)(r:I_),vs=[.ref t]/\H t=n8 (.tup ((x::y::r).map V.int))/\∀u,H u=n9->Q (.ref u) (upd H u (.tup [.int y,.int x]))
structure It3 where
a:Addr
x:Int
y:Int
r:List Int
noncomputable def It3.ns(q:It3):List Int:=q.x::q.y::q.r
section
variable{X:Cx}{n7:A_}{σ:St}{H H':Hp}{s:P_}{k:Nat}{f b:R_}{fd:E_}{ps:K_}
theorem Ed.stay(fp:Ed X n7 H b)(a:H' b=n9):Ed X n7 H' b:=(a,fp.2)
theorem Ed.turn(fp:Ed X n7 H b)(I:Inv X n7 σ H s)(kp:∀c o,c≠b->s.heap.get? c=n8 o->h'.get? c=n8 o):Inv X n7 σ H {s with heap:=h',toks:=t'} :=
 I.turned kp fp.1 fp.2.1 fp.2.2.2.1 fp.2.2.2.2.1 fp.2.2.2.2.2
theorem Ed.nost(fp:Ed X n7 H b)(I:Inv X n7 σ H s):b∉frs X.stack:=λz=>by
 rcases C4.mp (I.stkSub b z)with y|y
 .erw[fp.2.1 y]
 .erw[fp.2.2.1 y]
theorem WY{m:Around}{P:PySem.Fin->Shared->Prop}{E:B_}(I:Inv X n7 σ H s){a g:R_}{h c:Nat}{ks out:M_}{st:SortSt}(r:Ed X n7 H a)(q:Ed X n7 H g)(j:g≠a)(v:s.heap.get? g=n8 (seqObj "list" ks c))(t:s.heap.get? a=n8 (seqObj "list" #[] h))(l:(arrOf st).map (·.2)=out)(u:failedOf st=n9)(x:out.size<=sizeLine)(y:ks.size<=sizeLine)
  (fin:∀(h':T_)(p:Nat),Inv X n7 σ H {s with heap:=h'}->h'.get? a=n8 (seqObj "list" out p)->P (.done (.ret .none)) {s with heap:=h'}):wpAny (model X.prog X.w) m (ksk_tail a o3 h (.ref g) st) P E s:=by
 erw[¬ksk_tail,(n:Inv X n7 σ H {s with heap:=s.heap.update g (Obj.mapSeq λ_=>#[])})=q.turn (t':=s.toks) I λb o i e=>by erw[[Q9 _ _ _ _ i],e]]
 have d:(s.heap.update g (Obj.mapSeq λ_=>#[])).get? a=n8 (seqObj "list" #[] h):=by erw[[Q9 _ _ _ _ (A3f j)],t]
 erw[A2e (listUpdate_at v Z (A2e (wpAny_letGo (A2e (seqEpoch_at d Z (A2e (listUpdate_at d Z ?_ (hsz2:=?_))))))) (hsz:=y))]
 .rw[u];simp only[bne_self_eq_false,O0,A7b];erw[[l],A3c (fin _ _ (r.turn (s:={s with heap:=s.heap.update g (Obj.mapSeq λ_=>#[])}) (t':=s.toks) n λb o i e=>by erw[[Q9 _ _ _ _ i],e]) (get?_update_seq d _))]
 .simp only[O0,A7b];erw[[l],V6 x]
end
theorem aEU{k:Nat}{tc:TT}{fin:List V->Hp->Prop}(d:Nat->List V->Hp->Prop)(z:d 0 [] H)(B:∀i c H,i<=kvs.length->d i c H->H a=n8 (.frz r (.dT kvs)))
  (C:∀i b kk v c H,kvs[i]?=n8 #[kk,v]->H b=n8 (.tup (kk.map kV))->d i c H->Bt k cs g tc s σ (.ref b) c H (d (i+1))) (A:∀c H,d kvs.length c H->fin c H):Ft k cs g tc s (Itd a r kvs) σ H fin:=by
 erw[(λi m c H=>m=kvs.length-i/\i<=kvs.length/\d i c H,(kvs.length,by simp,L7 _,z),?_),?i m c H l,xa2 l λf hi p=>?_,-l,<-f,q=B i c H hi p,(h:i<kvs.length)]
 .erw[.inr ((q,h),d (i+1),λo t D=>(kvs.length-(i+1),by lia,Z,h,D),λx t y=>?_),xa y λf j=>Dl j λb kk v n u w=>?_,-j,-y,<-f,<-n,C i b kk v c _ u w p]
 .have e:i=kvs.length:=by lia
  erw[<-e,.inl ((q,C1 _),A c H p)]
end L2
namespace PyProof.Rows
open PySem
theorem DL{P:Prop}(h:∀G:Prop,(P->G)->G):P:=h P id
noncomputable def MW:Bool->Keyed->Array Keyed->Nat->Nat->Nat->StateT SortSt Sem (Option Nat):=sortPriv% PySem.Builtin.gallop
section
variable{prog:N_}{w:Q_}{A:Around}{E:B_}{s:P_}
noncomputable def aGX(left:Bool)(key:Keyed)(arr:Array Keyed)(n6 i:Nat):StateT SortSt Sem (Option Bool):=elem' arr (n6+i) >>= λx=>if left=o0 then lt' x key else lt' key x >>= λr=>pure (r.map λb=>!b)
def aDP(prog:N_)(w:Q_)(A:Around)(E:B_)(s:P_)(left:Bool)(key:Keyed)(st:SortSt)(x:Keyed)(b:Bool):Prop :=
 (left=o0->∀Q:Option Bool->SortSt->Prop,Q (n8 b) st->wpS (model prog w) A E s (lt' x key) Q st)/\(left=o3->∀Q:Option Bool->SortSt->Prop,Q (n8 (!b)) st->wpS (model prog w) A E s (lt' key x) Q st)
theorem Qw{left:Bool}{b:Keyed}{arr:Array Keyed}{a n i:Nat}{st:SortSt}{B:Nat->Bool}{Q:Option Bool->SortSt->Prop}(g:a+n<=arr.size)(f:∀i x,i<n->arr[a+i]?=n8 x->aDP prog w A E s left b st x (B i))(hi:i<n)(h:Q (n8 (B i)) st):wpS (model prog w) A E s (aGX left b arr a i) Q st:=by
 erw[¬aGX,(c:a+i<arr.size)=by omega]
 erw[A3b ?_,[elem'_eq,C8 c],A3d ?_,(d,e)=f i arr[a+i] hi (C8 c)];cases left with
 |true =>
  erw[[A2h rfl],d Z _ h]
 |false =>
  erw[[A2f B0],A3b (e Z _ (A3d ?_)),(_:Q (n8 (!!B i)) st),[Bool.not_not],h]
theorem aEM{γ:Type}{f:Nat->(Option γ×Nat×Nat)->StateT SortSt Sem (ForInStep (Option γ×Nat×Nat))}{m n:Nat}{C:Nat->Bool}{st:SortSt}(t:m<=n+1)
  (p:∀x l o i,(m<=o->i (.done #[n9,l,o]) st)->(o<m->C o=o0->i (.yield #[n9,o,2*o+1]) st)->(o<m->C o=o3->i (.done #[n9,l,o]) st)->wpS (model prog w) A E s (f x #[n9,l,o]) i st) :
  wpS (model prog w) A E s (forIn [0:n] #[n9,0,1] f) (λr a=>a=st/\∃l o,r=#[n9,l,o]/\l<o/\(l=0\/(l<m/\C l=o0))/\(m<=o\/C o=o3)) st:=by
 erw[A5e (I:=λx r a=>a=st/\∃l o,r=#[n9,l,o]/\x<o/\l<o/\(l=0\/(l<m/\C l=o0))) ?_ ?_ (Z,0,1,Z,by omega,by omega,.inl Z)]
 .erw[?x c a _ _ g,DH g λd l o e q b=>xa b λk j=>?_,-b,-g,<-d,<-e,p x l o _ (λz=>?_) (λz y=>?_) (λz y=>?_)]
  .exact(Z,l,o,Z,k,j,.inl z)
  .exact(Z,o,2*o+1,Z,by omega,by omega,.inr (z,y))
  .exact(Z,l,o,Z,k,j,.inr y)
 .erw[?c a h,DH h λd l o e q b=>xa b λk j=>?_,-b,-h,<-d,<-e,(Z,l,o,Z,k,j,.inl B2)]
theorem aAx{γ:Type}{f:Nat->(Option γ×Nat×Nat)->StateT SortSt Sem (ForInStep (Option γ×Nat×Nat))}{n lo hi:Nat}{B:Nat->Bool}{st:SortSt}(u:hi<=n)(D:lo<=hi)(mono:∀i j,i<=j->j<n->B j=o0->B i=o0)(v:∀i,i<lo->B i=o0)(C:∀i,hi<=i->i<n->B i=o3)
  (F:∀x l h p,(h<=l->p (.done #[n9,l,h]) st)->(l<h->h<=n->B (l+(h-l)/2)=o0->p (.yield #[n9,l+(h-l)/2+1,h]) st)->(l<h->h<=n->B (l+(h-l)/2)=o3->p (.yield #[n9,l,l+(h-l)/2]) st)->(l<h->h<=n)->wpS (model prog w) A E s (f x #[n9,l,h]) p st) :
  wpS (model prog w) A E s (forIn [0:n] #[n9,lo,hi] f) (λr a=>a=st/\∃l h,r=#[n9,l,h]/\h<=n/\(∀i,i<h->B i=o0)/\(∀i,h<=i->i<n->B i=o3)) st:=by
 erw[A5e (I:=λx r a=>a=st/\∃l h,r=#[n9,l,h]/\l<=h/\h-l<=n-x/\h<=n/\(∀i,i<l->B i=o0)/\(∀i,h<=i->i<n->B i=o3)) ?_ ?_ (Z,lo,hi,Z,D,by omega,u,v,C)]
 .erw[?x c a _ K m,DH m λd l h g G b=>xa3 b λH k q t=>?_,-b,-m,<-d,<-g,F x l h _ (λz=>?_) (λz _ y=>?_) (λz _ y=>?_) (λ_=>k)]
  .exact(Z,l,h,Z,k,λi hi=>q i B2,t)
  .exact(Z,_,h,Z,by omega,by omega,k,λi hi=>mono i _ B2 B2 y,t)
  .erw[(Z,l,_,Z,by omega,by omega,by omega,q,λi hi u=>?_)];cases e:B i with
   |false=>rfl
   |true=>rw[mono _ i hi u e]at y;cases y
 .erw[?c a o,DH o λd l h g G b=>xa3 b λH k q t=>?_,-b,-o,<-d,<-g,(Z,l,h,Z,k,λi hi=>q i B2,t)]
theorem Rs{left:Bool}{H:Keyed}{arr:Array Keyed}{f n a:Nat}{st:SortSt}{B:Nat->Bool}{Q:Option Nat->SortSt->Prop}(G:f+n<=arr.size)(V:a<n)(D:∀i x,i<n->arr[f+i]?=n8 x->aDP prog w A E s left H st x (B i))(mono:∀i j,i<=j->j<n->B j=o0->B i=o0)(k:∀h,h<=n->(∀i,i<h->B i=o0)->(∀i,h<=i->i<n->B i=o3)->Q (n8 h) st):wpS (model prog w) A E s (MW left H arr f n a) Q st:=by
 have g:∀i j,i<=j->j<n->B i=o3->B j=o3:=λi j W X z=>by
  cases e:B j with
  |false=>rfl
  |true=>rw[mono i j W X e]at z;cases z
 erw[A3b (Qw (i:=a) G D V ?_)];dsimp only;cases U:B a with
 |true =>
  erw[[A2h rfl],A3b (A6d (aEM (m:=n-a) (C:=λo=>B (a+o)) B2 ?_) ?_)]
  .intro x l o N q t u;dsimp only;erw[(z:o ≥ n-a)]
   .erw[[A2h z],A3d (q z)]
   erw[[A2f z],A3b (Qw (i:=a+o) G D B2 ?_)];dsimp only;cases e:B (a+o)with
   |true=>erw[A3d (t B2 e)]
   |false=>erw[A3d (u B2 e)]
  .erw[?r v I,DH I λc l o d lo b=>xa b λF P=>?_,-b,-I,<-c,<-d];dsimp only;erw[A3b (A6d (aAx (lo:=a+l+1) (hi:=a+min o (n-a)) B2 ?_ mono ?_ ?_ ?_) ?_)]
   .rcases F with z|z<;>omega
   .intro i hi;rcases F with z|z
    .erw[mono i a B2 V U]
    .erw[mono i (a+l) B2 B2 z.2]
   .intro i hi p;rcases P with z|z
    .omega
    .erw[(y:n-a<=o)]
     .omega
     .erw[g (a+o) i B2 p z]
   .intro x l h N q t u T;dsimp only;erw[(z:l ≥ h)]
    .erw[[A2h z],A3d (q z)]
    rw[A2f z];have:=T B2;erw[A3b (Qw (i:=l+(h-l)/2) G D B2 ?_)];dsimp only;cases e:B (l+(h-l)/2)with
    |true=>erw[A3d (t B2 this e)]
    |false=>erw[A3d (u B2 this e)]
   .erw[?r v K,DH K λc Y h d p b=>xa b λR S=>?_,-b,-K,<-c,<-d,A3d (k h p R S)]
 |false =>
  erw[[A2f B0],A3b (A6d (aEM (m:=a+1) (C:=λo=>!B (a-o)) B2 ?_) ?_)]
  .intro x l o N q t u;dsimp only;erw[(z:o ≥ a+1)]
   .erw[[A2h z],A3d (q z)]
   erw[[A2f z],A3b (Qw (i:=a-o) G D B2 ?_)];dsimp only;cases e:B (a-o)with
   |true=>erw[A3d (u B2 (by rw[e];rfl))]
   |false=>erw[A3d (t B2 (by rw[e];rfl))]
  .erw[?r v L,DH L λc l o d lo b=>xa b λF P=>?_,-b,-L,<-c,<-d];dsimp only;have O:B (a-l)=o3:=by
    rcases F with z|z
    .erw[[z],U]
    .simpa using z.2
   erw[A3b (A6d (aAx (lo:=a+1-min o (a+1)) (hi:=a-l) B2 ?_ mono ?_ ?_ ?_) ?_)]
   .rcases F with z|z<;>omega
   .intro i hi;rcases P with z|z
    .omega
    .erw[(y:a+1<=o)]
     .omega
     .have z:B (a-o)=o0:=by simpa using z
      erw[mono i (a-o) B2 B2 z]
   .erw[?i hi p,g (a-l) i hi p O]
   .intro x l h N q t u T;dsimp only;erw[(z:l ≥ h)]
    .erw[[A2h z],A3d (q z)]
    rw[A2f z];have:=T B2;erw[A3b (Qw (i:=l+(h-l)/2) G D B2 ?_)];dsimp only;cases e:B (l+(h-l)/2)with
    |true=>erw[A3d (t B2 this e)]
    |false=>erw[A3d (u B2 this e)]
   .erw[?r v M,DH M λc Y h d p b=>xa b λR S=>?_,-b,-M,<-c,<-d,A3d (k h p R S)]
end
end PyProof.Rows
namespace PyProof.Rows
open PySem
def SoA(rk:Keyed->Nat)(a:Array Keyed):Prop:=∀(i j:Nat)(x y:Keyed),i<=j->a[i]?=n8 x->a[j]?=n8 y->rk x<=rk y
structure MI(rk:Keyed->Nat)(a b out:Array Keyed)(ia ib:Nat):Prop where
pm:out.toList.Perm (a.toList.take ia++b.toList.take ib)
so:out.toList.Pairwise (λx y=>rk x<=rk y)
ba:∀o∈out.toList,∀i x,ia<=i->a[i]?=n8 x->rk o<=rk x
bb:∀o∈out.toList,∀i x,ib<=i->b[i]?=n8 x->rk o<=rk x
section
variable{rk:Keyed->Nat}{a b out:Array Keyed}{ia ib:Nat}
theorem MI.nil:MI rk a b #[] 0 0:=(by simp,by simp,λo h=>by simp at h,λo h=>by simp at h)
theorem Ra{a:Array Keyed}{i:Nat}{x:Keyed}(h:a[i]?=n8 x):a.toList.take (i+1)=a.toList.take i++[x]:=by
 rw[F9,M8,h];rfl
theorem MI.pushA{x:Keyed}(h:MI rk a b out ia ib)(k:SoA rk a)(e:a[ia]?=n8 x)(le:∀j y,ib<=j->b[j]?=n8 y->rk x<=rk y):MI rk a b (out.push x) (ia+1) ib:=by
 have f:∀o,o∈(out.push x).toList->o∈out.toList\/o=x:=λo c=>by
  rw[N3,J9,C5]at c;erw[c]
 erw[(?_,?_,λo c i y hi d=>?_,λo c i y hi d=>?_)]
 .erw[[N3,Ra e,O3],(h.pm.append_right _).trans ?_,[O3],List.Perm.append_left _ List.perm_append_comm]
 .erw[[N3,W7],(h.so,by simp,λo c y g=>?_),[C5.mp g],h.ba o c ia x (C1 _) e]
 .rcases f o c with z|rfl
  .erw[h.ba o z i y A3 d]
  .erw[k ia i _ y A3 e d]
 .rcases f o c with z|rfl
  .erw[h.bb o z i y hi d]
  .erw[le i y hi d]
theorem MI.pushB{x:Keyed}(h:MI rk a b out ia ib)(k:SoA rk b)(e:b[ib]?=n8 x)(le:∀j y,ia<=j->a[j]?=n8 y->rk x<=rk y):MI rk a b (out.push x) ia (ib+1):=by
 have f:∀o,o∈(out.push x).toList->o∈out.toList\/o=x:=λo c=>by
  rw[N3,J9,C5]at c;erw[c]
 erw[(?_,?_,λo c i y hi d=>?_,λo c i y hi d=>?_)]
 .erw[[N3,Ra e,-O3],h.pm.append_right _]
 .erw[[N3,W7],(h.so,by simp,λo c y g=>?_),[C5.mp g],h.bb o c ib x (C1 _) e]
 .rcases f o c with z|rfl
  .erw[h.ba o z i y hi d]
  .erw[le i y hi d]
 .rcases f o c with z|rfl
  .erw[h.bb o z i y A3 d]
  .erw[k ib i _ y A3 e d]
theorem UB{a:Array Keyed}{i k:Nat}(h:i+k<a.size):a.extract i (i+(k+1))=(a.extract i (i+k)).push a[i+k]:=by
 apply Array.toList_inj.mp;rw[N3,U4,U4];simp only[List.extract,K2];rw[F9];congr 1;rw[A1h,M8,C8 h];rfl
theorem MI.addA(d:SoA rk a)(h:MI rk a b out ia ib):∀{k:Nat},ia+k<=a.size->(∀i x,ia<=i->i<ia+k->a[i]?=n8 x->∀j y,ib<=j->b[j]?=n8 y->rk x<=rk y)->MI rk a b (out++a.extract ia (ia+k)) (ia+k) ib
|0,_,_=>by rw[A2a,T6 A3,S0];exact h
|k+1,hk,le=>by
 have c:ia+k<a.size:=T9 hk;have:=(MI.addA d h (k:=k) (M0 c) (λi x e f=>le i x e A3)).pushA d (C8 c) (le _ _ (F5 _ _) (P1 _) (C8 c));erw[[UB c,X8],this]
theorem MI.addB(d:SoA rk b)(h:MI rk a b out ia ib):∀{k:Nat},ib+k<=b.size->(∀i x,ib<=i->i<ib+k->b[i]?=n8 x->∀j y,ia<=j->a[j]?=n8 y->rk x<=rk y)->MI rk a b (out++b.extract ib (ib+k)) ia (ib+k)
|0,_,_=>by rw[A2a,T6 A3,S0];exact h
|k+1,hk,le=>by
 have c:ib+k<b.size:=T9 hk;have:=(MI.addB d h (k:=k) (M0 c) (λi x e f=>le i x e A3)).pushB d (C8 c) (le _ _ (F5 _ _) (P1 _) (C8 c));erw[[UB c,X8],this]
structure Mgd(rk:Keyed->Nat)(a b out:Array Keyed):Prop where
pm:out.toList.Perm (a.toList++b.toList)
so:out.toList.Pairwise (λx y=>rk x<=rk y)
theorem MI.whole(h:MI rk a b out a.size b.size):Mgd rk a b out:=by
 erw[(?_,h.so)];have:=h.pm;rw[show a.size=a.toList.length from F1.symm,show b.size=b.toList.length from F1.symm,J7,J7]at this;erw[this]
theorem MI.doneA(g:SoA rk a)(h:MI rk a b out ia b.size)(l:ia<=a.size):Mgd rk a b (out++a.extract ia a.size++b.extract b.size b.size):=by
 have d:=MI.addA g h (k:=a.size-ia) A3 λi x _ _ _ j y f c=>by
  rw[W1 f]at c;cases c
 rw[show ia+(a.size-ia)=a.size by lia]at d;have e:b.extract b.size b.size=#[]:=by simp
 erw[[e,S0],d.whole]
theorem MI.doneB(g:SoA rk b)(h:MI rk a b out a.size ib)(l:ib<=b.size):Mgd rk a b (out++a.extract a.size a.size++b.extract ib b.size):=by
 have e:a.extract a.size a.size=#[]:=by simp
 rw[e,S0];have d:=MI.addB g h (k:=b.size-ib) A3 λi x _ _ _ j y f c=>by
  rw[W1 f]at c;cases c
 rw[show ib+(b.size-ib)=b.size by lia]at d;erw[d.whole]
theorem MI.lastA(g:SoA rk a)(l:SoA rk b)(h:MI rk a b out ia ib)(m:ia<=a.size)(n:ib<=b.size)(le:∀i x,ib<=i->b[i]?=n8 x->∀j y,ia<=j->a[j]?=n8 y->rk x<=rk y):Mgd rk a b (out++b.extract ib b.size++a.extract ia a.size):=by
 erw[c=MI.addB l h (k:=b.size-ib) A3 λi x c _=>le i x c];rw[show ib+(b.size-ib)=b.size by lia]at c;have e:=MI.addA g c (k:=a.size-ia) A3 λi x _ _ _ j y f d=>by
  rw[W1 f]at d;cases d
 rw[show ia+(a.size-ia)=a.size by lia]at e;erw[e.whole]
end
end PyProof.Rows
namespace PyProof.Rows
open PySem
section
variable{prog:N_}{w:Q_}{A:Around}{E:B_}{s:P_}{rk:Keyed->Nat}{S:Keyed->Prop}{κ:SortKind}
def Nh(prog:N_)(w:Q_)(A:Around)(E:B_)(s:P_)(rk:Keyed->Nat)(S:Keyed->Prop)(κ:SortKind):Prop:=∀x y st (Q:Option Bool->SortSt->Prop),S x->S y->kindOf st=κ->Q (n8 (decide (rk x<rk y))) st->wpS (model prog w) A E s (lt' x y) Q st
def EV(st st':SortSt):Prop:=∃g,st'=SortSt.mk' (kindOf st) (arrOf st) (pendingOf st) g (failedOf st)
theorem EV.refl(st:SortSt):EV st st:=(gallopOf st,Z)
theorem EV.kind{st a:SortSt}(h:EV st a):kindOf a=kindOf st:=by
 erw[(g,rfl)=h];rfl
theorem GY{arr:Array Keyed}{i:Nat}{x:Keyed}{st:SortSt}{Q:Keyed->SortSt->Prop}(e:arr[i]?=n8 x)(h:Q x st):wpS (model prog w) A E s (elem' arr i) Q st:=by
 erw[[elem'_eq,e],A3d h]
theorem NU{b:Keyed}{arr:Array Keyed}{a n c:Nat}{st:SortSt}{Q:Option Nat->SortSt->Prop}(u:Nh prog w A E s rk S κ)(t:kindOf st=κ)(l:S b)(g:∀(i:Nat) x,a<=i->i<a+n->arr[i]?=n8 x->S x)(D:∀(i j:Nat) x y,a<=i->i<=j->j<a+n->arr[i]?=n8 x->arr[j]?=n8 y->rk x<=rk y)(C:a+n<=arr.size)(r:c<n)
  (k:∀h,h<=n->(∀(i:Nat) x,a<=i->i<a+h->arr[i]?=n8 x->rk x<=rk b)->(∀(i:Nat) x,a+h<=i->i<a+n->arr[i]?=n8 x->rk b<rk x)->Q (n8 h) st):wpS (model prog w) A E s (MW o3 b arr a n c) Q st:=by
 erw[Rs (B:=λi=>(arr[a+i]?).any λx=>!decide (rk b<rk x)) C r (λi x hi e=>?_) (λi j G H z=>?_) λh v o p=>?_]
 .erw[((λz=>by cases z),λ_ F q=>u _ _ _ _ l (g _ x B2 B2 e) t ?_)];have:(n8 (decide (rk b<rk x)))=n8 (!((arr[a+i]?).any λx=>!decide (rk b<rk x))):=by rw[e];simp
  erw[[this],q]
 .erw[(d:arr[a+i]?=n8 arr[a+i])=C8 B2,(f:arr[a+j]?=n8 arr[a+j])=C8 B2];have:=D _ _ _ _ B2 (by omega:a+i<=a+j) B2 d f;simp only[d,f,Option.any_some,Bool.not_eq_true',decide_eq_false_iff_not]at z⊢;omega
 .erw[k h v (λi x m b2 e=>?_) (λi x m b2 e=>?_)]
  .have:=o (i-a) B2;rw[show a+(i-a)=i by omega,e]at this;simp only[Option.any_some,Bool.not_eq_true',decide_eq_false_iff_not]at this;omega
  .have:=p (i-a) B2 B2;rw[show a+(i-a)=i by omega,e]at this
   simpa using this
theorem Qn{b:Keyed}{arr:Array Keyed}{a n c:Nat}{st:SortSt}{Q:Option Nat->SortSt->Prop}(u:Nh prog w A E s rk S κ)(t:kindOf st=κ)(l:S b)(g:∀(i:Nat) x,a<=i->i<a+n->arr[i]?=n8 x->S x)(D:∀(i j:Nat) x y,a<=i->i<=j->j<a+n->arr[i]?=n8 x->arr[j]?=n8 y->rk x<=rk y)(C:a+n<=arr.size)(r:c<n)
  (k:∀h,h<=n->(∀(i:Nat) x,a<=i->i<a+h->arr[i]?=n8 x->rk x<rk b)->(∀(i:Nat) x,a+h<=i->i<a+n->arr[i]?=n8 x->rk b<=rk x)->Q (n8 h) st):wpS (model prog w) A E s (MW o0 b arr a n c) Q st:=by
 erw[Rs (B:=λi=>(arr[a+i]?).any λx=>decide (rk x<rk b)) C r (λi x hi e=>?_) (λi j G H z=>?_) λh v o p=>?_]
 .erw[(λ_ F q=>u _ _ _ _ (g _ x B2 B2 e) l t ?_,λz=>by cases z)];have:(n8 (decide (rk x<rk b)))=n8 ((arr[a+i]?).any λx=>decide (rk x<rk b)):=by rw[e];simp
  erw[[this],q]
 .erw[(d:arr[a+i]?=n8 arr[a+i])=C8 B2,(f:arr[a+j]?=n8 arr[a+j])=C8 B2];have:=D _ _ _ _ B2 (by omega:a+i<=a+j) B2 d f;simp only[d,f,Option.any_some,A9d]at z⊢;omega
 .erw[k h v (λi x m b2 e=>?_) (λi x m b2 e=>?_)]
  .have:=o (i-a) B2;rw[show a+(i-a)=i by omega,e]at this
   simpa using this
  .have:=p (i-a) B2 B2;rw[show a+(i-a)=i by omega,e]at this
   simpa using this
end
end PyProof.Rows
namespace PyProof.Rows
open PySem
noncomputable def aBb:Array Keyed->Array Keyed->StateT SortSt Sem (Array Keyed):=sortPriv% PySem.Builtin.mergeLo
structure Lv(rk:Keyed->Nat)(a b out:Array Keyed)(ia ib:Nat):Prop where
mi:MI rk a b out ia ib
la:ia+1<a.size
lb:ib<b.size
section
variable{prog:N_}{w:Q_}{A:Around}{E:B_}{s:P_}{rk:Keyed->Nat}{S:Keyed->Prop}{κ:SortKind}
theorem wpI{M:Model}{α:Type}{c:Prop}[Decidable c]{p q:StateT SortSt Sem α}{Q:α->SortSt->Prop}{st:SortSt}(a:c->wpS M A E s p Q st)(b:¬c->wpS M A E s q Q st):wpS M A E s (if c then p else q) Q st:=by
 erw[(h:c)]
 .erw[[A2h h],a h]
 .erw[[A2f h],b h]
theorem wpE{M:Model}{α:Type}{x y:Nat}{p q:StateT SortSt Sem α}{Q:α->SortSt->Prop}{st:SortSt}(a:x=y->wpS M A E s p Q st)(b:x≠y->wpS M A E s q Q st):wpS M A E s (if(x==y)=o0 then p else q) Q st:=wpI (λz=>a (eq_of_beq z)) λz=>b λe=>z (beq_iff_eq.mpr e)
theorem wpJ{M:Model}{α β:Type}{c:Prop}[Decidable c]{a:Unit->β->StateT SortSt Sem α}{x y:β}{Q:α->SortSt->Prop}{st:SortSt}(h:∀m,wpS M A E s (a () m) Q st):wpS M A E s (if c then a () x else a () y) Q st:=wpI (λ_=>h x) λ_=>h y
theorem wpC{M:Model}{α:Type}{m:StateT SortSt Sem α}{Q:α->SortSt->Prop}{st:SortSt}(P:(α->SortSt->Prop)->SortSt->Prop)(h:P Q st)(k:P Q st->wpS M A E s m Q st):wpS M A E s m Q st:=k h
theorem wpR{M:Model}{α:Type}{m:StateT SortSt Sem α}{Q:α->SortSt->Prop}{st:SortSt}(F:(α->SortSt->Prop)->Prop)(h:F Q)(k:∀R,F R->wpS M A E s m R st):wpS M A E s m Q st:=k Q h
section
variable{α:Type}{Q:α->SortSt->Prop}{st:SortSt}
theorem bE{arr:Array Keyed}{i:Nat}{x:Keyed}{f:Keyed->StateT SortSt Sem α}(e:arr[i]?=n8 x)(h:wpS (model prog w) A E s (f x) Q st):wpS (model prog w) A E s (elem' arr i >>= f) Q st:=A3b (GY e h)
theorem bL(d:Nh prog w A E s rk S κ)(a:S x)(b:S y)(c:kindOf st=κ)(h:wpS (model prog w) A E s (f (n8 (decide (rk x<rk y)))) Q st):wpS (model prog w) A E s (lt' x y >>= f) Q st:=A3b (d _ _ _ _ a b c h)
theorem bM(h:wpS (model prog w) A E s (f ⟨⟩) Q (g st)):wpS (model prog w) A E s (modify g >>= f) Q st:=A3b (A7c h)
theorem bR{a n c:Nat}(m:Nh prog w A E s rk S κ)(l:kindOf st=κ)(e:S b)(d:∀(i:Nat) x,a<=i->i<a+n->arr[i]?=n8 x->S x)(p:∀(i j:Nat) x y,a<=i->i<=j->j<a+n->arr[i]?=n8 x->arr[j]?=n8 y->rk x<=rk y)(o:a+n<=arr.size)(g:c<n)
 (k:∀h,h<=n->(∀(i:Nat) x,a<=i->i<a+h->arr[i]?=n8 x->rk x<=rk b)->(∀(i:Nat) x,a+h<=i->i<a+n->arr[i]?=n8 x->rk b<rk x)->wpS (model prog w) A E s (f (n8 h)) Q st):wpS (model prog w) A E s (MW o3 b arr a n c >>= f) Q st:=A3b (NU m l e d p o g k)
theorem bG{a n c:Nat}(m:Nh prog w A E s rk S κ)(l:kindOf st=κ)(e:S b)(d:∀(i:Nat) x,a<=i->i<a+n->arr[i]?=n8 x->S x)(p:∀(i j:Nat) x y,a<=i->i<=j->j<a+n->arr[i]?=n8 x->arr[j]?=n8 y->rk x<=rk y)(o:a+n<=arr.size)(g:c<n)
 (k:∀h,h<=n->(∀(i:Nat) x,a<=i->i<a+h->arr[i]?=n8 x->rk x<rk b)->(∀(i:Nat) x,a+h<=i->i<a+n->arr[i]?=n8 x->rk b<=rk x)->wpS (model prog w) A E s (f (n8 h)) Q st):wpS (model prog w) A E s (MW o0 b arr a n c >>= f) Q st:=A3b (Qn m l e d p o g k)
end
theorem VD{a b:Array Keyed}{st:SortSt}{Q:Array Keyed->SortSt->Prop}(hl:Nh prog w A E s rk S κ)(hk:kindOf st=κ)(na:1<=a.size)(nb:1<=b.size)(Sa:∀(i:Nat) x,a[i]?=n8 x->S x)(Sb:∀(i:Nat) x,b[i]?=n8 x->S x)(U:SoA rk a)(sb:SoA rk b)(first:∀x y,b[0]?=n8 x->a[0]?=n8 y->rk x<=rk y)(last:∀(i:Nat) x y,b[i]?=n8 x->a[a.size-1]?=n8 y->rk x<=rk y)(k:∀out n,Mgd rk a b out->EV st n->Q out n):wpS (model prog w) A E s (aBb a b) Q st:=by
 have al:∀{i:Nat},i<a.size->∃x,a[i]?=n8 x:=λ{i} h=>(_,C8 h)
 have am:∀{i:Nat},i<b.size->∃x,b[i]?=n8 x:=λ{i} h=>(_,C8 h)
 have N:∀{ia:Nat},ia+1=a.size->∀{ib:Nat}(i:Nat) x,ib<=i->b[i]?=n8 x->∀(j:Nat) y,ia<=j->a[j]?=n8 y->rk x<=rk y:=λ{ia} e {ib} i x _ ex j y hj T=>by
  erw[jl=(N1.mp T).1];have:j=a.size-1:=by omega
  erw[<-this,last i x y ex T]
 erw[A3b (wpS_lift (A9b (Z,?_)))];apply DL;erw[?G d,(x0,e0)=am nb];apply d;erw[-d G,bE e0 ?_];have m0:MI rk a b #[x0] 0 1:=by
  have:=MI.pushB (MI.nil (rk:=rk) (a:=a) (b:=b)) sb e0 λj y _ T=>by
   apply DL;erw[?G d,(y0,f0)=al na];apply d;erw[-d G,C9 (first _ _ e0 f0) (U 0 j _ _ (L7 _) f0 T)]
  erw[this]
 erw[wpE (λz1=>?_) λz1=>?_]
 .erw[A3d (k _ _ ?_ (EV.refl st))];rw[z1]at m0;have:=m0.doneA U (L7 _);rw[<-z1]at this⊢;erw[this]
 erw[wpE (λz2=>?_) λz2=>?_]
 .erw[A3d (k _ _ (m0.lastA U sb (L7 _) nb (N z2)) (EV.refl st))]
 have z1:1<b.size:=by lia
 have z2:0+1<a.size:=by lia
 erw[A3b (B1b ?_),A3b (A6d (A5e (I:=λx r n=>EV st n/\∃out ia ib g,r=#[n9,out,ia,ib,g]/\Lv rk a b out ia ib/\x<=ia+ib) (Q:=λr n=>EV st n/\∃o t,r=#[n8 o,t]/\Mgd rk a b o) ?_ ?_ (EV.refl st,_,_,_,_,Z,(m0,z2,z1),L7 _)) ?_)]
 .rintro x c af _ hx P;apply DL;erw[?G d,xa P λsy u=>xe4 u λout ia ib g C=>xa2 C λaa lv le=>?_,-u C,-P,<-aa];apply d;erw[-d G,(a8:kindOf af=κ)=by rw[sy.kind,hk]]
  erw[A3b (A6d (A5e (I:=λx r n=>n=af/\∃B D F ac bc,r=#[n9,B,D,F,ac,bc]/\Lv rk a b B D F/\ia+ib+x<=D+F) (Q:=λr n=>n=af/\((∃o t,r=#[n8 o,t]/\Mgd rk a b o)\/∃B D F ac bc,r=#[n9,B,D,F,ac,bc]/\Lv rk a b B D F/\ia+ib+1<=D+F)) ?_ ?_ (Z,out,ia,ib,0,0,Z,lv,C1 _)) ?_)]
  .rintro x' c' a6 _ bb P;apply DL;erw[?G d,xa P λan u=>xe5 u λB D F ac bc C=>xa2 C λab X a1=>?_,-u C,-P,<-an,<-ab];apply d;clear d G;apply DL;erw[?G d,(ad,au,av)=X,(y,T)=am av,(z,ez)=al (Nat.lt_of_succ_lt au)];apply d;erw[-d G,bE T (bE ez (bL hl (Sb _ _ T) (Sa _ _ ez) a8 ?_)),(lt:rk y<rk z)]
   .rw[A2g lt];have mi:=ad.pushB sb T λj y' hj M=>by
     have:=U _ _ _ _ hj ez M;lia
    erw[wpI (λ_=>bE T ((wpE (λq=>A3d (Z,.inl (_,_,Z,?_))) λq=>?_))) λh=>absurd Z h]
    .rw[q]at mi⊢;erw[mi.doneA U A3]
    have K:Lv rk a b (B.push y) D (F+1):=(mi,au,by lia)
    erw[wpI (λ_=>A3d (Z,.inr (_,_,_,_,_,Z,K,by lia))) λ_=>A3d (Z,_,_,_,_,_,Z,K,by lia)]
   .rw[A3a lt];have mi:=ad.pushA U ez λj y' hj M=>by
     have:=sb _ _ _ _ hj T M;lia
    erw[wpI (λh=>nomatch h) λ_=>bE ez ((wpE (λq=>A3d (Z,.inl (_,_,Z,mi.lastA U sb (M0 au) (M0 av) (N q)))) λq=>?_)),(K:Lv rk a b (B.push z) (D+1) F)=(mi,by lia,av)]
    erw[wpI (λ_=>A3d (Z,.inr (_,_,_,_,_,Z,K,by lia))) λ_=>A3d (Z,_,_,_,_,_,Z,K,by lia)]
  .rintro c' a6 L;apply DL;erw[?G d,xa L λan u=>xe5 u λB D F ac bc C=>xa2 C λab X a1=>?_,-u C,-L,<-an,<-ab];apply d;clear d G;have:=X.la;have:=X.lb;lia
  rintro r a6 ⟨rfl,z_|z_⟩
  .apply DL;erw[?G d,BM z_ λo t ao mg=>?_,-z_,<-ao,d (A3d (sy,_,_,Z,mg))]
  apply DL;erw[?G d,xe5 z_ λB D F ac bc u=>xa2 u λaa X a1=>?_,-u,-z_,<-aa];apply d;erw[-d G,A3b (wpS_lift (A9b (Z,?_))),A3b (A6d (A5e (I:=λx r n=>EV st n/\∃H v f g2 V W,r=#[n9,H,v,f,g2,V,W]/\Lv rk a b H v f/\D+F+x<=v+f) (Q:=λr n=>EV st n/\((∃o t,r=#[n8 o,t]/\Mgd rk a b o)\/∃H v f g2 V W,r=#[n9,H,v,f,g2,V,W]/\Lv rk a b H v f/\D+F<=v+f)) ?_ ?_ (sy,B,D,F,_,_,_,Z,X,C1 _)) ?_)]
  .rintro x2 c2 Y _ bd P;apply DL;erw[?G d,xa P λag u=>xe5 u λH v f g2 V C=>AI C λW aq K a2=>?_,-u C,-P,<-aq];apply d;clear d G;dsimp -zeta only
   extract_lets s1 out3 s2 ia3 s3 ib3 s4 m3 s5 ac3 bc3 ib4 jp m4
   erw[wpR (λR=>(∀o t n,Mgd rk a b o->EV st n->R (.done #[n8 o,t]) n)/\∀o i j g p q n,Lv rk a b o i j->D+F+(x2+1)<=i+j->EV st n->R (.done #[n9,o,i,j,g,p,q]) n/\R (.yield #[n9,o,i,j,g,p,q]) n) (λo t n m s=>(s,.inl (_,_,Z,m)),λo i j g p q n l e s=>((s,.inr (_,_,_,_,_,_,Z,l,by lia)),s,_,_,_,_,_,_,Z,l,e)) λR ⟨Rd,Rn⟩=>?_,wpJ λm=>?_];have O:EV st (SortSt.mk' (kindOf Y) (arrOf Y) (pendingOf Y) m (failedOf Y)):=by
    apply DL;erw[?G d,(gg,rfl)=ag];apply d;erw[-d G,(_,Z)]
   erw[a0=O.kind.trans hk];apply DL;erw[?G d,(ad,a9,aw)=K,(y,T)=am aw];apply d;erw[-d G,bM (bE T (bR hl a0 (Sb _ _ T) (λi x _ _ e=>Sa i x e) (λi j x y _ h _=>U i j x y h) A3 A3 λkk ba h1 h2=>?_))];dsimp -zeta only
   extract_lets ac4 jp2 out4 ia4
   erw[(h2:∀(i:Nat) x,v+kk<=i->a[i]?=n8 x->rk y<rk x)=λi x hi ex=>h2 i x hi (by have:=(N1.mp ex).1;lia) ex,wpC (λQ st=>∀o i,MI rk a b o i f->i+1<a.size->v<=i->(∀(i':Nat) x,i<=i'->a[i']?=n8 x->rk y<rk x)->wpS (model prog w) A E s (jp2 () o i) Q st) (λo i ae li be gt=>?_) λax=>?_]
   .erw[ah=ae.pushB sb T λj y' hj M=>M0 (gt j y' hj M),bE T ((wpE (λq3=>A3d (Rd _ _ _ ?_ O)) λq3=>?_))]
    .have q3:f+1=b.size:=q3;show Mgd rk a b (o.push y++a.extract i a.size++b.extract (f+1) b.size);rw[q3]at ah⊢;erw[ah.doneA U A3]
    erw[q3=q3,(z,ez)=al (i:=i) A3,bE ez (bG hl a0 (Sa _ _ ez) (λi x _ _ e=>Sb i x e) (λi j x y _ h _=>sb i j x y h) (by show f+1+(b.size-(f+1))<=b.size;lia) (by show 0<b.size-(f+1);lia) λk2 az h3 h4=>?_)];dsimp -zeta only
    extract_lets bc4 ia5 jp3 out5 ib5
    erw[az=az,(h4:∀(j:Nat) x,f+1+k2<=j->b[j]?=n8 x->rk z<=rk x)=λj x hj ex=>h4 j x hj (by have:=(N1.mp ex).1;show j<f+1+(b.size-(f+1));lia) ex,wpC (λQ st=>∀o j,MI rk a b o i j->f+1<=j->j<b.size->(∀(j':Nat) x,j<=j'->b[j']?=n8 x->rk z<=rk x)->wpS (model prog w) A E s (jp3 () o j) Q st) (λo j ai lj a3 ge=>?_) λay=>?_]
    .erw[a5=ai.pushA U ez ge,bE ez ((wpE (λq5=>A3d (Rd _ _ _ (a5.lastA U sb (M0 li) (M0 a3) (N q5)) O)) λq5=>?_)),(a4:Lv rk a b _ (i+1) j)=(a5,by lia,a3)]
     erw[wpI (λ_=>A3d (Rn _ _ _ _ _ _ _ a4 A3 O).1) λ_=>A3d (Rn _ _ _ _ _ _ _ a4 A3 O).2]
    .clear_value jp3
     erw[wpI (λzk=>?_) λzk=>?_]
     .erw[ai=MI.addB sb ah (k:=k2) A3 λi x ar as ex j y' hj M=>C9 (M0 (h3 i x ar as ex)) (U _ _ _ _ hj ez M),wpE (λq4=>A3d (Rd _ _ _ ?_ O)) λq4=>ay _ _ ai (F5 _ _) (by erw[q4=q4];lia) h4,(q4:f+1+k2=b.size)=q4,(_:Mgd rk a b (o.push y++b.extract (f+1) (f+1+k2)++a.extract i a.size++b.extract (f+1+k2) b.size)),ak=ai];rw[q4]at ak⊢;erw[ak.doneA U A3]
     .have zk:k2=0:=by lia
      erw[<-zk,ay _ _ ah (C1 _) A3 h4]
   .clear_value jp2
    erw[wpI (λzk=>?_) λzk=>?_]
    .erw[ae=MI.addA U ad (k:=kk) A3 λi x ar as ex j y' hj M=>C9 (h1 i x ar as ex) (sb _ _ _ _ hj T M),wpE (λq1=>A3d (Rd _ _ _ (ae.lastA U sb A3 (M0 aw) (N q1)) O)) λq1=>wpE (λq2=>A3d (Rd _ _ _ ?_ O)) λq2=>ax _ _ ae (by erw[q1=q1,q2=q2];lia) (F5 _ _) h2,(q2:v+kk=a.size)=q2,(_:Mgd rk a b (H++a.extract v (v+kk)++a.extract (v+kk) a.size++b.extract f b.size)),aj=ae];rw[q2]at aj⊢;erw[aj.doneB sb (M0 aw)]
    .have zk:kk=0:=by lia
     erw[<-zk,ax _ _ ad a9 (C1 _) h2]
  .rintro c2 Y L;apply DL;erw[?G d,xa L λag u=>xe5 u λH v f g2 V C=>AI C λW aq K a2=>?_,-u C,-L,<-aq];apply d;clear d G;have:=K.la;have:=K.lb;lia
  rintro r Y ⟨ag,z_|z_⟩
  .apply DL;erw[?G d,BM z_ λo t ao mg=>?_,-z_,<-ao,d (A3d (ag,_,_,Z,mg))]
  apply DL;erw[?G d,xe5 z_ λH v f g2 V u=>AI u λW ab K a2=>?_,-u,-z_,<-ab];apply d;erw[-d G,A3b (A7c (A3d ?_)),(?_,_,_,_,_,Z,K,by show x+1<=v+f;lia)];apply DL;erw[?G d,(gg,rfl)=ag];apply d;erw[-d G,(_,Z)]
 .rintro c af L;apply DL;erw[?G d,xa L λsy u=>xe4 u λout ia ib g C=>xa2 C λaa lv le=>?_,-u C,-L,<-aa];apply d;clear d G;have:=lv.la;have:=lv.lb;lia
 .rintro r af L;apply DL;erw[?G d,Od L λsy o t a7 mg=>?_,-L,<-a7];apply d;erw[-d G,A3d (k _ _ mg sy)]
end
end PyProof.Rows
namespace PyProof.Rows
open PySem
structure MH(rk:Keyed->Nat)(a b out:Array Keyed)(na nb:Nat):Prop where
pm:out.toList.Perm (a.toList.drop na++b.toList.drop nb)
so:out.toList.Pairwise (λx y=>rk y<=rk x)
ba:∀o∈out.toList,∀i x,i<na->a[i]?=n8 x->rk x<=rk o
bb:∀o∈out.toList,∀i x,i<nb->b[i]?=n8 x->rk x<=rk o
section
variable{rk:Keyed->Nat}{a b out:Array Keyed}{na nb:Nat}
theorem MH.nil:MH rk a b #[] a.size b.size:=by
 erw[(?_,by simp,λo h=>by simp at h,λo h=>by simp at h)];rw[show a.size=a.toList.length from F1.symm,show b.size=b.toList.length from F1.symm,List.drop_length,List.drop_length];erw[B0e _]
theorem NX{a:Array Keyed}{i:Nat}{x:Keyed}(h:a[i]?=n8 x):a.toList.drop i=x::a.toList.drop (i+1):=by
 erw[(c,e)=N1.mp h,[S3 (by erw[[F1],c]),S5,e]]
theorem MH.pushA{x:Keyed}(h:MH rk a b out (na+1) nb)(k:SoA rk a)(e:a[na]?=n8 x)(le:∀j y,j<nb->b[j]?=n8 y->rk y<=rk x):MH rk a b (out.push x) na nb:=by
 have f:∀o,o∈(out.push x).toList->o∈out.toList\/o=x:=λo c=>by
  rw[N3,J9,C5]at c;erw[c]
 erw[(?_,?_,λo c i y hi d=>?_,λo c i y hi d=>?_)]
 .rw[N3,NX e,W4];exact List.perm_append_singleton x _ |>.trans (h.pm.cons x)
 .erw[[N3,W7],(h.so,by simp,λo c y g=>?_),[C5.mp g],h.ba o c na x (P1 _) e]
 .rcases f o c with z|rfl
  .erw[h.ba o z i y A3 d]
  .erw[k i na y _ (M0 hi) d e]
 .rcases f o c with z|rfl
  .erw[h.bb o z i y hi d]
  .erw[le i y hi d]
theorem MH.pushB{x:Keyed}(h:MH rk a b out na (nb+1))(k:SoA rk b)(e:b[nb]?=n8 x)(le:∀j y,j<na->a[j]?=n8 y->rk y<=rk x):MH rk a b (out.push x) na nb:=by
 have f:∀o,o∈(out.push x).toList->o∈out.toList\/o=x:=λo c=>by
  rw[N3,J9,C5]at c;erw[c]
 erw[(?_,?_,λo c i y hi d=>?_,λo c i y hi d=>?_)]
 .erw[[N3,NX e],(List.perm_append_singleton x _).trans ((h.pm.cons x).trans List.perm_middle.symm)]
 .erw[[N3,W7],(h.so,by simp,λo c y g=>?_),[C5.mp g],h.bb o c nb x (P1 _) e]
 .rcases f o c with z|rfl
  .erw[h.ba o z i y hi d]
  .erw[le i y hi d]
 .rcases f o c with z|rfl
  .erw[h.bb o z i y A3 d]
  .erw[k i nb y _ (M0 hi) d e]
theorem UA{a:Array Keyed}{i j:Nat}{x:Keyed}(h:a[i]?=n8 x)(c:i<j):(a.extract i j).reverse=(a.extract (i+1) j).reverse.push x:=by
 apply Array.toList_inj.mp;rw[N3,W9,W9,U4,U4];simp only[List.extract];rw[NX h,show j-i=(j-(i+1))+1 by lia,List.take_succ_cons,List.reverse_cons]
theorem MH.addA(d:SoA rk a){n:Nat}(h:MH rk a b out n nb)(l:n<=a.size):∀{k t:Nat},t+k=n->(∀i x,t<=i->i<n->a[i]?=n8 x->∀j y,j<nb->b[j]?=n8 y->rk y<=rk x)->MH rk a b (out++(a.extract t n).reverse) t nb
|0,t,e,_=>by
 have:t=n:=e;erw[<-this,[T6 A3,Array.reverse_empty,S0],h]
|k+1,t,e,le=>by
 have g:t<a.size:=by lia
 erw[c=C8 g];have:=(MH.addA d h l (k:=k) (t:=t+1) A3 (λi x m f=>le i x A3 f)).pushA d c (le t _ (C1 _) A3 c);erw[[UA c A3,X8],this]
theorem MH.addB(d:SoA rk b){n:Nat}(h:MH rk a b out na n)(l:n<=b.size):∀{k t:Nat},t+k=n->(∀i x,t<=i->i<n->b[i]?=n8 x->∀j y,j<na->a[j]?=n8 y->rk y<=rk x)->MH rk a b (out++(b.extract t n).reverse) na t
|0,t,e,_=>by
 have:t=n:=e;erw[<-this,[T6 A3,Array.reverse_empty,S0],h]
|k+1,t,e,le=>by
 have g:t<b.size:=by lia
 erw[c=C8 g];have:=(MH.addB d h l (k:=k) (t:=t+1) A3 (λi x m f=>le i x A3 f)).pushB d c (le t _ (C1 _) A3 c);erw[[UA c A3,X8],this]
theorem MH.whole(h:MH rk a b out 0 0):Mgd rk a b out.reverse:=by
 erw[(?_,?_)]
 .erw[[W9],(List.reverse_perm _).trans h.pm]
 .erw[[W9,List.pairwise_reverse],h.so]
theorem MH.doneA(g:SoA rk a)(h:MH rk a b out na 0)(f:na<=a.size):Mgd rk a b (a.extract 0 na++b.extract 0 0++out.reverse):=by
 erw[c=(MH.addA g h f (k:=na) (t:=0) A3 λi x _ _ _ j y d=>absurd d A3).whole,(e:b.extract 0 0=#[])=by simp]
 rw[e,S0];rw[Y4,W2]at c;erw[c]
theorem MH.doneB(g:SoA rk b)(h:MH rk a b out 0 nb)(f:nb<=b.size):Mgd rk a b (a.extract 0 0++b.extract 0 nb++out.reverse):=by
 erw[c=(MH.addB g h f (k:=nb) (t:=0) A3 λi x _ _ _ j y d=>absurd d A3).whole,(e:a.extract 0 0=#[])=by simp]
 rw[e,Array.empty_append];rw[Y4,W2]at c;erw[c]
theorem MH.firstB(l:SoA rk a)(m:SoA rk b)(h:MH rk a b out na nb)(e:na<=a.size)(f:nb<=b.size)(le:∀i x,i<na->a[i]?=n8 x->∀j y,j<nb->b[j]?=n8 y->rk y<=rk x):Mgd rk a b (b.extract 0 nb++a.extract 0 na++out.reverse):=by
 erw[d=MH.addA l h e (k:=na) (t:=0) A3 λi x _ c=>le i x c,c=(MH.addB m d f (k:=nb) (t:=0) A3 λi x _ _ _ j y g=>absurd g A3).whole];rw[Y4,Y4,W2,W2,<-Array.append_assoc]at c;erw[c]
end
end PyProof.Rows
namespace PyProof.Rows
open PySem
noncomputable def aBa:Array Keyed->Array Keyed->StateT SortSt Sem (Array Keyed):=sortPriv% PySem.Builtin.mergeHi
structure LvH(rk:Keyed->Nat)(a b out:Array Keyed)(na nb:Nat):Prop where
mh:MH rk a b out na nb
la:1<=na
ka:na<=a.size
lb:2<=nb
kb:nb<=b.size
section
variable{prog:N_}{w:Q_}{A:Around}{E:B_}{s:P_}{rk:Keyed->Nat}{S:Keyed->Prop}{κ:SortKind}
theorem VE{st:SortSt}(hl:Nh prog w A E s rk S κ)(hk:kindOf st=κ)(na:1<=a.size)(nb:1<=b.size)(Sa:∀(i:Nat) x,a[i]?=n8 x->S x)(Sb:∀(i:Nat) x,b[i]?=n8 x->S x)(Y:SoA rk a)(V:SoA rk b)(first:∀x y,b[0]?=n8 x->a[0]?=n8 y->rk x<=rk y)(last:∀(i:Nat) x y,b[i]?=n8 x->a[a.size-1]?=n8 y->rk x<=rk y)(k:∀out f,Mgd rk a b out->EV st f->Q out f):wpS (model prog w) A E s (aBa a b) Q st:=by
 have ah:∀{i:Nat},i<a.size->∃x,a[i]?=n8 x:=λ{i} h=>(_,C8 h)
 have aq:∀{i:Nat},i<b.size->∃x,b[i]?=n8 x:=λ{i} h=>(_,C8 h)
 apply DL;erw[?F d,(f0,ar)=ah na];apply d;clear d F;have K:∀{nb:Nat},nb=1->∀{na:Nat}(i:Nat) x,i<na->a[i]?=n8 x->∀(j:Nat) y,j<nb->b[j]?=n8 y->rk y<=rk x:=λ{nb} e {na} i x _ ex j y hj T=>by
  have:j=0:=by lia
  erw[<-this,C9 (first _ _ T ar) (Y 0 i _ _ (L7 _) ar ex)]
 erw[A3b (wpS_lift (A9b (Z,?_))),(x0,e0)=ah (i:=a.size-1) A3,A3b (GY e0 ?_)];have m0:MH rk a b #[x0] (a.size-1) b.size:=by
  have:=MH.pushA (na:=a.size-1) (show MH rk a b #[] (a.size-1+1) b.size by erw[[V0 na],MH.nil]) Y e0 λj y _ T=>last j y x0 T e0;erw[this]
 erw[wpE (λz1=>A3d (k _ _ ?_ (EV.refl st))) λz1=>wpE (λz2=>A3d (k _ _ (m0.firstB Y V A3 (C1 _) (K z2)) (EV.refl st))) λz2=>?_]
 .rw[z1]at m0⊢;erw[m0.doneB V (C1 _)]
 erw[A3b (B1b ?_),A3b (A6d (A5e (I:=λx r f=>EV st f/\∃na nb out g,r=#[n9,na,nb,out,g]/\LvH rk a b out na nb/\na+nb+x<=a.size+b.size) (Q:=λr f=>EV st f/\∃o t,r=#[n8 o,t]/\Mgd rk a b o) ?_ ?_ (EV.refl st,_,_,_,_,Z,(m0,by lia,R8 _ _,by lia,C1 _),by lia)) ?_)]
 .rintro x c af _ hx P;apply DL;erw[?F d,xa P λsy n=>xe4 n λaj nb1 out g D=>xa2 D λab lv le=>?_,-n D,-P,<-ab];apply d;erw[-d F,(a6:kindOf af=κ)=by rw[sy.kind,hk]]
  erw[A3b (A6d (A5e (I:=λx r f=>f=af/\∃u v B ac bc,r=#[n9,u,v,B,ac,bc]/\LvH rk a b B u v/\u+v+x<=aj+nb1) (Q:=λr f=>f=af/\((∃o t,r=#[n8 o,t]/\Mgd rk a b o)\/∃u v B ac bc,r=#[n9,u,v,B,ac,bc]/\LvH rk a b B u v/\u+v+1<=aj+nb1)) ?_ ?_ (Z,aj,nb1,out,0,0,Z,lv,C1 _)) ?_)]
  .rintro x' c' a2 _ bf P;apply DL;erw[?F d,xa P λak n=>xe5 n λu v B ac bc D=>xa2 D λad N az=>?_,-n D,-P,<-ak,<-ad];apply d;clear d F;apply DL;erw[?F d,(mh,ay,a9,bd,ax)=N];apply d;erw[-d F,(y,T)=aq (i:=v-1) A3,(z,ez)=ah (i:=u-1) A3,A3b (GY T (A3b (GY ez (A3b (hl _ _ _ _ (Sb _ _ T) (Sa _ _ ez) a6 ?_))))),(lt:rk y<rk z)]
   .rw[A2g lt];have mi:=(show MH rk a b B (u-1+1) v by rw[V0 ay];exact mh).pushA Y ez λj y' hj L=>by
     have:=V j (v-1) _ _ A3 L T;lia
    erw[wpI (λ_=>A3b (GY ez (wpE (λq=>A3d (Z,.inl (_,_,Z,?_))) λq=>?_))) λh=>absurd Z h]
    .rw[q]at mi⊢;erw[mi.doneB V ax]
    have H:LvH rk a b (B.push z) (u-1) v:=(mi,by lia,by lia,bd,ax)
    erw[wpI (λ_=>A3d (Z,.inr (_,_,_,_,_,Z,H,by lia))) λ_=>A3d (Z,_,_,_,_,_,Z,H,by lia)]
   .rw[A3a lt];have mi:=(show MH rk a b B u (v-1+1) by rw[V0 A3];exact mh).pushB V T λj y' hj L=>by
     have:=Y j (u-1) _ _ A3 L ez;lia
    erw[wpI (λh=>nomatch h) λ_=>A3b (GY T (wpE (λq=>A3d (Z,.inl (_,_,Z,mi.firstB Y V A3 A3 (K q)))) λq=>?_)),(H:LvH rk a b (B.push y) u (v-1))=(mi,ay,a9,by lia,by lia)]
    erw[wpI (λ_=>A3d (Z,.inr (_,_,_,_,_,Z,H,by lia))) λ_=>A3d (Z,_,_,_,_,_,Z,H,by lia)]
  .rintro c' a2 M;apply DL;erw[?F d,xa M λak n=>xe5 n λu v B ac bc D=>xa2 D λad N az=>?_,-n D,-M,<-ak,<-ad];apply d;clear d F;have:=N.la;have:=N.lb;have:=lv.ka;have:=lv.kb;lia
  rintro r a2 ⟨rfl,z_|z_⟩
  .apply DL;erw[?F d,BM z_ λo t al mg=>?_,-z_,<-al,d (A3d (sy,_,_,Z,mg))]
  apply DL;erw[?F d,xe5 z_ λu v B ac bc n=>xa2 n λab N az=>?_,-n,-z_,<-ab];apply d;erw[-d F,A3b (wpS_lift (A9b (Z,?_))),A3b (A6d (A5e (I:=λx r f=>EV st f/\∃C nb2 G g2 W X,r=#[n9,C,nb2,G,g2,W,X]/\LvH rk a b G C nb2/\C+nb2+x<=u+v) (Q:=λr f=>EV st f/\((∃o t,r=#[n8 o,t]/\Mgd rk a b o)\/∃C nb2 G g2 W X,r=#[n9,C,nb2,G,g2,W,X]/\LvH rk a b G C nb2/\C+nb2<=u+v)) ?_ ?_ (sy,u,v,B,_,_,_,Z,N,C1 _)) ?_)]
  .rintro x2 c2 aa _ bg P;apply DL;erw[?F d,xa P λag n=>xe5 n λC nb2 G g2 W D=>AI D λX am H a0=>?_,-n D,-P,<-am];apply d;clear d F;dsimp -zeta only
   extract_lets s1 na3 s2 nb3 s3 out3 s4 m3 s5 ac3 bc3 nb4 jp m4
   erw[wpR (λR=>(∀o t f,Mgd rk a b o->EV st f->R (.done #[n8 o,t]) f)/\∀i j o g p q f,LvH rk a b o i j->i+j+(x2+1)<=u+v->EV st f->R (.done #[n9,i,j,o,g,p,q]) f/\R (.yield #[n9,i,j,o,g,p,q]) f) (λo t f m s=>(s,.inl (_,_,Z,m)),λi j o g p q f l e s=>((s,.inr (_,_,_,_,_,_,Z,l,by lia)),s,_,_,_,_,_,_,Z,l,e)) λR ⟨Rd,Rn⟩=>?_,wpJ λm=>?_];have O:EV st (SortSt.mk' (kindOf aa) (arrOf aa) (pendingOf aa) m (failedOf aa)):=by
    apply DL;erw[?F d,(gg,rfl)=ag];apply d;erw[-d F,(_,Z)]
   erw[av=O.kind.trans hk];apply DL;erw[?F d,(mh,bb,aw,bh,ba)=H];apply d;erw[-d F,(y,T)=aq (i:=nb2-1) A3,A3b (A7c (A3b (GY T (A3b (NU hl av (Sb _ _ T) (λi x _ _ e=>Sa i x e) (λi j x y _ h _=>Y i j x y h) (by show 0+C<=a.size;lia) (by show C-1<C;lia) λt1 a7 h1 h2=>?_)))))];dsimp -zeta only
   extract_lets k4 ac4 jp2 out4 na4
   erw[(h1:∀(j:Nat) x,j<t1->a[j]?=n8 x->rk x<=rk y)=λj x hj ex=>h1 j x (L7 _) A3 ex,wpC (λQ st=>∀i o,MH rk a b o i nb2->1<=i->i<=C->(∀(j:Nat) x,j<i->a[j]?=n8 x->rk x<=rk y)->wpS (model prog w) A E s (jp2 () i o) Q st) (λi o ai li be ge=>?_) λas=>?_]
   .erw[an=(show MH rk a b _ i (nb2-1+1) by erw[[V0 A3],ai]).pushB V T λj y' hj L=>ge j y' hj L,A3b (GY T (wpE (λq3=>A3d (Rd _ _ _ (an.firstB Y V A3 (by show nb2-1<=b.size;lia) (K q3)) O)) λq3=>?_)),q3=q3,(z,ez)=ah (i:=i-1) A3,A3b (GY ez (A3b (Qn hl av (Sa _ _ ez) (λi x _ _ e=>Sb i x e) (λi j x y _ h _=>V i j x y h) (by show 0+(nb2-1)<=b.size;lia) (by show nb2-1-1<nb2-1;lia) λt2 a8 h3 h4=>?_)))];dsimp -zeta only
    extract_lets k5 bc4 na5 jp3 out5 nb5
    erw[(h3:∀(j:Nat) x,j<t2->b[j]?=n8 x->rk x<=rk z)=λj x hj ex=>M0 (h3 j x (L7 _) A3 ex),wpC (λQ st=>∀j o,MH rk a b o i j->2<=j->j<=nb2-1->(∀(j':Nat) x,j'<j->b[j']?=n8 x->rk x<=rk z)->wpS (model prog w) A E s (jp3 () j o) Q st) (λj o ae lj bi gz=>?_) λau=>?_]
    .erw[ao=(show MH rk a b _ (i-1+1) j by erw[[V0 li],ae]).pushA Y ez λj' y' hj L=>gz j' y' hj L,A3b (GY ez (wpE (λq5=>A3d (Rd _ _ _ ?_ O)) λq5=>?_))]
     .have q5:i-1=0:=q5;show Mgd rk a b (a.extract 0 (i-1)++b.extract 0 j++(o.push z).reverse);rw[q5]at ao⊢;erw[ao.doneB V A3]
     erw[q5=q5,(a1:LvH rk a b _ (i-1) j)=(ao,by lia,by lia,lj,by lia)]
     erw[wpI (λ_=>A3d (Rn _ _ _ _ _ _ _ a1 A3 O).1) λ_=>A3d (Rn _ _ _ _ _ _ _ a1 A3 O).2]
    .clear_value jp3
     erw[wpI (λU=>?_) λU=>?_]
     .erw[U=U,ae=MH.addB V an A3 (k:=nb2-1-t2) (t:=t2) A3 λi' x a4 a5 ex j y' hj L=>C9 (Y j (i-1) _ _ A3 L ez) (h4 i' x A3 (by show i'<0+(nb2-1);lia) ex),wpE (λq4=>A3d (Rd _ _ _ (ae.firstB Y V A3 (by show t2<=b.size;lia) (K q4)) O)) λq4=>wpE (λq6=>A3d (Rd _ _ _ ?_ O)) λq6=>au _ _ ae (by erw[q4=q4,q6=q6,(_:2<=t2)];lia) a8 h3,q6=q6,(_:Mgd rk a b (a.extract 0 i++b.extract 0 t2++(o.push y++(b.extract t2 (nb2-1)).reverse).reverse)),<-q6,ae.doneA Y (C9 be aw)]
     .erw[U=U,(U:t2=nb2-1)=by lia]
      erw[<-U,au _ _ an (by show 2<=nb2-1;lia) (C1 _) h3]
   .clear_value jp2
    erw[wpI (λU=>?_) λU=>?_]
    .erw[U=U,ai=MH.addA Y mh aw (k:=C-t1) (t:=t1) A3 λi x a4 a5 ex j y' hj L=>C9 (V j (nb2-1) _ _ A3 L T) (M0 (h2 i x A3 (by show i<0+C;lia) ex)),wpE (λq1=>A3d (Rd _ _ _ ?_ O)) λq1=>as _ _ ai (by erw[q1=q1,(_:1<=t1)];lia) a7 h1,q1=q1,(_:Mgd rk a b (a.extract 0 t1++b.extract 0 nb2++(G++(a.extract t1 C).reverse).reverse)),<-q1,ai.doneB V ba]
    .erw[U=U,(U:t1=C)=by lia]
     erw[<-U,as _ _ mh bb (C1 _) h1]
  .rintro c2 aa M;apply DL;erw[?F d,xa M λag n=>xe5 n λC nb2 G g2 W D=>AI D λX am H a0=>?_,-n D,-M,<-am];apply d;clear d F;have:=H.la;have:=H.lb;have:=N.ka;have:=N.kb;lia
  rintro r aa ⟨ag,z_|z_⟩
  .apply DL;erw[?F d,BM z_ λo t al mg=>?_,-z_,<-al,d (A3d (ag,_,_,Z,mg))]
  apply DL;erw[?F d,xe5 z_ λC nb2 G g2 W n=>AI n λX ad H a0=>?_,-n,-z_,<-ad];apply d;erw[-d F,A3b (A7c (A3d ?_)),(?_,_,_,_,_,Z,H,by show C+nb2+(x+1)<=a.size+b.size;lia)];apply DL;erw[?F d,(gg,rfl)=ag];apply d;erw[-d F,(_,Z)]
 .rintro c af M;apply DL;erw[?F d,xa M λsy n=>xe4 n λaj nb1 out g D=>xa2 D λab lv le=>?_,-n D,-M,<-ab];apply d;clear d F;have:=lv.la;have:=lv.lb;lia
 .rintro r af M;apply DL;erw[?F d,Od M λsy o t a3 mg=>?_,-M,<-a3];apply d;erw[-d F,A3d (k _ _ mg sy)]
end
end PyProof.Rows
namespace PyProof.Rows
open PySem
theorem WV(t:Nat):∀(l:List Keyed)(n:Nat)(arr:Array Keyed),t+n+l.length<=arr.size->((l.zipIdx n).foldl (λa (p:Keyed×Nat)=>a.setIfInBounds (t+p.2) p.1) arr).toList=arr.toList.take (t+n)++l++arr.toList.drop (t+n+l.length)
|[],n,arr,h=>by simp
|x::l,n,arr,h=>by
 rw[F2]at h;erw[[List.zipIdx_cons,U9,WV t l (n+1) _ (by rw[Array.size_setIfInBounds];lia)],(d:t+n<arr.toList.length)=by rw[F1];lia]
 rw[Array.toList_setIfInBounds,F2];have b:(arr.toList.set (t+n) x).take (t+(n+1))=arr.toList.take (t+n)++[x]:=by
  rw[show t+(n+1)=(t+n)+1 by lia,F9,List.take_set_of_le (C1 _),A0a d];rfl
 have c:(arr.toList.set (t+n) x).drop (t+(n+1)+l.length)=arr.toList.drop (t+n+(l.length+1)):=by
  rw[List.drop_set_of_lt A3];congr 1;lia
 rw[b,c];simp
theorem Zg{t:Nat}{m arr:Array Keyed}(h:t+m.size<=arr.size):(m.toList.zipIdx.foldl (λa (p:Keyed×Nat)=>a.setIfInBounds (t+p.2) p.1) arr).toList=arr.toList.take t++m.toList++arr.toList.drop (t+m.size):=by
 have:=WV t m.toList 0 arr (by erw[[F1],h]);rw[F1]at this;erw[this]
end PyProof.Rows
namespace PyProof.Rows
open PySem
def SoR(rk:Keyed->Nat)(arr:Array Keyed)(lo hi:Nat):Prop:=∀(i j:Nat)(x y:Keyed),lo<=i->i<=j->j<hi->arr[i]?=n8 x->arr[j]?=n8 y->rk x<=rk y
structure Mgr(rk:Keyed->Nat)(arr arr':Array Keyed)(lo hi:Nat):Prop where
pm:arr'.toList.Perm arr.toList
out:∀i:Nat,i<lo\/hi<=i->arr'[i]?=arr[i]?
so:SoR rk arr' lo hi
section
variable{prog:N_}{w:Q_}{A:Around}{E:B_}{s:P_}{rk:Keyed->Nat}{S:Keyed->Prop}{κ:SortKind}
theorem SoR.ext{lo hi:Nat}(h:SoR rk arr lo hi)(c:hi<=arr.size):SoA rk (arr.extract lo hi):=λi j x y d b a=>by
 erw[jl=(N1.mp a).1];rw[V2]at jl;rw[W0]at b a;rw[A2h A3]at b a;erw[h (lo+i) (lo+j) x y (F5 _ _) A3 A3 b a]
theorem SoR.join{lo mid hi:Nat}(k:SoR rk arr lo mid)(l:SoR rk arr mid hi)(h:∀(i j:Nat) x y,lo<=i->i<mid->mid<=j->j<hi->arr[i]?=n8 x->arr[j]?=n8 y->rk x<=rk y):SoR rk arr lo hi:=λi j x y g e f c d=>by
 erw[(a:j<mid)]
 .erw[k i j x y g e a c d]
 .erw[(b:i<mid)]
  .erw[h i j x y g b (M4 a) f c d]
  .erw[l i j x y (M4 b) e f c d]
theorem Mgr.same{lo hi:Nat}(h:SoR rk arr lo hi):Mgr rk arr arr lo hi:=(B0e _,λ_ _=>Z,h)
theorem aCe{t:Nat}{m arr arr':Array Keyed}(h:t+m.size<=arr.size)(e:arr'.toList=arr.toList.take t++m.toList++arr.toList.drop (t+m.size))(i:Nat):arr'[i]?=if t<=i/\i<t+m.size then m[i-t]? else arr[i]?:=by
 erw[[-M8,e],(c:(arr.toList.take t).length=t)=by rw[J8,F1];lia]
 have d:(arr.toList.take t++m.toList).length=t+m.size:=by rw[D3,c,F1]
 erw[(a:i<t)]
 .rw[A2f A3,O3,M5 A3,List.getElem?_take,A2h a,M8]
 .erw[(b:i<t+m.size)]
  .rw[A2h A3,M5 A3,L5 A3,c,M8]
  .rw[A2f A3,L5 A3,d,A1h,show t+m.size+(i-(t+m.size))=i by lia,M8]
theorem aBd{arr arr' m:Array Keyed}{lo t mid u hi:Nat}(G:lo<=t)(b2:t<mid)(O:mid<u)(H:u<=hi)(P:hi<=arr.size)(v:SoR rk arr lo mid)(z:SoR rk arr mid hi)(h:∀(i j:Nat) x y,lo<=i->i<t->mid<=j->j<hi->arr[i]?=n8 x->arr[j]?=n8 y->rk x<=rk y)(f:∀(i j:Nat) x y,lo<=i->i<mid->u<=j->j<hi->arr[i]?=n8 x->arr[j]?=n8 y->rk x<=rk y)(mg:Mgd rk (arr.extract t mid) (arr.extract mid u) m)(e:arr'.toList=arr.toList.take t++m.toList++arr.toList.drop (t+m.size)):Mgr rk arr arr' lo hi:=by
 have Q:m.size=u-t:=by
  have:=mg.pm.length_eq;rw[D3,F1,F1,F1,V2,V2]at this;lia
 have N:t+m.size=u:=by lia
 erw[at'=aCe (t:=t) (m:=m) (arr:=arr) (arr':=arr') A3 e];have F:arr.extract t mid++arr.extract mid u=arr.extract t u:=by
  rw[Array.extract_append_extract];congr 1<;>lia
 have g:∀{i:Nat}{x:Keyed},m[i]?=n8 x->∃j,t<=j/\j<u/\arr[j]?=n8 x:=λ{i x} a=>by
  have M:x∈m.toList:=by rw[<-M8]at a;erw[D0 a]
  have:=mg.pm.mem_iff.mp M;rw[<-Array.toList_append,F]at this;erw[(j,l)=J6 this];rw[M8,W0]at l;split at l
  .exact(t+j,F5 _ _,by lia,l)
  .cases l
 erw[(?_,λi L=>?_,λi j x y o B n a b=>?_)]
 .rw[e];have:arr.toList=arr.toList.take t++(arr.extract t u).toList++arr.toList.drop (t+m.size):=by
   rw[U4,N,O3];simp only[List.extract];have:(arr.toList.drop t).take (u-t)++arr.toList.drop u=arr.toList.drop t:=by
    have:=A0g (u-t) (arr.toList.drop t);rw[List.drop_drop,show t+(u-t)=u by lia]at this;erw[this]
   rw[this,A0g]
  rw (occs:=.pos [3]) [this];erw[List.Perm.append_right _ (List.Perm.append_left _ ?_),[-F,Array.toList_append],mg.pm]
 .rw[at',A2f A3]
 .rw[at']at a b;erw[(p:t<=i/\i<t+m.size)]
  .rw[A2h p]at a;erw[(c:t<=j/\j<t+m.size)]
   .rw[A2h c]at b;erw[(q:i=j)]
    .subst q;rw[a]at b;erw[!b,C1 _]
    .have:=Z8.mp mg.so (i-t) (j-t) (by rw[F1];lia) (by rw[F1];lia) A3;erw[(_,I)=N1.mp a,(_,K)=N1.mp b];rw[S5,S5,I,K]at this;erw[this]
   .rw[A2f c]at b;erw[AI (g a) λk C D d=>?_,(q:k<mid)]
    .erw[f k j x y (C9 G C) q A3 n d b]
    .erw[z k j x y (M4 q) A3 n d b]
  .rw[A2f p]at a;erw[(c:t<=j/\j<t+m.size)]
   .rw[A2h c]at b;erw[AI (g b) λk C D d=>?_,(q:k<mid)]
    .erw[v i k x y o A3 q a d]
    .erw[h i k x y o A3 (M4 q) (D8 D H) a d]
   .rw[A2f c]at b;erw[(q:i<t)]
    .erw[(r:j<mid)]
     .erw[v i j x y o B r a b]
     .erw[h i j x y o q (M4 r) n a b]
    .erw[z i j x y A3 B n a b]
end
end PyProof.Rows
namespace PyProof.Rows
open PySem
section
variable{prog:N_}{w:Q_}{A:Around}{E:B_}{s:P_}{rk:Keyed->Nat}{S:Keyed->Prop}{κ:SortKind}
theorem ZE{st a:SortSt}{Q:PUnit->SortSt->Prop}(h:Q ⟨⟩ a):wpS (model prog w) A E s (set a:StateT SortSt Sem PUnit) Q st:=by
 erw[¬wpS,[StateT.run_set],A3c (Z,h)]
theorem VF{st:SortSt}{Q:Bool->SortSt->Prop}{i b na pw K v ac:Nat}(W:Nh prog w A E s rk S κ)(G:kindOf st=κ)(hf:failedOf st=n9)(e1:(pendingOf st)[i]?=n8 #[b,na,pw])(e2:(pendingOf st)[i+1]?=n8 #[K,v,ac])(Y:K=b+na)(ab:1<=na)(nb1:1<=v)(hz:K+v<=(arrOf st).size)(c:∀(i:Nat) x,(arrOf st)[i]?=n8 x->S x)(O:SoR rk (arrOf st) b K)(I:SoR rk (arrOf st) K (K+v))
  (k:∀o,kindOf o=κ->failedOf o=n9->pendingOf o=((pendingOf st).setIfInBounds i #[b,na+v,pw]).eraseIdxIfInBounds (i+1)->Mgr rk (arrOf st) (arrOf o) b (K+v)->Q o0 o):wpS (model prog w) A E s (mergeAt' i) Q st:=by
 erw[<-Y,(at':∀{j:Nat},j<(arrOf st).size->∃x,(arrOf st)[j]?=n8 x)=λ{j} h=>(_,C8 h)]
 erw[A3b (B1b ?_),[e1,e2]];dsimp only;erw[A3b (ZE ?_),(y0,n)=at' (j:=b+na) A3,A3b (GY n (A3b (NU W G (c _ _ n) (λi x _ _ e=>c i x e) (λi j x y M T U=>O i j x y M T U) (show b+na<=(arrOf st).size by lia) (T9 ab) λkk ae M T=>?_)))];dsimp only;erw[(N:(na-kk==0)=o0)]
 .erw[[A2h N],(N:na-kk=0)=by simpa using N]
  erw[A3d (k _ G hf Z (Mgr.same (O.join I λi j x y q B r F f l=>?_))),C9 (M i x q A3 f) (I _ _ _ _ (C1 _) r F n l)]
 erw[[A2f N],(N:¬na-kk=0)=λz=>N (by simpa using z),(xl,C)=at' (j:=b+kk+(na-kk)-1) A3,A3b (GY C (A3b (Qn W G (c _ _ C) (λi x _ _ e=>c i x e) (λi j x y M T U=>I i j x y M T U) (show b+na+v<=(arrOf st).size by lia) A3 λd af U h4=>?_)))];dsimp only;erw[(aa:∀(i j:Nat) x y,b<=i->i<b+kk->b+na<=j->j<b+na+v->(arrOf st)[i]?=n8 x->(arrOf st)[j]?=n8 y->rk x<=rk y)=λi j x y q B r F f l=>C9 (M i x q B f) (I _ _ _ _ (C1 _) r F n l),(D:∀(i j:Nat) x y,b<=i->i<b+na->b+na+d<=j->j<b+na+v->(arrOf st)[i]?=n8 x->(arrOf st)[j]?=n8 y->rk x<=rk y)=λi j x y q B r F f l=>C9 (O i _ x xl q A3 A3 f C) (h4 j y r F l),(H:(d==0)=o0)]
 .erw[[A2h H],(H:d=0)=by simpa using H]
  erw[<-H,A3d (k _ G hf Z (Mgr.same (O.join I λi j x y q B r F f l=>D i j x y q B r F f l)))]
 erw[[A2f H],(H:¬d=0)=λz=>H (by simpa using z),(sx:SoA rk ((arrOf st).extract (b+kk) (b+na)))=SoR.ext (λi j x y q B r=>O i j x y A3 B r) A3,(sy:SoA rk ((arrOf st).extract (b+na) (b+na+d)))=SoR.ext (λi j x y q B r=>I i j x y q B A3) A3,(X:((arrOf st).extract (b+kk) (b+na)).size=na-kk)=by rw[V2];lia]
 have zy:((arrOf st).extract (b+na) (b+na+d)).size=d:=by rw[V2];lia
 have V:∀{j:Nat}{x:Keyed},((arrOf st).extract (b+kk) (b+na))[j]?=n8 x->(arrOf st)[b+kk+j]?=n8 x/\j<na-kk:=λ{j x} e=>by
  have:=(N1.mp e).1;rw[W0,A2h A3]at e;exact(e,by lia)
 have P:∀{j:Nat}{x:Keyed},((arrOf st).extract (b+na) (b+na+d))[j]?=n8 x->(arrOf st)[b+na+j]?=n8 x/\j<d:=λ{j x} e=>by
  have:=(N1.mp e).1;rw[W0,A2h A3]at e;exact(e,by lia)
 have R:∀x y,((arrOf st).extract (b+na) (b+na+d))[0]?=n8 x->((arrOf st).extract (b+kk) (b+na))[0]?=n8 y->rk x<=rk y:=λx y f l=>by
  erw[e=(P f).1];rw[A2a,n]at e;erw[!e,M0 (T _ y (F5 _ _) A3 (V l).1)]
 have lst:∀(i:Nat) x y,((arrOf st).extract (b+na) (b+na+d))[i]?=n8 x->((arrOf st).extract (b+kk) (b+na))[((arrOf st).extract (b+kk) (b+na)).size-1]?=n8 y->rk x<=rk y:=λi x y f l=>by
  erw[e=(V l).1];rw[X,show b+kk+(na-kk-1)=b+kk+(na-kk)-1 by lia,C]at e;erw[!e,M0 (U _ x (F5 _ _) (by have:=(P f).2;erw[Nat.add_lt_add_left this _]) (P f).1)]
 have fin:∀(m:Array Keyed)(L:SortSt),Mgd rk ((arrOf st).extract (b+kk) (b+na)) ((arrOf st).extract (b+na) (b+na+d)) m->EV (SortSt.mk' (kindOf st) (arrOf st) (((pendingOf st).setIfInBounds i #[b,na+v,pw]).eraseIdxIfInBounds (i+1)) (gallopOf st) (failedOf st)) L->wpS (model prog w) A E s (do modify λs=>setArr s (m.toList.zipIdx.foldl (λa (p:Keyed×Nat)=>a.setIfInBounds (b+kk+p.2) p.1) (arrOf s));pure (failedOf (<-get)).isNone) Q L:=λm L mg ad=>by
  erw[(g,rfl)=ad,A3b (A7c (A3b (B1b (A3d ?_)))),(_:Q (failedOf st).isNone _),[hf]];have ms:m.size=na-kk+d:=by
   have:=mg.pm.length_eq;rw[D3,F1,F1,F1,X,zy]at this;erw[this]
  erw[k _ G Z Z (aBd (t:=b+kk) (mid:=b+na) (u:=b+na+d) (F5 _ _) A3 A3 A3 hz O I aa D mg (Zg (show b+kk+m.size<=(arrOf st).size by lia)))]
 erw[(q3:na-kk<=d)]
 .erw[[A2h q3],A3b (VD W G (show 1<=((arrOf st).extract (b+kk) (b+na)).size by rw[X];lia) (show 1<=((arrOf st).extract (b+na) (b+na+d)).size by rw[zy];lia) (λi x e=>c _ x (V e).1) (λi x e=>c _ x (P e).1) sx sy R lst fin)]
 .erw[[A2f q3],A3b (VE W G (show 1<=((arrOf st).extract (b+kk) (b+na)).size by rw[X];lia) (show 1<=((arrOf st).extract (b+na) (b+na+d)).size by rw[zy];lia) (λi x e=>c _ x (V e).1) (λi x e=>c _ x (P e).1) sx sy R lst fin)]
end
end PyProof.Rows
namespace PyProof.Rows
open PySem
structure Rea(arr arr':Array Keyed)(lo hi:Nat):Prop where
pm:arr'.toList.Perm arr.toList
out:∀i:Nat,i<lo\/hi<=i->arr'[i]?=arr[i]?
section
variable{prog:N_}{w:Q_}{A:Around}{E:B_}{s:P_}{rk:Keyed->Nat}{S:Keyed->Prop}{κ:SortKind}
theorem Rea.refl(arr:Array Keyed)(lo hi:Nat):Rea arr arr lo hi:=(B0e _,λ_ _=>Z)
theorem Rea.size{arr arr':Array Keyed}{lo hi:Nat}(h:Rea arr arr' lo hi):arr'.size=arr.size:=by
 have:=h.pm.length_eq;rw[F1,F1]at this;erw[this]
theorem Rea.all{arr arr':Array Keyed}{lo hi:Nat}(h:Rea arr arr' lo hi)(b:∀(i:Nat) x,arr[i]?=n8 x->S x)(i:Nat)(x:Keyed)(e:arr'[i]?=n8 x):S x:=by
 rw[<-M8]at e;erw[(j,a)=J6 (h.pm.mem_iff.mp (D0 e))];rw[M8]at a;erw[b j x a]
theorem Rea.trans{a b c:Array Keyed}{lo hi:Nat}(h:Rea a b lo hi)(d:Rea b c lo hi):Rea a c lo hi:=(d.pm.trans h.pm,λi hi=>(d.out i hi).trans (h.out i hi))
theorem aEj{arr:Array Keyed}{lo k l hi:Nat}{c:Keyed}(t:lo+k<hi)(u:hi<=arr.size)(z:l<=k)(e:arr[lo+k]?=n8 c)(h:SoR rk arr lo (lo+k))(o:∀(i:Nat) x,lo<=i->i<lo+l->arr[i]?=n8 x->rk x<=rk c)(p:∀(i:Nat) x,lo+l<=i->i<lo+k->arr[i]?=n8 x->rk c<=rk x):Rea arr (bubble arr (lo+k) (lo+k-(lo+l))) lo hi/\SoR rk (bubble arr (lo+k) (lo+k-(lo+l))) lo (lo+k+1):=by
 erw[g=getElem?_bubble (xs:=arr) (src:=lo+k) B2 (lo+k-(lo+l)) B2];rw[show lo+k-(lo+k-(lo+l))=lo+l by omega]at g;erw[((Z7.mp (bubble_perm _ _ _),λi q=>?_),λi j x y f r v b a=>?_)]
 .rw[g,A2f B2,A2f B2]
 .rw[g]at b a;erw[(m:i=lo+l)]
  .rw[A2h m,e]at b;erw[!b,(d:j=lo+l)]
   .rw[A2h d,e]at a;erw[!a,C1 _]
   .rw[A2f d,A2h B2]at a;erw[p (j-1) y B2 B2 a]
  .rw[A2f m]at b;erw[(n:lo+l<i/\i<=lo+k)]
   .rw[A2h n]at b;rw[A2f B2,A2h B2]at a;erw[h (i-1) (j-1) x y B2 B2 B2 b a]
   .rw[A2f n]at b;erw[(d:j=lo+l)]
    .rw[A2h d,e]at a;erw[!a,o i x f B2 b]
    .rw[A2f d]at a;erw[(dj:lo+l<j/\j<=lo+k)]
     .rw[A2h dj]at a;erw[h i (j-1) x y f B2 B2 b a]
     .rw[A2f dj]at a;erw[h i j x y f r B2 b a]
end
end PyProof.Rows
namespace PyProof.Rows
open PySem
section
variable{prog:N_}{w:Q_}{A:Around}{E:B_}{s:P_}{rk:Keyed->Nat}{S:Keyed->Prop}{κ:SortKind}
theorem LC{st:SortSt}{i j:Nat}(f:Nh prog w A E s rk S κ)(e:kindOf st=κ)(c:(arrOf st)[i]?=n8 x)(d:(arrOf st)[j]?=n8 y)(a:S x)(b:S y)(h:Q (n8 (decide (rk x<rk y))) st):wpS (model prog w) A E s (ltAt' i j) Q st:=by
 erw[[ltAt'_eq],A3b (B1b (A3b (GY c (A3b (GY d (f _ _ _ _ a b e h))))))]
theorem aCk{st:SortSt}(h:Q () (setArr st (bubble (arrOf st) src (src-a)))):wpS (model prog w) A E s (moveDown' src a) Q st:=by
 erw[[moveDown'_eq],A7c h]
theorem QT{st:SortSt}{lo n ok:Nat}(hl:Nh prog w A E s rk S κ)(hk:kindOf st=κ)(hz:lo+n<=(arrOf st).size)(aa:ok<=n)(B:∀(i:Nat) x,(arrOf st)[i]?=n8 x->S x)(so:SoR rk (arrOf st) lo (lo+ok))(k:∀arr',Rea (arrOf st) arr' lo (lo+n)->SoR rk arr' lo (lo+n)->Q o0 (setArr st arr')):wpS (model prog w) A E s (binarySort' lo n ok) Q st:=by
 erw[A3b (A6d (A5e (I:=λx c q=>c=#[n9,()]/\∃arr',q=setArr st arr'/\Rea (arrOf st) arr' lo (lo+n)/\SoR rk arr' lo (lo+x)) (Q:=λc q=>c=#[n9,()]/\∃arr',q=setArr st arr'/\Rea (arrOf st) arr' lo (lo+n)/\SoR rk arr' lo (lo+n)) ?_ ?_ (Z,arrOf st,Z,Rea.refl _ _ _,?_)) ?_)]
 .erw[?x c q ab hx H,JC H λg arr' t f=>xa f λC p=>?_,-f,-H,<-g,<-t,sz=C.size];obtain⟨o,T⟩:∃o,arr'[lo+x]?=n8 o:=(_,C8 A3)
  erw[A3b (A6d (A5e (I:=λy r m=>m=setArr st arr'/\∃l h,r=#[n9,l,h]/\l<=h/\h-l<=x-y/\h<=x/\(∀(i:Nat) z,lo<=i->i<lo+l->arr'[i]?=n8 z->rk z<=rk o)/\(∀(i:Nat) z,lo+h<=i->i<lo+x->arr'[i]?=n8 z->rk o<=rk z)) (Q:=λr m=>m=setArr st arr'/\∃l h,r=#[n9,l,h]/\l<=x/\(∀(i:Nat) z,lo<=i->i<lo+l->arr'[i]?=n8 z->rk z<=rk o)/\(∀(i:Nat) z,lo+l<=i->i<lo+x->arr'[i]?=n8 z->rk o<=rk z)) ?_ ?_ (Z,0,x,Z,P4 _ _,C1 _,C1 _,λi z V W=>absurd W (Nat.not_lt_of_le V),λi z V W=>absurd W (Nat.not_lt_of_le V))) ?_)]
  .erw[?y r m _ hy K,DH K λg l h u X f=>xa3 f λme R D F=>?_,-f,-K,<-g,<-u];dsimp only;erw[(z:l ≥ h)]
   .erw[[A2h z],A3d (Z,l,h,Z,C9 X R,D,λi G a b=>F i G A3 b)]
   rw[A2f z];obtain⟨v,P⟩:∃v,arr'[lo+(l+h)/2]?=n8 v:=(_,C8 A3)
   erw[A3b (LC hl hk T P (C.all B _ _ T) (C.all B _ _ P) ?_)];dsimp only;erw[(lt:rk o<rk v)]
   .rw[A2g lt,A2h rfl];exact A3d (Z,l,(l+h)/2,Z,by lia,by lia,by lia,D,λi G a b e=>by
     have:=p _ i _ _ (F5 _ _) a b P e;lia)
   .rw[A3a lt,A2f B0];exact A3d (Z,(l+h)/2+1,h,Z,by lia,by lia,R,λi G a b e=>by
     have:=p i (lo+(l+h)/2) _ _ a (O8 b) A3 e P;lia,F)
  .erw[?r m L,DH L λg l h u X f=>xa3 f λme R D F=>?_,-f,-L,<-g,<-u,(Z,l,h,Z,C9 X R,D,λi G a b=>F i G A3 b)]
  .erw[?r m M,DH M λg l h u lx f=>xa f λD F=>?_,-f,-M,<-g,<-u];dsimp only;erw[fin=aEj (hi:=lo+n) (Nat.add_lt_add_left hx _) A3 lx T p D F,A3b (aCk (A3d (Z,_,Z,C.trans fin.1,fin.2)))]
 .erw[?c q N,JC N λg arr' t f=>xa f λC p=>?_,-f,-N,<-g,<-t,(Z,arr',Z,C,λi j x y a b d=>p i j x y a b A3)]
 .erw[?i j x y a b d Y U,(z:j<lo+ok)]
  .erw[so i j x y a b z Y U]
  .have:i=j:=by lia
   subst this;rw[Y]at U;erw[!U,C1 _]
 .erw[?c q O,JC O λg arr' t f=>xa f λC p=>?_,-f,-O,<-g,<-t,A3d (k arr' C p)]
end
end PyProof.Rows
namespace PyProof.Rows
open PySem
def DeR(rk:Keyed->Nat)(arr:Array Keyed)(lo hi:Nat):Prop:=∀(i j:Nat)(x y:Keyed),lo<=i->i<=j->j<hi->arr[i]?=n8 x->arr[j]?=n8 y->rk y<=rk x
def EqR(rk:Keyed->Nat)(arr:Array Keyed)(lo hi:Nat):Prop:=∀(i j:Nat)(x y:Keyed),lo<=i->i<hi->lo<=j->j<hi->arr[i]?=n8 x->arr[j]?=n8 y->rk x=rk y
def Kr(rk:Keyed->Nat)(arr arr':Array Keyed):Prop:=∀(k:Nat)(x':Keyed),arr'[k]?=n8 x'->∃x,arr[k]?=n8 x/\rk x'=rk x
section
variable{prog:N_}{w:Q_}{A:Around}{E:B_}{s:P_}{rk:Keyed->Nat}{S:Keyed->Prop}{κ:SortKind}
theorem SoR.one{lo:Nat}:SoR rk arr lo (lo+1):=λi j x y a b c e d=>by
 have:i=j:=by lia
 subst this;rw[e]at d;erw[!d,C1 _]
theorem EqR.one{lo:Nat}:EqR rk arr (lo+1-(0+1)) (lo+1):=λi j x y a b c d f e=>by
 have:i=j:=by lia
 subst this;rw[f]at e;cases e;rfl
theorem SoR.snoc{lo hi:Nat}(h:SoR rk arr lo hi)(l:lo<hi)(e:arr[hi]?=n8 x)(g:arr[hi-1]?=n8 y)(le:rk y<=rk x):SoR rk arr lo (hi+1):=λi j a b f k m c d=>by
 erw[(z:j<hi)]
 .erw[h i j a b f k z c d]
 .have:j=hi:=by lia
  subst this;rw[e]at d;erw[!d,(q:i=j)]
  .subst q;rw[e]at c;erw[!c,C1 _]
  .erw[C9 (h i (j-1) a y f A3 A3 c g) le]
theorem DeR.snoc{lo hi:Nat}(h:DeR rk arr lo hi)(l:lo<hi)(e:arr[hi]?=n8 x)(g:arr[hi-1]?=n8 y)(le:rk x<=rk y):DeR rk arr lo (hi+1):=λi j a b f k m c d=>by
 erw[(z:j<hi)]
 .erw[h i j a b f k z c d]
 .have:j=hi:=by lia
  subst this;rw[e]at d;erw[!d,(q:i=j)]
  .subst q;rw[e]at c;erw[!c,C1 _]
  .erw[C9 le (h i (j-1) a y f A3 A3 c g)]
theorem EqR.snoc{lo hi:Nat}(h:EqR rk arr lo hi)(l:lo<hi)(k:arr[hi]?=n8 x)(m:arr[hi-1]?=n8 y)(le:rk x=rk y):EqR rk arr lo (hi+1):=by
 have d:∀(i:Nat) a,lo<=i->i<hi+1->arr[i]?=n8 a->rk a=rk y:=λi a e f c=>by
  erw[(z:i<hi)]
  .erw[h i (hi-1) a y e z A3 A3 c m]
  .have:i=hi:=by lia
   subst this;rw[k]at c;erw[!c,le]
 erw[λi j a b e f o n c g=>(d i a e f c).trans (d j b o n g).symm]
theorem DeR.kr{lo hi:Nat}(h:DeR rk arr lo hi)(k:Kr rk arr arr'):DeR rk arr' lo hi:=λi j a b o m n g l=>by
 erw[xea (k i a g) λc e p=>xea (k j b l) λd f q=>?_,[p,q],h i j c d o m n e f]
theorem EqR.mir{lo hi:Nat}(h:EqR rk arr lo hi)(b:hi<=arr.size):Kr rk arr (mirror arr lo hi ((hi-lo)/2)):=λk c e=>by
 rw[(getElem?_mirror_all (xs:=arr) (i:=lo) b k)]at e;split at e
 .rename_i q;obtain⟨x,a⟩:∃x,arr[k]?=n8 x:=(_,C8 (D8 q.2 b))
  exact(x,a,h _ _ _ _ A3 A3 q.1 q.2 e a)
 .exact(c,e,Z)
theorem OS{i j lo hi:Nat}(d:lo<=i)(b:j<=hi)(a:hi<=arr.size):Rea arr (mirror arr i j ((j-i)/2)) lo hi:=(Z7.mp (mirror_perm _ _ _ _),λk c=>by
 erw[[getElem?_mirror_all (C9 b a)],(q:i<=k/\k<j)]
 .lia
 .rw[A2f q])
theorem DeR.mir{lo hi:Nat}(h:DeR rk arr lo hi)(e:hi<=arr.size):SoR rk (mirror arr lo hi ((hi-lo)/2)) lo hi:=λi j a b k f g c d=>by
 rw[getElem?_mirror_all e,A2h A3]at c d;erw[h _ _ b a A3 A3 A3 d c]
theorem Sd{st:SortSt}{i j:Nat}(h:Q () (setArr st (mirror (arrOf st) i j ((j-i)/2)))):wpS (model prog w) A E s (reverseSlice' i j) Q st:=by
 erw[[reverseSlice'_eq],A7c h]
theorem UE{st:SortSt}{lo d:Nat}(hl:Nh prog w A E s rk S κ)(hk:kindOf st=κ)(hz:lo+d<=(arrOf st).size)(h1:1<=d)(g:∀(i:Nat) x,(arrOf st)[i]?=n8 x->S x)
  (k:∀arr' m,Rea (arrOf st) arr' lo (lo+d)->1<=m->m<=d->SoR rk arr' lo (lo+m)->Q (n8 m) (setArr st arr')):wpS (model prog w) A E s (countRun' lo d) Q st:=by
 erw[A3b (A6d (A5e (I:=λx c e=>e=setArr st (arrOf st)/\c=#[n9,x]/\SoR rk (arrOf st) lo (lo+x)) (Q:=λc e=>e=setArr st (arrOf st)/\∃n,c=#[n9,n]/\1<=n/\n<=d/\SoR rk (arrOf st) lo (lo+n)/\(n=d\/∀x y,(arrOf st)[lo+n]?=n8 x->(arrOf st)[lo+n-1]?=n8 y->rk x<rk y)) ?_ ?_ (Z,Z,?_)) ?_)]
 .erw[?x c e R hx ad,xa2 ad λu D v=>?_,-ad,<-u,<-D];obtain⟨a,r⟩:∃a,(arrOf st)[lo+x]?=n8 a:=(_,C8 A3)
  obtain⟨b,l⟩:∃b,(arrOf st)[lo+x-1]?=n8 b:=(_,C8 A3)
  erw[A3b (LC hl hk r l (g _ _ r) (g _ _ l) (wpI (λlt=>A3d (Z,x,Z,R,M0 hx,v,.inr λp q ep eq=>by rw[r]at ep;rw[l]at eq;erw[!ep,!eq,A4f lt])) λlt=>?_)),lt=λz=>lt (A2g z),A3d (Z,Z,v.snoc A3 r l A3)]
 .erw[?c e ae,xa2 ae λu D v=>?_,-ae,<-u,<-D];rw[Nat.max_eq_right h1]at v⊢;exact(Z,d,Z,h1,C1 _,v,.inl Z)
 .erw[SoR.one]
 .erw[?c e af,JC af λu n G o=>xa3 o λn1 n2 v X=>?_,-o,-af,<-u,<-G,wpE (λq1=>A3d (k (arrOf st) n (Rea.refl _ _ _) n1 n2 v)) λq1=>?_];obtain⟨a,r⟩:∃a,(arrOf st)[lo+n]?=n8 a:=(_,C8 A3)
  obtain⟨b,l⟩:∃b,(arrOf st)[lo+n-1]?=n8 b:=(_,C8 A3)
  erw[Y=(X.resolve_left q1) a b r l];dsimp -zeta only
  extract_lets n_ q_ jp
  erw[wpC (λQ _=>∀F,Rea (arrOf st) F lo (lo+d)->DeR rk F lo (lo+n+1)->wpS (model prog w) A E s (jp ()) Q (setArr st F)) (λF ao al=>?_) λhj=>?_]
  .erw[A3b (wpS_lift (A9b (Z,?_))),A3b (A6d (A5e (I:=λx c e=>∃arr' f,e=setArr st arr'/\c=#[n9,x,f]/\Rea (arrOf st) arr' lo (lo+d)/\f+1<=x/\DeR rk arr' lo (lo+x)/\EqR rk arr' (lo+x-(f+1)) (lo+x)) (Q:=λc e=>∃arr' n f,e=setArr st arr'/\c=#[n9,n,f]/\Rea (arrOf st) arr' lo (lo+d)/\1<=n/\n<=d/\f+1<=n/\DeR rk arr' lo (lo+n)/\EqR rk arr' (lo+n-(f+1)) (lo+n)) ?_ ?_ (F,0,Z,Z,ao,P4 _ _,al,EqR.one (lo:=lo+n))) ?_)]
   .erw[?x c e R hx ag,Ci ag λarr' f G H h V o=>xa o λt B=>?_,-o,-ag,<-G,<-H,(M:lo+d<=arr'.size)=by erw[[Rea.size h],hz]]
    obtain⟨a,r⟩:∃a,arr'[lo+x]?=n8 a:=(_,C8 A3)
    obtain⟨b,l⟩:∃b,arr'[lo+x-1]?=n8 b:=(_,C8 A3)
    erw[A3b (LC hl hk r l (Rea.all h g _ _ r) (Rea.all h g _ _ l) (wpI (λlt=>?_) λlt=>?_))]
    .erw[dn=t.snoc A3 r l (M0 (A4f lt)),wpI (λq=>A3b (Sd (A3d (_,0,Z,Z,Rea.trans h (OS A3 A3 M),P4 _ _,dn.kr (B.mir A3),EqR.one (lo:=lo+x))))) λq=>A3d (arr',0,Z,Z,h,P4 _ _,dn,EqR.one (lo:=lo+x))]
    .erw[lt=λz=>lt (A2g z),A3b (LC hl hk l r (Rea.all h g _ _ l) (Rea.all h g _ _ r) (wpI (λgt=>A3d (arr',x,f,Z,Z,h,by lia,M0 hx,V,t,B)) λgt=>?_)),gt=λz=>gt (A2g z),A3d (arr',f+1,Z,Z,h,U3 V A6,t.snoc A3 r l A3,?_)];have:=B.snoc A3 r l A3;rw[show lo+(x+1)-(f+1+1)=lo+x-(f+1) by lia];erw[this]
   .erw[?c e ah,Ci ah λarr' f G H h V o=>xa o λt B=>?_,-o,-ah,<-G,<-H];rw[Nat.max_eq_right (by show n+1<=d;lia)]at V t B⊢;exact(arr',d,f,Z,Z,h,h1,C1 _,V,t,B)
   .erw[?c e ai,Ch ai λarr' K f H an h n1 o=>xa3 o λn2 V t B=>?_,-o,-ai,<-H,<-an,(M:lo+d<=arr'.size)=by erw[[Rea.size h],hz]]
    dsimp -zeta only
    extract_lets r_ s_ n_ q_ jp2
    erw[wpC (λQ _=>∀F,Rea (arrOf st) F lo (lo+d)->DeR rk F lo (lo+K)->wpS (model prog w) A E s (jp2 ()) Q (setArr st F)) (λF T am=>?_) λaa=>?_]
    .erw[(L:Rea (arrOf st) (mirror F lo (lo+K) ((lo+K-lo)/2)) lo (lo+d))=Rea.trans T (OS (C1 _) A3 (by erw[[Rea.size T],hz])),ac=DeR.mir am (by rw[Rea.size T];lia),A3b (Sd ?_),(_:wpS _ _ _ _ _ _ (setArr st (mirror F lo (lo+K) ((lo+K-lo)/2))))];generalize mirror F lo (lo+K) ((lo+K-lo)/2)=C at L ac;erw[A3b (A6d (A5e (I:=λx c e=>e=setArr st C/\c=#[n9,x]/\SoR rk C lo (lo+x)) (Q:=λc e=>e=setArr st C/\∃n,c=#[n9,n]/\1<=n/\n<=d/\SoR rk C lo (lo+n)) ?_ ?_ (Z,Z,ac)) ?_)]
     .erw[?x c e R hx aj,xa2 aj λu D v=>?_,-aj,<-u,<-D,(M:lo+d<=C.size)=by erw[[Rea.size L],hz]]
      obtain⟨a,r⟩:∃a,C[lo+x]?=n8 a:=(_,C8 A3)
      obtain⟨b,l⟩:∃b,C[lo+x-1]?=n8 b:=(_,C8 A3)
      erw[A3b (LC hl hk r l (Rea.all L g _ _ r) (Rea.all L g _ _ l) (wpI (λlt=>A3d (Z,x,Z,by lia,M0 hx,v)) λlt=>?_)),lt=λz=>lt (A2g z),A3d (Z,Z,v.snoc A3 r l A3)]
     .erw[?c e ak,xa2 ak λu D v=>?_,-ak,<-u,<-D];rw[Nat.max_eq_right n2]at v⊢;exact(Z,d,Z,h1,C1 _,v)
     .erw[?c e aq,(rfl,m,rfl,m1,m2,v)=aq,A3d (k _ m L m1 m2 v)]
    .clear_value jp2
     erw[wpI (λq=>A3b (Sd (aa (mirror arr' (lo+K-(f+1)) (lo+K) ((lo+K-(lo+K-(f+1)))/2)) (Rea.trans h (OS A3 A3 M)) (t.kr (B.mir A3))))) λq=>aa arr' h t]
  .clear_value jp
   erw[wpI (λq2=>?_) λq2=>?_]
   .obtain⟨z,ez⟩:∃z,(arrOf st)[lo]?=n8 z:=(_,C8 A3)
    erw[A3b (LC hl hk ez l (g _ _ ez) (g _ _ l) (wpI (λ_=>A3d (k (arrOf st) n (Rea.refl _ _ _) n1 n2 v)) λP=>?_)),P=λz=>P (A2g z)];have W:EqR rk (arrOf st) lo (lo+n):=by
     have ab:∀(i:Nat) x,lo<=i->i<lo+n->(arrOf st)[i]?=n8 x->rk x=rk b:=λi x O ih N=>by
      have:=v lo i z x (C1 _) O ih ez N;have:=v i (lo+n-1) x b O A3 A3 N l;lia
     erw[λi j x y O ih lj jh N U=>(ab i x O ih N).trans (ab j y lj jh U).symm]
    erw[A3b (Sd (hj _ (OS (C1 _) A3 hz) (DeR.kr (DeR.snoc (λi j x y O ij jh N U=>Z1 (W j i y x (C9 O ij) jh O (F3 ij jh) U N)) A3 r l (M0 Y)) (W.mir A3))))]
   .erw[hj (arrOf st) (Rea.refl _ _ _) (DeR.snoc (λi j x y O ij jh N U=>?_) A3 r l (M0 Y))];have:i=j:=by lia
    subst this;rw[N]at U;erw[!U,C1 _]
end
end PyProof.Rows
namespace PyProof.Rows
open PySem
def DG(rk:Keyed->Nat)(arr:Array Keyed):List (Nat×Nat×Nat)->Nat->Nat->Prop
|[],a,b=>a=b
|r::l,a,b=>r.1=a/\1<=r.2.1/\SoR rk arr a (a+r.2.1)/\DG rk arr l (a+r.2.1) b
section
variable{prog:N_}{w:Q_}{A:Around}{E:B_}{s:P_}{rk:Keyed->Nat}{S:Keyed->Prop}{κ:SortKind}
theorem DG.le:∀{l:List (Nat×Nat×Nat)}{a b:Nat},DG rk arr l a b->a+l.length<=b
|[],a,b,h=>Z1 h
|r::l,a,b,h=>by
 have:=DG.le h.2.2.2;have:=h.2.1;rw[F2];lia
theorem DG.app:∀{l d:List (Nat×Nat×Nat)}{a b c:Nat},DG rk arr l a b->DG rk arr d b c->DG rk arr (l++d) a c
|[],d,a,b,c,h,h2=>by
 erw[!(show a=b from h),h2]
|r::l,d,a,b,c,h,h2=>(h.1,h.2.1,h.2.2.1,DG.app h.2.2.2 h2)
theorem DG.cut:∀{l d:List (Nat×Nat×Nat)}{a c:Nat},DG rk arr (l++d) a c->∃b,DG rk arr l a b/\DG rk arr d b c
|[],d,a,c,h=>(a,Z,h)
|r::l,d,a,c,h=>by
 erw[xea (DG.cut h.2.2.2) λb e f=>(b,(h.1,h.2.1,h.2.2.1,e),f)]
theorem DG.out:∀{l:List (Nat×Nat×Nat)}{a b:Nat},DG rk arr l a b->(∀i:Nat,a<=i->i<b->arr'[i]?=arr[i]?)->DG rk arr' l a b
|[],a,b,h,k=>h
|r::l,a,b,h,k=>by
 have:=DG.le h.2.2.2;erw[(h.1,h.2.1,λi j x y g e f c d=>?_,DG.out h.2.2.2 λi p q=>k i A3 q)];rw[k _ A3 A3]at c d;erw[h.2.2.1 i j x y g e f c d]
theorem DG.last(c:∀r,(f r).1=r.1/\(f r).2.1=r.2.1):∀{l:List (Nat×Nat×Nat)}{a b k:Nat},DG rk arr l a b->DG rk arr (l.modify k f) a b
|[],a,b,k,h=>by
 erw[[List.modify_nil],h]
|r::l,a,b,0,h=>by
 erw[[List.modify_zero_cons],((c r).1.trans h.1,?_,?_,?_)]
 .erw[[(c r).2],h.2.1]
 .erw[[(c r).2],h.2.2.1]
 .erw[[(c r).2],h.2.2.2]
|r::l,a,b,k+1,h=>by
 erw[[List.modify_succ_cons],(h.1,h.2.1,h.2.2.1,DG.last c h.2.2.2)]
theorem aFv{α:Type}{l:List α}{i:Nat}{x y:α}(a:l[i]?=n8 x)(b:l[i+1]?=n8 y):∃c h,l=c++x::y::h/\c.length=i:=by
 erw[f=(C2.mp a).1,g=(C2.mp b).1,(l.take i,l.drop (i+2),?_,by rw[J8];lia)];have d:l.drop i=x::l.drop (i+1):=by
  rw[S3 f,(C2.mp a).2]
 have e:l.drop (i+1)=y::l.drop (i+2):=by
  rw[S3 g,(C2.mp b).2]
 rw[<-e,<-d,A0g]
theorem aB7{p:Array (Nat×Nat×Nat)}{i:Nat}{x y z:Nat×Nat×Nat}{a b:List (Nat×Nat×Nat)}(e:p.toList=a++x::y::b)(d:a.length=i):((p.setIfInBounds i z).eraseIdxIfInBounds (i+1)).toList=a++z::b:=by
 subst d;have c:(p.setIfInBounds a.length z).toList=a++z::y::b:=by
  rw[Array.toList_setIfInBounds,e,List.set_append_right _ _ (C1 _),V4];rfl
 have sz:(p.setIfInBounds a.length z).size=a.length+2+b.length:=by
  rw[<-F1,c,D3,F2,F2];lia
 erw[¬Array.eraseIdxIfInBounds,[dif_pos A3,Array.toList_eraseIdx,c,List.eraseIdx_append_of_length_le (F5 _ _),K2]];rfl
structure Srn(rk:Keyed->Nat)(κ:SortKind)(a0:Array Keyed)(lo:Nat)(st:SortSt):Prop where
kind:kindOf st=κ
fail:failedOf st=n9
pm:(arrOf st).toList.Perm a0.toList
runs:DG rk (arrOf st) (pendingOf st).toList 0 lo
theorem Srn.size{a:Array Keyed}{lo:Nat}{st:SortSt}(h:Srn rk κ a lo st):(arrOf st).size=a.size:=by
 have:=h.pm.length_eq;rw[F1,F1]at this;erw[this]
theorem Srn.all{lo:Nat}{st:SortSt}(h:Srn rk κ a lo st)(c:∀(i:Nat) x,a[i]?=n8 x->S x)(i:Nat)(x:Keyed)(e:(arrOf st)[i]?=n8 x):S x:=by
 rw[<-M8]at e;erw[(j,b)=J6 (h.pm.mem_iff.mp (D0 e))];rw[M8]at b;erw[c j x b]
theorem Qg{st:SortSt}{Q:Bool->SortSt->Prop}{i lo:Nat}{e:Array Keyed}(H:Nh prog w A E s rk S κ)(h:Srn rk κ e lo st)(D:∀(i:Nat) x,e[i]?=n8 x->S x)(hi:i+1<(pendingOf st).size)(I:lo<=e.size)
  (k:∀a,Srn rk κ e lo a->(pendingOf a).size+1=(pendingOf st).size->(∀j:Nat,lo<=j->(arrOf a)[j]?=(arrOf st)[j]?)->Q o0 a):wpS (model prog w) A E s (mergeAt' i) Q st:=by
 obtain⟨⟨C,na,P⟩,n⟩:∃x,(pendingOf st)[i]?=n8 x:=(_,C8 A3)
 obtain⟨⟨U,m,T⟩,o⟩:∃x,(pendingOf st)[i+1]?=n8 x:=(_,C8 hi)
 erw[BM (aFv (l:=(pendingOf st).toList) (by erw[[M8],n]) (by erw[[M8],o])) λR N f O=>?_,b=h.runs];rw[f]at b;erw[xea b.cut λc t b=>xa3 b λr p y b=>xa3 b λd q B b=>?_];dsimp only at r p y d q B b;erw[<-r,u=t.le,v=b.le,sz=h.size,VF H h.kind h.fail n o d p q A3 (h.all D) (d▸y) (d▸B) λa K L M mg=>?_,pl=aB7 (z:=#[C,na+m,P]) f O];rw[<-M]at pl;erw[k a (K,L,mg.pm.trans h.pm,?_) ?_ λj g=>mg.out j (.inr A3)]
 .erw[[pl],DG.app (DG.out t λj _ g=>mg.out j (.inl g)) (Z,by show 1<=na+m;lia,?_,?_)]
  .have:=mg.so;rw[d,Nat.add_assoc]at this;erw[this]
  .erw[(_:DG rk (arrOf a) N (C+(na+m)) lo),[-Nat.add_assoc],DG.out b λj g _=>mg.out j (.inr A3)]
 .erw[F=A4e List.length pl,G=A4e List.length f];rw[F1,D3,F2]at F;rw[F1,D3,F2,F2]at G;lia
end
end PyProof.Rows
namespace PyProof.Rows
open PySem
section
variable{prog:N_}{w:Q_}{A:Around}{E:B_}{s:P_}{rk:Keyed->Nat}{S:Keyed->Prop}{κ:SortKind}
theorem Srn.push{lo n b:Nat}{st:SortSt}(h:Srn rk κ a lo st)(c:1<=n)(d:SoR rk (arrOf st) lo (lo+n)):Srn rk κ a (lo+n) (setPending st ((pendingOf st).push #[lo,n,b])) :=
 (h.kind,h.fail,h.pm,by
  show DG rk (arrOf st) ((pendingOf st).push #[lo,n,b]).toList 0 (lo+n);rw[N3];exact DG.app h.runs (Z,c,d,Z))
theorem Srn.last{lo k:Nat}{st:SortSt}(b:∀r,(f r).1=r.1/\(f r).2.1=r.2.1)(h:Srn rk κ a lo st):Srn rk κ a lo (setPending st ((pendingOf st).modify k f)) :=
 (h.kind,h.fail,h.pm,by
  show DG rk (arrOf st) ((pendingOf st).modify k f).toList 0 lo;rw[Array.toList_modify];exact DG.last b h.runs)
theorem Tz{st:SortSt}(Y:Nh prog w A E s rk S κ)(hk:kindOf st=κ)(hf:failedOf st=n9)(hp:pendingOf st=#[])(T:∀(i:Nat) x,(arrOf st)[i]?=n8 x->S x)
  (k:∀f,failedOf f=n9->(arrOf f).toList.Perm (arrOf st).toList->SoR rk (arrOf f) 0 (arrOf st).size->Q () f):wpS (model prog w) A E s sortRuns' Q st:=by
 have h0:Srn rk κ (arrOf st) 0 st:=(hk,hf,B0e _,by rw[hp];rfl)
 generalize e0:arrOf st=o at h0 T k;erw[[sortRuns'_eq],A3b (B1b ?_)];dsimp only;have aj:(arrOf st).size=o.size:=by rw[e0]
 simp only[aj];generalize minRun' o.size o.size 0=mr;erw[A3b (A6d (A5e (I:=λx c f=>∃lo,c=#[n9,lo]/\Srn rk κ o lo f/\lo<=o.size/\(x<=lo\/o.size<=lo)) (Q:=λc f=>c=#[n9,o.size]/\Srn rk κ o o.size f) ?step ?fin (0,Z,h0,P4 _ _,by lia)) ?post)]
 case fin =>
  erw[?c f ab,CP ab λlo O B l1 l2=>?_,-ab,<-O];have:lo=o.size:=by lia
  erw[<-this,(Z,B)]
 case step =>
  erw[?x c f _ hx ac,CP ac λlo O B l1 l2=>?_,-ac,<-O];dsimp only;erw[(ge:lo ≥ o.size)]
  .rw[A2h ge];have:lo=o.size:=Nat.le_antisymm l1 ge;erw[<-this,A3d (Z,B)]
  erw[[A2f ge],sz=B.size,(D:∀(n:Nat)(v:SortSt),Srn rk κ o lo v->1<=n->lo+n<=o.size->SoR rk (arrOf v) lo (lo+n)->∃K,(#[n9,lo+n]:Option Unit×Nat)=#[n9,K]/\Srn rk κ o K (setPending v ((pendingOf v).push #[lo,n,0]))/\K<=o.size/\(x+1<=K\/o.size<=K))=λn v X M nl so=>(lo+n,Z,X.push M so,nl,by lia)]
  erw[A3b (UE Y B.kind (show lo+(o.size-lo)<=(arrOf f).size by lia) A3 (B.all T) λarr' m re m1 m2 so=>?_)];dsimp only;have F:Srn rk κ o lo (setArr f arr'):=(B.kind,B.fail,re.pm.trans B.pm,DG.out B.runs λi _ h=>re.out i (.inl h))
  erw[(few:m<mr)]
  .erw[[A2h few],A3b (wpS_lift (A9b (Z,?_))),A3b (QT Y F.kind (show lo+min (o.size-lo) mr<=(arrOf (setArr f arr')).size by rw[F.size];lia) A3 (F.all T) so λG aa t=>?_),(C:Srn rk κ o lo (setArr f G))=(B.kind,B.fail,aa.pm.trans F.pm,DG.out F.runs λi _ h=>aa.out i (.inl h))]
   generalize hn:min (o.size-lo) mr=n at t⊢;have M:1<=n:=by lia
   have nl:lo+n<=o.size:=by lia
   simp only[A1f,O0,A7b];have t:SoR rk (arrOf (setArr f G)) lo (lo+n):=t;generalize setArr f G=v at C t⊢;erw[A3b (B1b ?_)];cases hb:(pendingOf v).back? with
   |none =>
    dsimp only;erw[A3b (A7c (A3d (D n v C M nl t)))]
   |some r =>
    erw[(s1,ak,p1)=r];dsimp only;erw[A3b (A6d (A5e (I:=λ_ c d=>c=#[n9,()]/\Srn rk κ o lo d/\SoR rk (arrOf d) lo (lo+n)) (Q:=λc d=>c=#[n9,()]/\Srn rk κ o lo d/\SoR rk (arrOf d) lo (lo+n)) ?_ (λc d h=>h) (Z,C,t)) ?_)]
    .erw[?y c d _ _ ad,xa2 ad λp H u=>?_,-ad,<-p,A3b (B1b ?_),(g:(pendingOf d).size > 1)]
     .rw[A2h g];obtain⟨⟨sx,nx,R⟩,e⟩:∃x,(pendingOf d)[(pendingOf d).size-2]?=n8 x:=(_,C8 A3)
      rw[e];dsimp only;split
      .erw[A3d (Z,H,u)]
      .erw[A3b (Qg Y H T A3 l1 λst4 P _ keep=>?_)];simp only[A1f,O0,A7b];erw[A3d (Z,P,λi j x y li ij jh V W=>?_)];rw[keep _ A3]at V W;erw[u i j x y li ij jh V W]
     .erw[[A2f g],A3d (Z,H,u)]
    .erw[?c d ae,xa2 ae λp H u=>?_,-ae,<-p];dsimp only;erw[A3b (A7c (A3b (A7c (A3d (D n _ (Srn.last (λr=>(Z,Z)) H) M nl u)))))]
  .erw[[A2f few],(t:SoR rk (arrOf (setArr f arr')) lo (lo+m))=so,C=F];generalize setArr f arr'=v at C t⊢;erw[(M:1<=m)=m1,(nl:lo+m<=o.size)=by lia]
   generalize m=n at t M nl⊢;erw[A3b (B1b ?_)];cases hb:(pendingOf v).back? with
   |none =>
    dsimp only;erw[A3b (A7c (A3d (D n v C M nl t)))]
   |some r =>
    erw[(s1,ak,p1)=r];dsimp only;erw[A3b (A6d (A5e (I:=λ_ c d=>c=#[n9,()]/\Srn rk κ o lo d/\SoR rk (arrOf d) lo (lo+n)) (Q:=λc d=>c=#[n9,()]/\Srn rk κ o lo d/\SoR rk (arrOf d) lo (lo+n)) ?_ (λc d h=>h) (Z,C,t)) ?_)]
    .erw[?y c d _ _ af,xa2 af λp H u=>?_,-af,<-p,A3b (B1b ?_),(g:(pendingOf d).size > 1)]
     .rw[A2h g];obtain⟨⟨sx,nx,R⟩,e⟩:∃x,(pendingOf d)[(pendingOf d).size-2]?=n8 x:=(_,C8 A3)
      rw[e];dsimp only;split
      .erw[A3d (Z,H,u)]
      .erw[A3b (Qg Y H T A3 l1 λst4 P _ keep=>?_)];simp only[A1f,O0,A7b];erw[A3d (Z,P,λi j x y li ij jh V W=>?_)];rw[keep _ A3]at V W;erw[u i j x y li ij jh V W]
     .erw[[A2f g],A3d (Z,H,u)]
    .erw[?c d ag,xa2 ag λp H u=>?_,-ag,<-p];dsimp only;erw[A3b (A7c (A3b (A7c (A3d (D n _ (Srn.last (λr=>(Z,Z)) H) M nl u)))))]
 case post =>
  erw[?c f al,(rfl,B)=al];dsimp only;erw[A3b (A6d (A5e (I:=λx c a=>c=#[n9,()]/\Srn rk κ o o.size a/\((pendingOf a).size<=1\/(pendingOf a).size+x<=o.size)) (Q:=λc a=>c=#[n9,()]/\Srn rk κ o o.size a/\(pendingOf a).size<=1) ?_ ?_ (Z,B,?_)) ?_)]
  .erw[?x c a _ hx ah,xa2 ah λp L X=>?_,-ah,<-p,A3b (B1b ?_),(q:(pendingOf a).size<=1)]
   .erw[[A2h q],A3d (Z,L,q)]
   erw[[A2f q],(go:∀i,i+1<(pendingOf a).size->wpS (model prog w) A E s (mergeAt' i) (λb st4=>b=o0/\Srn rk κ o o.size st4/\(pendingOf st4).size+(x+1)<=o.size) a)=λi hi=>Qg Y L T hi (C1 _) λst4 P h5 _=>(Z,P,by lia)]
   erw[A3b (A6d (go _ ?_) λb st4 h=>?_)]
   .repeat' split
    all_goals lia
   .erw[xa2 h λp P h5=>?_,-h,<-p];simp only[A1f,O0,A7b];erw[A3d (Z,P,.inr h5)]
  .erw[?c a ai,xa2 ai λp L X=>?_,-ai,<-p,(Z,L,by lia)]
  .have:=B.runs.le;rw[F1]at this;erw[.inr A3]
  .erw[?c a N,xa2 N λp L X=>?_,-N,<-p,A3d (k a L.fail L.pm ?_),U=L.runs,(lz:(pendingOf a).toList.length<=1)=by erw[[F1],X]]
   generalize (pendingOf a).toList=l at U lz
   match l,U,lz with
   |[],U,_ =>
    erw[(z:0=o.size)=U,λi j x y _ _ h=>absurd h A3]
   |[r],U,_ =>
    erw[xa3 U λq1 q2 q3 q4=>?_];have:0+r.2.1=o.size:=q4;rw[this]at q3;erw[q3]
end
end PyProof.Rows
namespace L2
open PySem PySem.W PySem.Spec PyProof.Rows
theorem YI{α β:Type}{f:β->α}{k l:List α}(h:k.Perm l):∀p:List β,p.map f=l->∃a:List β,a.Perm p/\a.map f=k:=by
 induction h with
 |nil=>erw[λp e=>(p,B0e _,e)]
 |cons x _ o =>
  intro p e;cases p with
  |nil=>cases e
  |cons i p =>
   rw[J0]at e;injection e with e1 e2
   erw[xea (o p e2) λa b c=>(i::a,b.cons i,by rw[J0,c,e1])]
 |swap x y l =>
  intro p e
  match p,e with
  |i::j::p,e =>
   rw[J0,J0]at e;injection e with e1 e2
   injection e2 with e2 e3
   exact(j::i::p,List.Perm.swap i j p,by rw[J0,J0,e1,e2,e3])
 |trans _ _ d g =>
  erw[?p e,xea (g p e) λq b c=>xea (d q c) λr m n=>(r,m.trans b,n)]
section
variable{prog:N_}{w:Q_}{A:Around}{E:B_}{s:P_}{ks vs:F_}{κ:SortKind}
theorem aDE{Q:SortSt->Shared->Prop}{rk:Nat->Int}{rk':Keyed->Nat}(G:ks.length=vs.length)(o:∀i,i<vs.length->rk i=(rk' (kas_item (ks.toArray.zip vs.toArray) i):Int))(N:∀i j C,i<vs.length->j<vs.length->C (decide (rk i<rk j)) s->kas_ask prog w A κ ks i j C s)
  (k:∀p a,aAZ vs.length p->Up rk p vs.length->failedOf a=n9->arrOf a=p.map (kas_item (ks.toArray.zip vs.toArray))->Q a s):wpAny (model prog w) A ((sortRuns').run (SortSt.mk' κ (ks.toArray.zip vs.toArray) #[] 7 n9)) (λr m=>Q r.2 m) E s:=by
 have sz:(ks.toArray.zip vs.toArray).size=vs.length:=by simp[G]
 have whole:((List.range vs.length).map (kas_item (ks.toArray.zip vs.toArray)))=(ks.toArray.zip vs.toArray).toList:=by
  erw[e=kas_range (ks.toArray.zip vs.toArray)];rw[sz]at e;rw[<-A4e Array.toList e];simp
 have f:∀i,i<vs.length->(kas_item (ks.toArray.zip vs.toArray) i).1=ks.getD i Value.none:=λi hi=>by
  have g:i<ks.length:=by erw[[G],hi]
  erw[¬kas_item,[Z4,C8 (by erw[[sz],hi]),D9,C7 g]];simp
 have R:Nh prog w A E s rk' (λx=>∃i,i<vs.length/\x=kas_item (ks.toArray.zip vs.toArray) i) κ:=by
  erw[?x y st S n B P q,xea n λi hi t=>?_,-n,<-t,(j,d,rfl)=B,[lt'_eq],A3b (B1b ?_),[P],c=N i j (λb m=>m=s/\b=decide (rk i<rk j)) hi d (Z,Z)];unfold kas_ask at c;rw[<-f i hi,<-f j d]at c;erw[A3b (wpS_lift (A8f (A6a c (λb m h=>?_) λ_ _ x=>x.elim))),(rfl,rfl)=h,(Z,?_),A3d ?_];have e:decide (rk i<rk j)=decide (rk' (kas_item (ks.toArray.zip vs.toArray) i)<rk' (kas_item (ks.toArray.zip vs.toArray) j)):=by
   erw[[o i hi,o j d],decide_eq_decide.mpr Int.ofNat_lt]
  erw[[e],q]
 erw[l=Tz (st:=SortSt.mk' κ (ks.toArray.zip vs.toArray) #[] 7 n9) (Q:=λ_ a=>Q a s) R Z Z Z (λi x e=>?_) λa O v z=>?_]
 .erw[A6a l (λr m h=>by erw[(rfl,q)=h,q]) λ_ _ e=>e]
 .have hi:i<vs.length:=by
   have:=(N1.mp e).1;rw[sz]at this;erw[this]
  erw[(i,hi,?_),e=e,¬kas_item,[Z4,e]];rfl
 .erw[v=v,xea (YI v _ whole) λp g M=>?_,(H:p.length=vs.length)=by rw[g.length_eq,P3]]
  have D:arrOf a=p.toArray.map (kas_item (ks.toArray.zip vs.toArray)):=by
   apply Array.toList_inj.mp;erw[[Array.toList_map],M.symm]
  erw[k p.toArray a (by simpa using H,Z7.mpr (by simpa using g)) (λi j F d=>?_) O D];have z:SoR rk' (arrOf a) 0 vs.length:=by
   erw[[-sz],z]
  have at':∀{i:Nat},i<vs.length->p.toArray.getD i 0<vs.length/\(arrOf a)[i]?=n8 (kas_item (ks.toArray.zip vs.toArray) (p.toArray.getD i 0)):=λ{i} hi=>by
   have u:i<p.length:=by erw[[H],hi]
   have e:p.toArray.getD i 0=p[i]:=by simp[Array.getD,u]
   erw[[e],(by simpa using g.mem_iff.mp (P2 u),?_),[D,Array.getElem?_map,List.getElem?_toArray,C7 u]];rfl
  erw[(I,K)=at' (i:=i) (F3 F d),(L,b2)=at' d,¬kk,[o _ I,o _ L],Int.ofNat_le.mpr (z i j _ _ (L7 _) F d K b2)]
end
noncomputable def VN(H:Hp)(v:S_):List Int:=match v with
|.ref u=>(match H u with
 |some (.tup vs)=>vs.filterMap λv=>(match v with|.int n=>n8 n|_=>n9)
 |_=>[])
|_=>[]
theorem Zh{ns:I_}(h:H u=n8 (.tup (ns.map V.int))):VN H (.ref u)=ns:=by
 unfold VN;dsimp only;rw[h];dsimp only;clear h;induction ns with
 |nil=>rfl
 |cons n ns a =>
  rw[J0,Y8];dsimp only;rw[a]
noncomputable def rkK(H:Hp)(rows:List (List Int))(x:Keyed):Nat:=rows.countP λr=>Dc r (VN H x.1)
theorem aFd{H:Hp}{items:List (Addr×List Int)}(a:∀q∈items,H q.1=n8 (.tup (q.2.map V.int))){vs:F_}(b:vs.length=items.length){i:Nat}(hi:i<items.length):TM (items.map (·.2)) i=(rkK H (items.map (·.2)) (kas_item ((items.map λq=>Value.ref q.1).toArray.zip vs.toArray) i):Int):=by
 have e:(kas_item ((items.map λq=>Value.ref q.1).toArray.zip vs.toArray) i).1=.ref items[i].1:=by
  erw[¬kas_item,[Z4,C8 (by simp;lia)]];simp
 erw[¬TM rkK,[e,Zh (a _ (P2 hi)),D9,C3,C7 hi]];rfl
section
variable{X:Cx}{n7:A_}{σ:St}{H H':Hp}{s:P_}{k:Nat}{f b:R_}{fd:E_}{ps:K_}
theorem aBQ {A2:Around} {P:PySem.Fin->Shared->Prop} {E:B_} (F:AJ X.prog X.w X.K X.mg X.n6 CX0 k f fd ps LN) (hb:CO X.K fd ps []) (hr:De k A2) (as:∀s H,OG X.prog X.w X.K X.mg X.n6 X.A X.stack s H->OG X.prog X.w X.K X.mg X.n6 A2 X.stack s H) (I:Inv X n7 σ H s) {a:R_} {items:List It3} {n:Nat} (ho:s.heap.get? a=n8 (seqObj "list" (items.map λq=>Value.ref q.a).toArray n)) (fa:Ed X n7 H a) (af:∀q∈items,H q.a=n8 (.tup (q.ns.map V.int))) (aq:items.length<=100000)
  (fin:∀(p:Array Nat)(H':Hp)(G:P_)(c:Nat),aAZ items.length p->Up (TM (items.map λq=>[q.y,q.x])) p items.length->Inv X n7 σ H' G->(∀b u,H b=n8 u->H' b=n8 u)->H' a=n9->G.heap.get? a=n8 (seqObj "list" (p.toList.map λi=>(items.map λq=>Value.ref q.a).getD i Value.none).toArray c)->P (.done (.ret .none)) G) :
  wpAny (model X.prog X.w) A2 (ksk_tree a (.ref f) o3) P E s:=by
 erw[(len:(items.map λq=>Value.ref q.a).length=items.length)=C0 _,(ln:items.length<=sizeLine)=C9 aq A6,¬ksk_tree,A2e (listItems_at ho Z (A2e (listUpdate_at ho Z ?_)))];have ⟨L,he1⟩:∃L,(s.heap.update a (Obj.mapSeq λ_=>#[])).get? a=n8 (seqObj "list" #[] L):=(_,get?_update_seq ho _)
 have I1:Inv X n7 σ H {s with heap:=s.heap.update a (Obj.mapSeq λ_=>#[])}:=fa.turn (t':=s.toks) I λc o hc e=>by erw[[Q9 _ _ _ _ hc],e]
 generalize s.heap.update a (Obj.mapSeq λ_=>#[])=N at he1 I1⊢;erw[A2e (seqEpoch_at he1 Z (A2e (wpAny_newTuple (A2e (wpAny_newList (A8e ?_)))))),(I2:Inv X n7 σ H {s with heap:=N.push (seqObj "tuple" (items.map λq=>Value.ref q.a).toArray 0)})=I1.kept (t':=s.toks) λb o e=>C6 _ e,aa=C6 (seqObj "tuple" (items.map λq=>Value.ref q.a).toArray 0) he1,(_:wpAny (model X.prog X.w) A2 (ksk_rest a (.ref f) o3 (items.map λq=>Value.ref q.a).toArray L (.ref (N.push (seqObj "tuple" (items.map λq=>Value.ref q.a).toArray 0)).objs.size)) P E {s with heap:=(N.push (seqObj "tuple" (items.map λq=>Value.ref q.a).toArray 0)).push (seqObj "list" #[] 0)})];generalize N.push (seqObj "tuple" (items.map λq=>Value.ref q.a).toArray 0)=B at I2 aa⊢;erw[fS=I2.fpOk (C1 _) (I2.hok.fresh (C1 _)),ae=C6 (seqObj "list" #[] 0) aa,(ab:(B.push (seqObj "list" #[] 0)).get? B.objs.size=n8 (seqObj "list" #[] 0))=F4 _ Z,(I3:Inv X n7 σ H {s with heap:=B.push (seqObj "list" #[] 0)})=I2.kept (t':=s.toks) λb o e=>C6 _ e,R=Y9 (F8 aa)];generalize B.push (seqObj "list" #[] 0)=h3 at ae ab I3⊢;generalize B.objs.size=kS at fS ab R⊢;erw[¬ksk_rest,A2e (A9b ?_),[List.forIn_toArray],A2e (ksk_fold (λj G=>∃(H':Hp)(us:H_)(c:Nat),Inv X n7 σ H' G/\(∀b u,H b=n8 u->H' b=n8 u)/\H' a=n9/\H' kS=n9/\G.heap.get? kS=n8 (seqObj "list" (us.map Value.ref).toArray c)/\G.heap.get? a=n8 (seqObj "list" #[] L)/\us.length=j/\∀(i:Nat) u q,us[i]?=n8 u->items[i]?=n8 q->H' u=n8 (.tup ([q.y,q.x].map V.int))) (items.map λq=>Value.ref q.a) 0 _ (H,[],0,I3,λb u e=>e,fa.1,fS.1,ab,ae,Z,λi u q e=>(nomatch e)) ?_ ?_)]
 .erw[?j x az hx a0,(hp,gn,dr,tk,os)=az,(H',us,c,g,kp,na,nk,hk,ha,h,O)=a0,(jl:j<items.length)=by have:=(C2.mp hx).1;rw[len]at this;erw[this]]
  rw[C3]at hx;erw[xea (D7.mp hx) λq eq W=>?_,<-W];rw[P0]at h⊢;erw[M=fa.stay na,l=fS.stay nk,(aj:LN [V.ref q.a] H' (λv an=>∃u,v=.ref u/\H' u=n9/\an=upd H' u (.tup [.int q.y,.int q.x])) E0)=(q.a,q.x,q.y,q.r,Z,(kp _ _ (af q (D0 eq))),λu hu=>(u,Z,hu,Z))]
  erw[A2e (A8f (wpAny_call (B1e (F.run A2 X.stack _ H' ([Value.ref q.a],[]) ([Value.ref q.a]++[]) [V.ref q.a] _ E0 hr (as _ _ g.env0) (hb _ [Value.ref q.a] g.kIn (F.len _ _ _ _ aj)) (show AT [V.ref q.a] [Value.ref q.a]from .cons Z .nil) aj) λr ay D=>?_)))];cases r with
  |error e=>erw[D.elim]
  |ok fl =>
   cases fl with
   |next=>erw[D.elim]
   |brk=>erw[D.elim]
   |cont=>erw[D.elim]
   |ret u =>
    erw[Ci D λv H2 ax U un ah ak=>JC ak λrv u' ao al=>xa al λau ad=>?_,-ak al,-D,<-ao,<-ad,(hh,g2,d2,t2,aw)=ay];obtain rfl:aw=os:=ax;erw[!(show _=Value.ref u' from rv),I4=g.call (h':=hh) (g':=g2) (d':=d2) (t':=t2) (ch:=[]) un ah U (λb z=>absurd z B0),ag=un.keep _ _ hk nk (l.nost g) B0,ar=un.keep _ _ ha na (M.nost g) B0,(np:∀{b:R_}{o:HO},H' b=n8 o->upd H' u' (.tup [.int q.y,.int q.x]) b=n8 o)=λ{b o} e=>by erw[[Aq (Am e au)],e]]
    erw[av=un.free _ _ ha na B0,ai=un.free _ _ hk nk B0];have ⟨c2,hk5⟩:∃c2,(hh.update kS (Obj.mapSeq (·.push (.ref u')))).get? kS=n8 (seqObj "list" ((us.map Value.ref).toArray.push (.ref u')) c2):=(_,get?_update_seq ag _)
    erw[A2e (listUpdate_at ag Z (A3c (Z,upd H' u' (.tup [.int q.y,.int q.x]),us++[u'],c2,(l.stay ai).turn (t':=t2) I4 λb o hb e=>by erw[[Q9 _ _ _ _ hb],e],λb o e=>np (kp b o e),av,ai,?_,?_,by rw[D3,h];rfl,λi u2 q2 eu Y=>?_)) (hsz2:=?_))]
    .show(hh.update kS _).get? kS=_;rw[hk5];simp
    .erw[(_:(hh.update kS _).get? a=_),[Q9 _ _ _ _ (A3f R)],ar]
    .erw[(hi:i<j)]
     .rw[M5 A3]at eu;erw[np (O i u2 q2 eu Y)]
     .have:i=j:=by
       have:=(C2.mp eu).1;rw[D3,h]at this;have:i<j+1:=this;lia
      subst this;rw[L5 (Z1 h),h,V4]at eu;cases eu;rw[eq]at Y;erw[!Y,Af]
    .simp;lia
 .erw[?a1 a2,(hp,gn,dr,tk,os)=a1,(H',us,c,g,kp,na,nk,hk,ha,h,O)=a2];rw[P0,len]at h;erw[M=fa.stay na,l=fS.stay nk,(lk:(us.map Value.ref).length=(items.map λq=>Value.ref q.a).length)=by rw[C0,len,h]]
  erw[A2e (listItems_at hk Z ?_),¬ksk_end];dsimp only;simp only[O0,A7b];have sz:(items.map λq=>Value.ref q.a).toArray.size=items.length:=by rw[J3,len]
  erw[(few:(items.map λq=>Value.ref q.a).toArray.size<2)]
  .erw[[A2h few,A2h few],A2e (A3c ?_),[StateT.run_pure],A2e (A3c ?_)];dsimp only;have eo:(arrOf (SortSt.mk' general' ((us.map Value.ref).toArray.zip (items.map λq=>Value.ref q.a).toArray) #[] 7 n9)).map (·.2)=((List.range items.length).toArray.toList.map λi=>(items.map λq=>Value.ref q.a).getD i Value.none).toArray:=by
    rw[sz]at few;clear af fin ho O g hk;show((us.map Value.ref).toArray.zip (items.map λq=>Value.ref q.a).toArray).map (·.2)=_
    match items,us,h,few with
    |[],[],_,_=>simp
    |[v],[u],_,_=>simp
   erw[WY (c:=c) g M l R hk ha eo Z (by simp;erw[ln]) (by simp;lia) λh' c' I5 h5=>fin (List.range items.length).toArray H' _ c' (by simp,Array.Perm.refl _) (λi j ij hj=>by rw[sz]at few;erw[(e:i=j)=A3,[e],Int.le_refl _]) I5 kp na h5]
  .erw[[A2f few,A2f few],(two:2<=items.length)=by lia]
   have d:∀q∈(us.zip (items.map λq=>[q.y,q.x])),H' q.1=n8 (.tup (q.2.map V.int))/\q.2≠[]:=λq D=>by
    erw[(i,hi)=J6 D];rw[Z9,C3]at hi;erw[(N,B)=hi,xea (D7.mp B) λit L e2=>?_,[-e2],(O i q.1 it N L,by simp)]
   have z1:((us.zip (items.map λq=>[q.y,q.x])).map λq=>Value.ref q.1)=us.map Value.ref:=by
    erw[(_:List.map (Value.ref ∘ Prod.fst) _=_),[-N5],[List.map_fst_zip (by erw[[C0,h],C1 _])]]
   have zl:(us.zip (items.map λq=>[q.y,q.x])).length=items.length:=by rw[A0e,C0,h,Nat.min_self]
   erw[(z2:((us.zip (items.map λq=>[q.y,q.x])).map (·.2))=items.map λq=>[q.y,q.x])=List.map_snd_zip (by erw[[C0,h],C1 _]),AI (Rw g.hok d) λfs k1 k2 k3=>?_];rw[z1]at k1;erw[A2e (kat_kind (T:=.type "int") k1 (by rw[k2,zl];lia) (λv hv=>?_) Z ?_)]
   .erw[xe2 (k3 v hv) λx t W=>?_,<-W,.now]
   have ac:(us.map Value.ref).toArray.size<=sizeLine:=by simp;lia
   erw[A2e (A6a (aDE (ks:=us.map Value.ref) (vs:=items.map λq=>Value.ref q.a) (κ:=tuples' o0) (rk:=TM (items.map λq=>[q.y,q.x])) (rk':=rkK H' (items.map λq=>[q.y,q.x])) (Q:=λS G=>G={heap:=hp,gens:=gn,drawn:=dr,toks:=tk,os:=os}/\failedOf S=n9/\∃p,aAZ items.length p/\Up (TM (items.map λq=>[q.y,q.x])) p items.length/\arrOf S=p.map (kas_item ((us.map Value.ref).toArray.zip (items.map λq=>Value.ref q.a).toArray))) lk ?_ ?_ λp S N B h3 h4=>(Z,h3,p,by rw[len]at N;erw[N],by rw[len]at B;erw[B],h4)) ?_ λ_ _ e=>e)]
   .intro i hi;rw[len]at hi;have:=aFd (H:=H') (items:=us.zip (items.map λq=>[q.y,q.x])) (λq D=>(d q D).1) (vs:=items.map λq=>Value.ref q.a) (by rw[len,zl]) (i:=i) (by erw[[zl],hi]);rw[z1,z2]at this;erw[this]
   .intro i j C hi hj cc;rw[len]at hi hj;erw[Cd (We g.hok d (i:=i) (by erw[[zl],hi])) λb o a4 m L e2 e3 e4 e5=>Cd (We g.hok d (i:=j) (by erw[[zl],hj])) λb' o' a5 m' f1 f2 f3 f4 f5=>?_];rw[z1]at L f1;rw[z2]at e5 f5;erw[¬kas_ask,[L,f1],kat_lt e2 e4 f2 f4 ?_];rw[aCF (by erw[[C0],hi])]at cc;have:=WU (prog:=X.prog) (w:=X.w) (A:=A2) (b:=o0) (i:=0) e5 f5 cc;erw[l1=e5.length,l2=f5.length];rw[C0]at l1 l2;erw[[J3,J3,-l1,-l2],this]
   intro a3 G am;obtain⟨⟨⟩,S⟩:=a3;erw[(rfl,hf,p,pn,up,ea)=am];dsimp only at hf ea⊢;erw[WY (c:=c) g M l R hk ha (kat_snds lk ea) hf (by simp only[J3,C0,F1,pn.sz];erw[ln]) ac λh' c' I5 h5=>fin p H' _ c' pn up I5 kp na h5]
def QA(out:List It3):Prop:=out.Pairwise λp q=>Dc [q.y,q.x] [p.y,p.x]=o3
theorem VM {Q:VK} (F:AJ X.prog X.w X.K X.mg X.n6 CX0 k f fd ps LN) (M:CO X.K fd ps []) (hr:De (k+2) X.A) (I:Inv X n7 σ H s) {p:R_} {items:List It3} (U:SqL X.K H p (items.map λq=>V.ref q.a)) (B:∀q∈items,H q.a=n8 (.tup (q.ns.map V.int))) (r:items.length<=100000)
  (q:∀(L:R_)(out:List It3)(H':Hp),(∀b u,H b=n8 u->H' b=n8 u)->H' L=n9->out.Perm items->QA out->Q (.ref L) (upd H' L (.lst (out.map λq=>V.ref q.a)))) :
  wpAny (model X.prog X.w) X.A (call (.builtin "sorted") [.ref p] [#["key",.ref f]]) (EP X n7 σ Q) X.xe s:=by
 erw[AI (I.list U) λD rv pl hz=>?_];have ei:D=items.map λq=>Value.ref q.a:=by
  clear pl hz q U r B;induction items generalizing D with
  |nil=>cases rv;rfl
  |cons it items N =>
   cases rv with
   |cons a1 a2 =>
    erw[!(show _=Value.ref it.a from a1),[J0,N _ a2]]
 erw[<-ei,(len:(items.map λq=>Value.ref q.a).length=items.length)=C0 _,(P:items.length<=sizeLine)=C9 r A6,PyProof.Rows.call_function_entry_kw kind_sorted plain_sorted entry_sorted (ksk_s1 _ _) ?_];unfold Builtin.«sorted»;erw[A2e (m:=checkCount "sorted" 1 1 _) (A3c (A2e (collect_list pl.isList (A2e (wpAny_newList ?_ (by erw[[len],P]))) (by erw[[len],P]))))];have G:((s.heap.push (seqObj "list" #[] 0)).update s.heap.objs.size (Obj.mapSeq (· ++ (items.map λq=>Value.ref q.a).toArray))).objs.size=s.heap.objs.size+1:=by
  erw[[Heap.size_update],size_push' ..]
 have h:(((s.heap.push (seqObj "list" #[] 0)).update s.heap.objs.size (Obj.mapSeq (· ++ (items.map λq=>Value.ref q.a).toArray))).push (seqObj "list" (items.map λq=>Value.ref q.a).toArray 0)).get? (s.heap.objs.size+1)=n8 (seqObj "list" (items.map λq=>Value.ref q.a).toArray 0):=by
  have:=F4 ((s.heap.push (seqObj "list" #[] 0)).update s.heap.objs.size (Obj.mapSeq (· ++ (items.map λq=>Value.ref q.a).toArray))) (show(seqObj "list" (items.map λq=>Value.ref q.a).toArray 0).isFreed=o3 from Z);rw[G]at this;erw[this]
 have t:∀b o,s.heap.get? b=n8 o->(((s.heap.push (seqObj "list" #[] 0)).update s.heap.objs.size (Obj.mapSeq (· ++ (items.map λq=>Value.ref q.a).toArray))).push (seqObj "list" (items.map λq=>Value.ref q.a).toArray 0)).get? b=n8 o:=λb o e =>
  C6 _ (by rw[Q9 _ _ _ _ (L9 (F8 e))];exact C6 _ e)
 erw[(_:wpAny (model X.prog X.w) _ _ _ _ {s with heap:=(((s.heap.push (seqObj "list" #[] 0)).update s.heap.objs.size (Obj.mapSeq (· ++ (items.map λq=>Value.ref q.a).toArray))).push (seqObj "list" (items.map λq=>Value.ref q.a).toArray 0))}),[G],R=I.kept (t':=s.toks) t,(v:Ed X n7 H (s.heap.objs.size+1))=I.fpOk (S4 _) (I.hok.fresh (S4 _))];generalize ((s.heap.push (seqObj "list" #[] 0)).update s.heap.objs.size (Obj.mapSeq (· ++ (items.map λq=>Value.ref q.a).toArray))).push (seqObj "list" (items.map λq=>Value.ref q.a).toArray 0)=h1 at h R⊢;erw[A2e (A8e (PyProof.Rows.wpAny_call_entry_kw slot_list_sort (_,h,Z) entry_list_sort ?_ (ksk_l1 _ _))),[ksk_t1],aBQ F M hr.in1.in1 (λs H e=>e.in1.in1) R h v B r λg H' s' c Y up I' kp na ha=>(_,Z,A3c (_,Z,?_))]
 have E:g.toList.Perm (List.range items.length):=by simpa using Y.pm.toList
 erw[(sz:g.size=items.length)=Y.sz,(lt:∀i∈g.toList,i<items.length)=λi hi=>by simpa using (E.mem_iff).mp hi]
 let d:It3:=(0,0,0,[])
 have out:(g.toList.map λi=>items.getD i d).Perm items:=by
  erw[(E.map _).trans (List.Perm.of_eq (List.ext_getElem? λi=>?_)),[C3],(hi:i<items.length)]
  .rw[S7 hi,C7 hi];show n8 (items.getD i d)=_;rw[D9,C7 hi];rfl
  .rw[T8 (by simpa using hi),T8 (M4 hi)];rfl
 have rows:QA (g.toList.map λi=>items.getD i d):=by
  erw[Z8.mpr λi j hi C ij=>?_];rw[C0,F1,sz]at hi C;erw[u=up i j (M0 ij) C,(gi:g.getD i 0=g[i]'A3)=by simp[Array.getD,sz,hi]]
  have gj:g.getD j 0=g[j]'A3:=by simp[Array.getD,sz,C]
  erw[W=lt _ (P2 (l:=g.toList) (n:=i) (by rw[F1];lia)),O=lt _ (P2 (l:=g.toList) (n:=j) (by rw[F1];lia))];rw[S5]at W O;unfold kk at u;rw[gi,gj]at u;rw[K4,K4,S5,S5];generalize g[i]=a at *
  generalize g[j]=b at *
  have:=aCF (rows:=items.map λq=>[q.y,q.x]) (i:=b) (j:=a) (by erw[[C0],O]);rw[A3a (Int.not_lt_of_ge u)]at this;have S:∀{c:Nat},c<items.length->(items.map λq=>[q.y,q.x]).getD c []=[(items.getD c d).y,(items.getD c d).x]:=λ{c} hc=>by
   rw[D9,C3,D9,C7 hc];rfl
  rw[S O,S W]at this;erw[this.symm]
 erw[(.ref (s.heap.objs.size+1),_,I'.track (o:=.lst ((g.toList.map λi=>items.getD i d).map λq=>V.ref q.a)) na (Q4 (C9 I.sz (S4 _))) (Q4 (C9 I.ok.bsz (C9 I.sz (S4 _)))) (A3f v.2.1) v.2.2.2.2.1 v.2.2.2.2.2 (λb M z=>v.2.2.1 (z▸M)) (by erw[[C0,C0,F1,sz],P],_,c,?_,ha),Z,q (s.heap.objs.size+1) _ H' kp na out rows)];have:∀{l:J_},(∀i∈l,i<items.length)->AT ((l.map λi=>items.getD i d).map λq=>V.ref q.a) (l.map λi=>(items.map λq=>Value.ref q.a).getD i Value.none):=by
  intro l;induction l with
  |nil=>intro _;erw[.nil]
  |cons i l N =>
   erw[?T,.cons ?_ (N λj C=>T j (D6 _ C)),(_:Bc (V.ref (items.getD i d).a) ((items.map λq=>Value.ref q.a).getD i Value.none)),[D9,D9,C3,C7 (T i (D5 ..))]];rfl
 erw[this lt]
def aFs(K:O_)(t:TA):TE:=fun σ H Q=>t σ H λvs H1=>∃(p:R_)(items:List It3),vs=[.ref p]/\SqL K H1 p (items.map λq=>V.ref q.a)/\items.length<=100000/\(∀q∈items,H1 q.a=n8 (.tup (q.ns.map V.int)))/\∀(L:R_)(out:List It3)(H':Hp),(∀b u,H1 b=n8 u->H' b=n8 u)->H' L=n9->out.Perm items->QA out->Q (.ref L) (upd H' L (.lst (out.map λq=>V.ref q.a)))
theorem PB{t:TA}{p kp kpos pos:Pos}(c:Cal X.prog X.w X.K X.mg X.n6 CX0 k a ps LN)(R:De (k+2) X.A)(M:Gl X "sorted")(O:X.mg "sorted" = n9)(i:Gl X a)(D:PA X [e] t)(G:(a==("__debug__" : Str))=o3:=by decide)
  (L:backTo pos (starEach [e] X.env)=#[o3,eval e X.env]::backTo pos (starEach [] X.env):=by rfl) (m:(backTo pos (starEach [e] X.env)).any (·.1)=o3:=by rfl):PE X (.Call (.Name "sorted" p) [e] [(n8 "key",.Name a kp,kpos)] pos) (aFs X.K t):=by
 erw[?n7 s σ H Q I h,CG c.ex λf fd F l N E=>A8a (Lk I M O PyProof.Rows.boot_sorted ?_),PyProof.Rows.callWith_kw (thn (D pos n7 s σ H _ I h) λus V ⟨vs,n,u,T,r⟩=>?_) L m Z Z,Ci r λS items d P g j q=>?_,-r,<-d,thn (aDA (nm:=n8 "key") (kpos:=kpos) (aC7 (pos:=kp) i l G) aFY pos n7 V σ n (λzs o=>zs=[.ref f]/\o=n) u (Z,Z)) λY W ⟨zs,o,v,U,B,C⟩=>?_,<-B,<-C];cases T with
 |cons x y =>
  erw[!y,!(show _=Value.ref S from x)];cases U with
  |cons z b2 =>
   erw[!b2,!(show _=Value.ref f from z),VM F E R v P j g q]
end
end L2
namespace J
open PySem L2
theorem asI{N P:K_}{c:Scope}(a:c.kind=.function:=by rfl)(b:c.isCoroutine=o3:=by rfl)(d:c.isGenerator=o3:=by rfl)(e:N.Nodup:=by decide +kernel)(f:N.take P.length=P:=by rfl)(g:∀x∈P,c.names.lookup x=n8 .local∨c.names.lookup x=n8 .cell:=by decide +kernel)(h:∀y∈c.names,y.2≠.free:=by decide +kernel):Au N P c:=(a,b,d,e,f,g,h)
noncomputable def top(i:Nat):Stmt:=PySem.Challenge.pw_jumpfield_k62_whole_change_of_rule.main.body.getD i (.Pass (0,0,0,0))
noncomputable abbrev LZ:Stmt:=top 12
noncomputable abbrev Vv:List Str:=["thing"]
theorem TD:Au Vv Vv (Ah LZ):=asI
noncomputable abbrev Ma:Stmt:=top 19
theorem TF:Au Vv Vv (Ah Ma):=asI
noncomputable abbrev Sc:Stmt:=top 20
abbrev dR:List Str:=["wanted","state"]
theorem aCI:Au dR dR (Ah Sc):=asI
noncomputable abbrev EY:Stmt:=top 24
noncomputable abbrev LR:List Str:=["text","words","cell","conditions"]
noncomputable abbrev Im:List Str:=["text"]
theorem El:Au LR Im (Ah EY):=asI
noncomputable abbrev IP:Stmt:=top 25
noncomputable abbrev Ss:List Str:=["word"]
theorem QE:Au Ss Ss (Ah IP):=asI
noncomputable abbrev Id:Stmt:=top 26
theorem Pl:Au Ss Ss (Ah Id):=asI
noncomputable abbrev EG:Stmt:=top 27
theorem Mx:Au Ss Ss (Ah EG):=asI
noncomputable abbrev Ga:Stmt:=top 28
noncomputable abbrev PV:List Str:=["word","parts"]
theorem Jw:Au PV Ss (Ah Ga):=asI
noncomputable abbrev FZ:Stmt:=top 29
noncomputable abbrev PU:List Str:=["signs","numbers","sign"]
noncomputable abbrev Gp:List Str:=["signs"]
theorem Fy:Au PU Gp (Ah FZ):=asI
noncomputable abbrev EX:Stmt:=top 30
theorem Pm:Au Ss Ss (Ah EX):=asI
noncomputable abbrev Ic:Stmt:=top 33
noncomputable abbrev QK:List Str:=["box","dx","dy"]
theorem Pj:Au QK QK (Ah Ic):=asI
noncomputable abbrev Dr:Stmt:=top 34
noncomputable abbrev Fp:List Str:=["boxes","left","top","right","bottom"]
noncomputable abbrev GU:List Str:=["boxes"]
theorem Em:Au Fp GU (Ah Dr):=asI
noncomputable abbrev Gd:Stmt:=top 39
theorem Ow:Au Im Im (Ah Gd):=asI
noncomputable abbrev JK:Stmt:=top 40
noncomputable abbrev Ug:List Str:=["text","rule"]
theorem Mw:Au Ug Im (Ah JK):=asI
noncomputable abbrev Md:Stmt:=top 41
noncomputable abbrev VA:List Str:=["rule","cell","around","number","clause"]
noncomputable abbrev Mm:List Str:=["rule","cell","around"]
theorem JI:Au VA Mm (Ah Md):=asI
noncomputable abbrev Nz:Stmt:=top 42
noncomputable abbrev YZ:List Str:=["rule","cell","around","number"]
theorem Po:Au YZ Mm (Ah Nz):=asI
noncomputable abbrev IO:Stmt:=top 43
noncomputable abbrev Sr:List Str:=["rule"]
theorem QD:Au Sr Sr (Ah IO):=asI
noncomputable abbrev IQ:Stmt:=top 46
noncomputable abbrev Su:List Str:=["grove","square","parts","a","b","c","d"]
abbrev Ew:List Str:=["grove","square"]
theorem Df:Au Su Ew (Ah IQ):=asI
noncomputable abbrev Mb:Stmt:=top 47
noncomputable abbrev Vy:List Str:=["nine"]
theorem TH:Au Vy Vy (Ah Mb):=asI
noncomputable abbrev DI:Stmt:=top 48
noncomputable abbrev LK:List Str:=["grove","four","parts"]
noncomputable abbrev CK:List Str:=["grove","four"]
theorem Fl:Au LK CK (Ah DI):=asI
noncomputable abbrev Ie:Stmt:=top 53
noncomputable abbrev QM:List Str:=["box","limit"]
theorem Pn:Au QM QM (Ah Ie):=asI
noncomputable abbrev LY:Stmt:=top 54
noncomputable abbrev Vu:List Str:=["grove","field"]
theorem TC:Au Vu Vu (Ah LY):=asI
noncomputable abbrev IS:Stmt:=top 55
noncomputable abbrev Sz:List Str:=["grove"]
theorem QF:Au Sz Sz (Ah IS):=asI
noncomputable abbrev Nq:Stmt:=top 56
noncomputable abbrev YV:List Str:=["grove","square","level","parts","bare"]
theorem IL:Au YV Ew (Ah Nq):=asI
noncomputable abbrev Nr:Stmt:=top 57
noncomputable abbrev YW:List Str:=["grove","square","kept"]
theorem LW:Au YW Ew (Ah Nr):=asI
noncomputable abbrev GP:Stmt:=top 58
noncomputable abbrev Op:List Str:=["grove","square","inner"]
theorem Mz:Au Op Ew (Ah GP):=asI
noncomputable abbrev EH:Stmt:=top 59
noncomputable abbrev NL:List Str:=["grove","square","bare","place","quarter","part_place","part"]
theorem BV:Au NL Ew (Ah EH):=asI
noncomputable abbrev FY:Stmt:=top 60
noncomputable abbrev PR:List Str:=["grove","field","box","wide"]
noncomputable abbrev Gn:List Str:=["grove","field","box"]
theorem Fw:Au PR Gn (Ah FY):=asI
noncomputable abbrev IN:Stmt:=top 61
noncomputable abbrev Sn:List Str:=["grove","field","level","wide"]
noncomputable abbrev Jc:List Str:=["grove","field","level"]
theorem Ia:Au Sn Jc (Ah IN):=asI
noncomputable abbrev Nt:Stmt:=top 62
noncomputable abbrev YX:List Str:=["grove","field","x","y","state","place","wide","half"]
noncomputable abbrev NF:List Str:=["grove","field","x","y","state"]
theorem IM:Au YX NF (Ah Nt):=asI
noncomputable abbrev LX:Stmt:=top 63
noncomputable abbrev Vt:List Str:=["grove","square","x","y","state","level","half","parts","place"]
noncomputable abbrev Go:List Str:=["grove","square","x","y","state"]
theorem Ee:Au Vt Go (Ah LX):=asI
noncomputable abbrev Mc:Stmt:=top 64
noncomputable abbrev Vz:List Str:=["grove","cells","field","cell"]
noncomputable abbrev Ml:List Str:=["grove","cells"]
theorem GO:Au Vz Ml (Ah Mc):=asI
noncomputable abbrev Ny:Stmt:=top 67
noncomputable abbrev YY:List Str:=["cell"]
theorem Vg:Au YY YY (Ah Ny):=asI
noncomputable abbrev Mf:Stmt:=top 68
noncomputable abbrev VB:List Str:=["grove","field","reach","cells"]
theorem JJ:Au VB Vu (Ah Mf):=asI
noncomputable abbrev Gc:Stmt:=top 69
noncomputable abbrev PX:List Str:=["grove","square","left","top","cells","level","half","place","quarter"]
noncomputable abbrev Dx:List Str:=["grove","square","left","top","cells"]
theorem Ct:Au PX Dx (Ah Gc):=asI
noncomputable abbrev Pu:Stmt:=top 70
abbrev dP:List Str:=["grove","field","box","reach"]
theorem Nm:Au dP Vu (Ah Pu):=asI
noncomputable abbrev Vj:Stmt:=top 72
noncomputable abbrev dU:List Str:=["jumps","field","n","tuples"]
noncomputable abbrev Vm:List Str:=["jumps","field","n"]
theorem Wy:Au dU Vm (Ah Vj):=asI
noncomputable abbrev Vi:Stmt:=top 73
noncomputable abbrev dS:List Str:=["jumps","field","n","grove","told","here","rest","e","square","result"]
theorem Ek:Au dS Vm (Ah Vi):=asI
noncomputable abbrev IR:Stmt:=top 74
noncomputable abbrev Sw:List Str:=["grove","field","n","box"]
noncomputable abbrev Jf:List Str:=["grove","field","n"]
theorem LO:Au Sw Jf (Ah IR):=asI
noncomputable abbrev JL:Stmt:=top 75
noncomputable abbrev Uh:List Str:=["grove","field","e","reach","level"]
noncomputable abbrev JX:List Str:=["grove","field","e"]
theorem FL:Au Uh JX (Ah JL):=asI
noncomputable abbrev NA:Stmt:=top 77
noncomputable abbrev Za:List Str:=["_law_script","_law_k"]
theorem Vh:Au Za Za (Ah NA):=asI
noncomputable abbrev Mg:Stmt:=top 78
noncomputable abbrev VC:List Str:=["_law_cell","_law_k","_law_value"]
noncomputable abbrev EQ:List Str:=["_law_cell","_law_k"]
theorem Ol:Au VC EQ (Ah Mg):=asI
noncomputable abbrev Fz:Stmt:=top 79
noncomputable abbrev OB:List Str:=["_law_mains","_law_value"]
theorem Nn:Au OB OB (Ah Fz):=asI
noncomputable abbrev CJ:Stmt:=top 80
noncomputable abbrev FH:List Str:=["_law_mains","_law_seed","_law_j","_law_wanted","_law_k","_law_value","_law_mask"]
noncomputable abbrev DK:List Str:=["_law_mains","_law_seed","_law_j"]
theorem BR:Au FH DK (Ah CJ):=asI
noncomputable abbrev EI:Stmt:=top 81
noncomputable abbrev NM:List Str:=["_law_mains","_law_seed","_law_j","_law_taken","_law_conditions","_law_k"]
theorem Cu:Au NM DK (Ah EI):=asI
noncomputable abbrev IU:Stmt:=top 82
noncomputable abbrev SB:List Str:=["_law_condition","_law_around","_law_k","_law_many","_law_state"]
noncomputable abbrev Jh:List Str:=["_law_condition","_law_around"]
theorem DN:Au SB Jh (Ah IU):=asI
noncomputable abbrev Gf:Stmt:=top 83
noncomputable abbrev Qa:List Str:=["_law_clauses","_law_cell","_law_around","_law_at_here","_law_fits","_law_condition"]
noncomputable abbrev Gw:List Str:=["_law_clauses","_law_cell","_law_around"]
theorem CY:Au Qa Gw (Ah Gf):=asI
noncomputable abbrev Gh:Stmt:=top 84
noncomputable abbrev Qc:List Str:=["_law_clauses","_law_cell","_law_around","_law_at_here"]
theorem Jx:Au Qc Gw (Ah Gh):=asI
noncomputable abbrev Er:Stmt:=top 85
noncomputable abbrev MR:List Str:=["_law_script","_law_first","_law_many","_law_mains","_law_clauses","_law_k"]
noncomputable abbrev Ex:List Str:=["_law_script","_law_first","_law_many"]
theorem Cj:Au MR Ex (Ah Er):=asI
noncomputable abbrev Fn:Stmt:=top 86
noncomputable abbrev Lf:List Str:=["_law_condition"]
theorem RY:Au Lf Lf (Ah Fn):=asI
noncomputable abbrev GQ:Stmt:=top 87
noncomputable abbrev Oq:List Str:=["_law_clauses","_law_parts","_law_clause","_law_words"]
noncomputable abbrev La:List Str:=["_law_clauses"]
theorem FM:Au Oq La (Ah GQ):=asI
noncomputable abbrev Gg:Stmt:=top 88
noncomputable abbrev Qb:List Str:=["_law_cell"]
theorem Ox:Au Qb Qb (Ah Gg):=asI
noncomputable abbrev Ig:Stmt:=top 89
noncomputable abbrev QN:List Str:=["_law_states","_law_some","_law_place"]
noncomputable abbrev Fc:List Str:=["_law_states"]
theorem FX:Au QN Fc (Ah Ig):=asI
noncomputable abbrev Ef:Stmt:=top 90
noncomputable abbrev GV:List Str:=["_law_clauses","_law_states","_law_offsets","_law_found","_law_xs","_law_ys","_law_y","_law_x","_law_around","_law_state"]
noncomputable abbrev Lb:List Str:=["_law_clauses","_law_states"]
theorem Cb:Au GV Lb (Ah Ef):=asI
noncomputable abbrev FA:Stmt:=top 91
noncomputable abbrev OC:List Str:=["_law_script","_law_first","_law_many","_law_left","_law_top","_law_mains","_law_states","_law_k","_law_value"]
noncomputable abbrev FD:List Str:=["_law_script","_law_first","_law_many","_law_left","_law_top"]
theorem CL:Au OC FD (Ah FA):=asI
noncomputable abbrev IT:Stmt:=top 92
noncomputable abbrev SA:List Str:=["_law_found","_law_due","_law_k","_law_number"]
noncomputable abbrev Jg:List Str:=["_law_found","_law_due"]
theorem Ib:Au SA Jg (Ah IT):=asI
noncomputable abbrev Ge:Stmt:=top 93
abbrev PZ:List Str:=["_law_clauses","_law_states","_law_rows","_law_k"]
theorem DT:Au PZ Lb (Ah Ge):=asI
noncomputable abbrev Rf:Stmt:=top 94
noncomputable abbrev WO:List Str:=["_law_script","_law_some","_law_k","_law_heaps","_law_left","_law_many","_law_due","_law_rules","_law_grove","_law_fields","_law_pair","_law_holds_here","_law_at_here","_law_value","_law_one","_law_which","_law_n","_law_found"]
noncomputable abbrev aD1:List Str:=["_law_script"]
theorem CQ:Au WO aD1 (Ah Rf):=asI
noncomputable abbrev Gk:Stmt:=Bg (top 21) 0
noncomputable abbrev Qf:List Str:=["self","state","numbers"]
theorem OA:Au Qf Qf (Ah Gk):=asI
noncomputable abbrev FB:Stmt:=Bg (top 21) 1
noncomputable abbrev OD:List Str:=["self","around"]
theorem Np:Au OD OD (Ah FB):=asI
noncomputable abbrev Ih:Stmt:=Bg (top 22) 0
noncomputable abbrev QO:List Str:=["self","wanted"]
theorem Pp:Au QO QO (Ah Ih):=asI
noncomputable abbrev Et:Stmt:=Bg (top 22) 1
theorem Oy:Au OD OD (Ah Et):=asI
noncomputable abbrev Ij:Stmt:=Bg (top 23) 0
noncomputable abbrev QR:List Str:=["self","cell","conditions","makes"]
theorem Ps:Au QR QR (Ah Ij):=asI
noncomputable abbrev Fa:Stmt:=Bg (top 23) 1
noncomputable abbrev LS:List Str:=["self","cell","around"]
theorem Pt:Au LS LS (Ah Fa):=asI
noncomputable abbrev Jb:Stmt:=Bg (top 35) 0
noncomputable abbrev SH:List Str:=["self","state","level","bare"]
noncomputable abbrev Jk:List Str:=["self"]
theorem EW:Au SH Jk (Ah Jb):=asI
noncomputable abbrev Ja:Stmt:=Bg (top 35) 1
noncomputable abbrev SG:List Str:=["self","parts","level","number"]
noncomputable abbrev FR:List Str:=["self","parts","level"]
theorem LP:Au SG FR (Ah Ja):=asI
noncomputable abbrev Gj:Stmt:=Bg (top 35) 2
noncomputable abbrev Qe:List Str:=["self","parts","number"]
noncomputable abbrev Bh:List Str:=["self","parts"]
theorem Jz:Au Qe Bh (Ah Gj):=asI
noncomputable abbrev Du:Stmt:=Bg (top 35) 3
noncomputable abbrev Lj:List Str:=["self","square"]
theorem JD:Au Lj Lj (Ah Du):=asI
noncomputable abbrev IZ:Stmt:=Bg (top 35) 4
noncomputable abbrev SF:List Str:=["self","state"]
theorem QI:Au SF SF (Ah IZ):=asI
noncomputable abbrev EK:Stmt:=Bg (top 35) 7
theorem MC:Au Lj Lj (Ah EK):=asI
noncomputable abbrev EJ:Stmt:=Bg (top 35) 9
theorem MB:Au Lj Lj (Ah EJ):=asI
noncomputable abbrev Gi:Stmt:=Bg (top 35) 10
theorem Oz:Au Lj Lj (Ah Gi):=asI
noncomputable abbrev DU:Stmt:=Bg (top 35) 11
noncomputable abbrev JA:List Str:=["self","square","amount"]
theorem DA:Au JA Lj (Ah DU):=asI
noncomputable abbrev IW:Stmt:=Bg (top 35) 12
theorem QH:Au Lj Lj (Ah IW):=asI
noncomputable abbrev EZ:Stmt:=Bg (top 35) 13
noncomputable abbrev QQ:List Str:=["self","square","box"]
theorem Ep:Au QQ Lj (Ah EZ):=asI
noncomputable abbrev DC:Stmt:=Bg (top 35) 14
noncomputable abbrev NP:List Str:=["self","square","level","half","boxes","place","quarter","box"]
theorem BG:Au NP Lj (Ah DC):=asI
noncomputable abbrev GR:Stmt:=Bg (top 38) 0
noncomputable abbrev Os:List Str:=["self","text"]
theorem RZ:Au Os Os (Ah GR):=asI
noncomputable abbrev IV:Stmt:=Bg (top 49) 0
noncomputable abbrev SD:List Str:=["self","grove","rule"]
theorem QG:Au SD SD (Ah IV):=asI
noncomputable abbrev Eu:Stmt:=Bg (top 49) 1
noncomputable abbrev Li:List Str:=["self","rule","text"]
noncomputable abbrev Ez:List Str:=["self","rule"]
theorem Jy:Au Li Ez (Ah Eu):=asI
noncomputable abbrev Ii:Stmt:=Bg (top 49) 2
noncomputable abbrev QP:List Str:=["self","square","e"]
theorem Pq:Au QP QP (Ah Ii):=asI
noncomputable abbrev DY:Stmt:=Bg (top 49) 3
noncomputable abbrev Mo:List Str:=["self","square","e","level"]
theorem FF:Au Mo QP (Ah DY):=asI
noncomputable abbrev DB:Stmt:=Bg (top 49) 4
noncomputable abbrev NN:List Str:=["self","square","e","result"]
theorem En:Au NN QP (Ah DB):=asI
noncomputable abbrev CA:Stmt:=Bg (top 49) 5
noncomputable abbrev Fd:List Str:=["self","square","e","grove","level","nine"]
theorem Eo:Au Fd QP (Ah CA):=asI
noncomputable abbrev Bw:Stmt:=Bg (top 49) 6
noncomputable abbrev Dy:List Str:=["self","square","e","nine"]
theorem ED:Au Dy QP (Ah Bw):=asI
noncomputable abbrev Dt:Stmt:=Bg (top 49) 7
noncomputable abbrev Lh:List Str:=["self","square","parts","a","b","c","d"]
theorem Bm:Au Lh Lj (Ah Dt):=asI
noncomputable abbrev CS:Stmt:=Bg (top 49) 8
noncomputable abbrev GD:List Str:=["self","leaves","leaf","states"]
noncomputable abbrev Eb:List Str:=["self","leaves"]
theorem CI:Au GD Eb (Ah CS):=asI
structure Ad where
Q3:Addr
b_:Addr
Y_:Addr
L0:Addr
l4:Addr
J5:Addr
structure Top(K:O_)(mg:C_)(a:Ad):Prop where
aDp:mg "all" = n9
aAs:mg "bool" = n9
g_:mg "enumerate" = n9
aAQ:mg "int" = n9
U_:mg "isinstance" = n9
j_:mg "len" = n9
aAt:mg "list" = n9
aAM:mg "max" = n9
aAN:mg "min" = n9
V_:mg "range" = n9
aAR:mg "sorted" = n9
aAS:mg "str" = n9
aGV:mg "sum" = n9
l_:mg "tuple" = n9
aGW:mg "zip" = n9
aAT:∃t,mg "STATES" = n8 (.int 8 t)
aAH:∃t,mg "NEIGHBOURS" = n8 (.int 8 t)
aAK:∃t,mg "STATE_FIGURES" = n8 (.str (Str.ofString "01234567") t)
aAJ:∃t,mg "AMOUNT_FIGURES" = n8 (.str (Str.ofString "012345678") t)
aAV:∃t,mg "ANY_SIGN" = n8 (.str (Str.ofString "*") t)
aAC:∃t,mg "TOP_LEVEL" = n8 (.int 48 t)
aAL:∃t,mg "CLAUSE_MARK" = n8 (.str (Str.ofString "; ") t)
d_:∃t,mg "LEAST_JUMPED" = n8 (.int 2 t)
aAW:∃t,mg "LIMIT" = n8 (.int 1099511627776 t)
f_:∃t,mg "LEAST_LEVEL" = n8 (.int 1 t)
aAP:∃t,mg "MOST_CELLS" = n8 (.int 4096 t)
aAX:mg "Amounts" = n8 (.ref a.Q3)
aAA:Cls K a.Q3
m9:BP K a.Q3 "state"
l5:BP K a.Q3 "numbers"
aBY:mg "Places" = n8 (.ref a.b_)
aAO:Cls K a.b_
m_:BP K a.b_ "wanted"
aBX:mg "Clause" = n8 (.ref a.Y_)
k_:Cls K a.Y_
aAD:BP K a.Y_ "cell"
h_:BP K a.Y_ "conditions"
aAB:BP K a.Y_ "makes"
aCi:mg "Grove" = n8 (.ref a.L0)
J4:Cls K a.L0
Q1:BP K a.L0 "levels"
L3:BP K a.L0 "parts"
e_:BP K a.L0 "numbers"
Q2:BP K a.L0 "bares"
a_:BP K a.L0 "amounts"
l7:BP K a.L0 "boxes"
aEw:mg "Rule" = n8 (.ref a.l4)
aAG:Cls K a.l4
aAI:BP K a.l4 "text"
i_:BP K a.l4 "clauses"
aCj:mg "Jumps" = n8 (.ref a.J5)
L4:Cls K a.J5
M3:BP K a.J5 "grove"
W_:BP K a.J5 "memories"
aAF:BP K a.J5 "rule"
X_:BP K a.J5 "known_squares"
Z_:BP K a.J5 "known_cells"
seal L2.PA L2.PE L2.PS L2.PSs L2.PT L2.PW
inductive Bl where
|am (s:Int) (ns:I_)
|pl (ws:List (Option Int))
structure Ba where
cell:Option Int
conds:List Bl
makes:Int
abbrev Aw:=List Ba
noncomputable def Iu:Option Int->V
|none=>.non
|some i=>.int i
noncomputable def Dq(w:Option Int)(s:Int):Bool:=match w with
|none=>o0
|some i=>decide (i=s)
noncomputable def Bl.holds(ar:I_):Bl->Bool
|.am s ns=>ns.any λn=>decide (n=((ar.countP (· == s):Nat):Int))
|.pl ws=>(ws.zip ar).all λp=>Dq p.1 p.2
noncomputable def Ba.fits(cell:Int)(ar:I_)(c:Ba):Bool:=Dq c.cell cell && c.conds.all (Bl.holds ar)
noncomputable def JE(r:Aw)(cell:Int)(ar:I_):Option Nat:=r.findIdx? (Ba.fits cell ar)
noncomputable def CF(r:Aw)(cell:Int)(ar:I_):Int:=match r.find? (Ba.fits cell ar)with
|none=>cell
|some c=>c.makes
noncomputable def fl1(f:Str)(a:V):List (Str×V):=AU f a []
noncomputable def fl2(f g:Str)(a b:V):List (Str×V):=AU g b (AU f a [])
noncomputable def fl3(f g h:Str)(a b c:V):List (Str×V):=AU h c (AU g b (AU f a []))
theorem aDu:(fl1 f a).lookup f=n8 a:=by unfold fl1;rw[Ak,A2h rfl]
theorem ST(h:¬m=f):(fl1 f a).lookup m=n9:=by unfold fl1;rw[Ak,A2f h];rfl
theorem aA8(h:¬f=g):(fl2 f g a b).lookup f=n8 a:=by unfold fl2;rw[Ak,A2f h,Ak,A2h rfl]
theorem aA9:(fl2 f g a b).lookup g=n8 b:=by unfold fl2;rw[Ak,A2h rfl]
theorem aEa(c:¬m=f)(d:¬m=g):(fl2 f g a b).lookup m=n9:=by unfold fl2;rw[Ak,A2f d,Ak,A2f c];rfl
theorem aGg{a b c:V}(d:¬f=g)(e:¬f=h):(fl3 f g h a b c).lookup f=n8 a:=by unfold fl3;rw[Ak,A2f e,Ak,A2f d,Ak,A2h rfl]
theorem aGh{a b c:V}(d:¬g=h):(fl3 f g h a b c).lookup g=n8 b:=by unfold fl3;rw[Ak,A2f d,Ak,A2h rfl]
theorem aDv{a b c:V}:(fl3 f g h a b c).lookup h=n8 c:=by unfold fl3;rw[Ak,A2h rfl]
theorem aEb{a b c:V}(d:¬m=f)(e:¬m=g)(i:¬m=h):(fl3 f g h a b c).lookup m=n9:=by unfold fl3;rw[Ak,A2f i,Ak,A2f e,Ak,A2f d];rfl
theorem TU(f:Str)(v:V):∀l:List (Str×V),(AU f v l).length<=l.length+1
|[]=>C1 _
| (g,w)::r=>by
 unfold AU;split
 .erw[S4 _]
 .erw[[F2,F2],R3 (TU f v r)]
theorem An(h:H p=n9):As H (upd H p o):=λb u e=>by
 erw[[Aq (Am e h)],e]
theorem alc(h:H p=n9)(e:upd H p o=a):As H a/\a p=n8 o:=e▸(An h,Af)
inductive DM(a:Ad)(H:Hp):Addr->Bl->Prop where
|am {p t dx:R_} {s:Int} {ns:I_} (h:H p=n8 (.ins a.Q3 dx (fl2 "state" "numbers" (.int s) (.ref t)))) (ht:H t=n8 (.tup (ns.map V.int))):DM a H p (.am s ns)
|pl {p t dx:R_} {ws:List (Option Int)} (h:H p=n8 (.ins a.b_ dx (fl1 "wanted" (.ref t)))) (ht:H t=n8 (.tup (ws.map Iu))):DM a H p (.pl ws)
structure Cm(a:Ad)(H:Hp)(p:R_)(c:Ba):Prop where
ex:∃(dx t:R_)(cs:H_),H p=n8 (.ins a.Y_ dx (fl3 "cell" "conditions" "makes" (Iu c.cell) (.ref t) (.int c.makes)))/\H t=n8 (.tup (cs.map V.ref))/\Paired (DM a H) cs c.conds
structure BL(a:Ad)(H:Hp)(p:R_)(x:Str)(r:Aw):Prop where
ex:∃(dx t:R_)(cs:H_),H p=n8 (.ins a.l4 dx (fl2 "text" "clauses" (.str x) (.ref t)))/\H t=n8 (.tup (cs.map V.ref))/\Paired (Cm a H) cs r
theorem Paired.imp{α β:Type}{F G:α->β->Prop}(h:∀x y,F x y->G x y):∀{l:List α}{m:List β},Paired F l m->Paired G l m
|_,_,.nil=>.nil
|_,_,.cons r t=>.cons (h _ _ r) (Paired.imp h t)
theorem Paired.get{α β:Type}{F:α->β->Prop}:∀{l:List α}{m:List β}{i:Nat}{x:α},Paired F l m->l[i]?=n8 x->∃y,m[i]?=n8 y/\F x y
|_,_,_,_,.nil,e=>by simp at e
|_,_,0,_,.cons r _,e=>by simp at e;subst e;exact(_,Z,r)
|_,_,i+1,x,.cons _ t,e=>by
 erw[xea (Paired.get (i:=i) (x:=x) t (by simpa using e)) λy a b=>(y,by simpa using a,b)]
theorem DM.same{c:Bl}(s:As H d)(h:DM a H p c):DM a d p c:=by
 cases h with
 |am h b=>erw[.am (s _ _ h) (s _ _ b)]
 |pl h b=>erw[.pl (s _ _ h) (s _ _ b)]
theorem Cm.same{a:Ad}{H b:Hp}{p:R_}{c:Ba}(s:As H b)(h:Cm a H p c):Cm a b p c:=by
 erw[Dl h.ex λd t cs e f g=>(d,t,cs,s _ _ e,s _ _ f,Paired.imp (λ_ _ z=>z.same s) g)]
theorem BL.same{a:Ad}{H b:Hp}{p:R_}{x:Str}{r:Aw}(s:As H b)(h:BL a H p x r):BL a b p x r:=by
 erw[Dl h.ex λc t cs d e f=>(c,t,cs,s _ _ d,s _ _ e,Paired.imp (λ_ _ z=>z.same s) f)]
theorem SN(n:Int)(ns:I_):inV (.int n) (ns.map V.int)=ns.any λm=>decide (m=n):=by
 erw[¬inV,[List.any_map]];congr 1
theorem Rv(ns:I_):(ns.map V.int).all MZ=o0:=by
 erw[[List.all_map],U5.mpr λ_ _=>Z]
theorem Jq(i j:Int):decide (V.int i=V.int j)=decide (i=j):=by
 erw[(h:i=j)]
 .rw[A2g h,A2g (by rw[h])]
 .rw[A3a h,A3a λz=>h (by injection z)]
section
variable{P:N_}{w:Q_}{K:O_}{mg:C_}{n6:T_}{a:Ad}
inductive Yh(vs:List V)(H:Hp)(Q:VK):Prop
|mk (x:Option Int) (s:Int) (_:vs=[Iu x,.int s]) (_:Q (.bl (Dq x s)) H):Yh vs H Q
def OJ:Sp:=λvs H Q _=>Yh vs H Q
theorem aB3(F:Fun K "takes" "takes" Sc f fd):AJ P w K mg n6 CX0 1 f fd dR OJ:=by
 erw[F.ok aCI D_9 λc A b s H vs Q E d h=>?_]
 erw[(x,s,rfl,k)=h,(_,(Ag (Av (aHG (FO Jl pv0 Dw (AF _)) (NE (FO DR pv0 pv1 (AF _)))))),?_),xq1 Z (Z,(xq1 Z ?_))];cases x with
 |none=>erw[Cy k]
 |some i =>
  have e:decide (Iu (n8 i)=V.int s)=Dq (n8 i) s:=Jq i s;rw[<-e]at k;erw[Bj (xw2 Z Z (Z,k))]
inductive UT(a:Ad)(vs:List V)(H:Hp)(Q:VK):Prop
|mk (p t dx:R_) (s:Int) (_:vs=[.ref p,.int s,.ref t]) (_:H p=n8 (.ins a.Q3 dx [])) (_:Q .non (upd H p (.ins a.Q3 dx (fl2 "state" "numbers" (.int s) (.ref t))))):UT a vs H Q
def Pi(a:Ad):Sp:=λvs H Q _=>UT a vs H Q
theorem YQ(F:Fun K "__init__" "Amounts.__init__" Gk f fd)(T:Top K mg a):AJ P w K mg n6 CX0 1 f fd Qf (Pi a):=by
 erw[F.ok OA D_9 λd A b s H vs Q E g h=>?_]
 erw[(p,t,c,s,rfl,e,k)=h,(_,(Ac (CT pv0 pv1 Z) (Ag (CT pv0 pv2 Z))),?_),xw2 Z Z (p,_,c,[],Z,e,T.aAA,T.m9,B5,(xw2 Z Z (p,_,c,(xq1 Z (Af,T.aAA,T.l5,B9,?_))))),[FK],k]
inductive UR(a:Ad)(vs:List V)(H:Hp)(Q:VK):Prop
|mk (p t dx:R_) (_:vs=[.ref p,.ref t]) (_:H p=n8 (.ins a.b_ dx [])) (_:Q .non (upd H p (.ins a.b_ dx (fl1 "wanted" (.ref t))))):UR a vs H Q
def Pf(a:Ad):Sp:=λvs H Q _=>UR a vs H Q
theorem YN(F:Fun K "__init__" "Places.__init__" Ih f fd)(T:Top K mg a):AJ P w K mg n6 CX0 1 f fd QO (Pf a):=by
 erw[F.ok Pp D_9 λc A b s H vs Q E g h=>?_]
 erw[(p,t,d,rfl,e,k)=h,(_,(Ag (CT pv0 pv1 Z)),?_),xw2 Z Z (p,_,d,[],Z,e,T.aAO,T.m_,B5,k)]
inductive US(a:Ad)(vs:List V)(H:Hp)(Q:VK):Prop
|mk (p t dx:R_) (c:Option Int) (m:Int) (_:vs=[.ref p,Iu c,.ref t,.int m]) (_:H p=n8 (.ins a.Y_ dx [])) (_:Q .non (upd H p (.ins a.Y_ dx (fl3 "cell" "conditions" "makes" (Iu c) (.ref t) (.int m))))):US a vs H Q
def Ph(a:Ad):Sp:=λvs H Q _=>US a vs H Q
theorem YO(F:Fun K "__init__" "Clause.__init__" Ij f fd)(T:Top K mg a):AJ P w K mg n6 CX0 1 f fd QR (Ph a):=by
 erw[F.ok Ps D_9 λe A d s H vs Q E i h=>?_]
 erw[(p,t,b,c,m,rfl,g,k)=h,(_,(Ac (CT pv0 pv1 Z) (Ac (CT pv0 pv2 Z) (Ag (CT pv0 pv3 Z)))),?_),(_,Z,_,Z,p,_,b,[],Z,g,T.k_,T.aAD,B5,_,Z,_,Z,p,_,b,_,Z,Af,T.k_,T.h_,B9,_,Z,_,Z,p,_,b,_,Z,Af,T.k_,T.aAB, F3 (TU _ _ _) (by show 2<1000;decide),?_)]
 erw[[FK,FK],k]
def Nk(a:Ad):Sp:=λvs H Q E=>(∃(p l t dx:R_)(s:Int)(ns ar:I_),vs=[.ref p,.ref l]/\H p=n8 (.ins a.Q3 dx (fl2 "state" "numbers" (.int s) (.ref t)))/\H t=n8 (.tup (ns.map V.int))/\H l=n8 (.lst (ar.map V.int))/\Q (.bl (Bl.holds ar (.am s ns))) H)
theorem Vp(F:Fun K "holds" "Amounts.holds" FB f fd)(T:Top K mg a):AJ P w K mg n6 CX0 1 f fd OD (Nk a):=by
 erw[F.ok Np (λvs H Q E h=>?_) (λg A b s H vs Q E m h=>?_)]
 .erw[(p,l,t,i,s,ns,c,rfl,_)=h];rfl
 .erw[(p,l,t,i,s,ns,c,rfl,e,j,d,k)=h,(_,(Ag (Av (FO NI (Dm A4a PySem.F.slot_list_count PySem.F.type_list_count aBg pv1 (Aa (AA pv0 Z) Ab)) (AA pv0 Z) Z))),?_),xq1 Z (.inl (Z,_,SqL.of d),(xwf Z Z e T.aAA T.m9 (aA8 A0) (l,c,s,Z,Z,d,(xwf Z Z e T.aAA T.l5 aA9 (t,(xq1 Z (.inr (SqT.of j),Z,Rv ns,?_))))))),(_:Q (.bl (inV _ _)) H),[SN],k]
inductive RK(a:Ad)(vs:List V)(H:Hp)(Q:VK):Prop
|mk (p l t dx:R_) (ws:List (Option Int)) (ar:I_) (_:vs=[.ref p,.ref l]) (_:H p=n8 (.ins a.b_ dx (fl1 "wanted" (.ref t)))) (_:H t=n8 (.tup (ws.map Iu))) (_:H l=n8 (.lst (ar.map V.int))) (_:ws.length<=100) (_:∀H',As H H'->Q (.bl (Bl.holds ar (.pl ws))) H'):RK a vs H Q
def Nj(a:Ad):Sp:=λvs H Q _=>RK a vs H Q
theorem Vo(F:Fun K "holds" "Places.holds" Et f fd)(T:Top K mg a)(L:Cal P w K mg n6 CX0 1 "takes" dR OJ):AJ P w K mg n6 CX0 2 f fd OD (Nj a):=by
 erw[F.ok Oy D_9 λM A r s H vs Q E W h=>?_]
 erw[(p,l,t,dx,b,d,rfl,U,D,C,X,k)=h,(_,(Ag (Av (AH (UM Z) Z T.aDp PyProof.Rows.boot_all (Aa (Cc Z (Bd.of (So:=Ah Et) (No:=OD) (N:=["one","state"]) (k:=2) (cs:=[]) Z Z A0) (aFX o0 o3 Z T.aGW (Aa (AA pv0 Z) (Aa pv1 Ab))) (λ_ _ _=>(TX (i:=0) (j:=1) Z A0 Z Z Z Z)) (λ_ _ _=>Be) (λ_ _ _=>(AB L W (Aa pv0 (Aa pv1 Ab))))) Ab)))),?_),xwf Z Z U T.aAO T.m_ aDu (xq1 Z (t,l,Z,(_,SqT.of D),(_,SqL.of C),?_)),aCO (xs:=b.map Iu) (ys:=d.map V.int) (λi c n=>As H n/\c=(((b.zip d).take i).map λp=>V.bl (Dq p.1 p.2))) (As.refl H,Z) (λi c n z=>(SqT.of (z.1 _ _ D),SqL.of (z.1 _ _ C))) ?_ ?_]
 .erw[?i x y c n T' G I v Y,(u,rfl)=v];rw[C3]at G I;erw[xea (D7.mp G) λo R g=>?_,<-g,xea (D7.mp I) λm O g=>?_,<-g,(S:(b.zip d)[i]?=n8 #[o,m])=by erw[[Z9],(R,O)]]
  erw[Ql Af (([n8 (Iu o),n8 (.int m)],Z,Z),?_,?_)]
  .have:((((b.zip d).take i).map λp=>V.bl (Dq p.1 p.2))).length<=b.length:=by
    rw[C0,J8,A0e];omega
   erw[F3 (C9 this X) A6]
  .erw[EF (xw2 Z Z (o,m,Z,u.trans (An Y),?_)),[F9,S,D4]];rfl
 .erw[?c n B q nq,(u,rfl)=B,(len:min (b.map Iu).length (d.map V.int).length=(b.zip d).length)=by rw[C0,C0,A0e]]
  erw[[len,J7],(q,(b.zip d).map (λp=>Dq p.1 p.2),Z,SqL.of (by rw[Af,N5];rfl),?_),(e:((b.zip d).map (λp=>Dq p.1 p.2)).all id=Bl.holds d (.pl b))=by rw[List.all_map];rfl]
  erw[[e],k _ (u.trans (An nq))]
inductive aAb(a:Ad)(vs:List V)(H:Hp)(Q:VK):Prop
|mk (p l:R_) (c:Ba) (cell:Int) (ar:I_) (_:vs=[.ref p,.int cell,.ref l]) (_:Cm a H p c) (_:c.conds.length<=100) (_:(∀d∈c.conds,∀ws,d=Bl.pl ws->ws.length<=100)) (_:H l=n8 (.lst (ar.map V.int))) (_:∀H',As H H'->Q (.bl (c.fits cell ar)) H'):aAb a vs H Q
def Ve(a:Ad):Sp:=λvs H Q _=>aAb a vs H Q
theorem aCs(F:Fun K "fits" "Clause.fits" Fa f fd)(T:Top K mg a)(cO:Cal P w K mg n6 CX0 1 "takes" dR OJ)(r:BY P w K mg n6 CX0 1 a.Q3 "holds" OD (Nk a))(u:BY P w K mg n6 CX0 2 a.b_ "holds" OD (Nj a)) :
 AJ P w K mg n6 CX0 3 f fd LS (Ve a):=by
 erw[F.ok Pt D_9 λaa A L s H vs Q E I h=>?_]
 erw[(p,l,c,cell,g,rfl,hC,hn,G,X,k)=h,Dl hC.ex λdx t cs Y ht y=>(_,(Ag (Av (Mj (AB cO I (Aa (AA pv0 Z) (Aa pv1 Ab))) (NE (AH (UM Z) Z T.aDp PyProof.Rows.boot_all (Aa (Cc Z (Bd.of (So:=Ah Fa) (No:=LS) (N:=["condition","around"]) (k:=1) (cs:=[2]) Z Z A0) (Py (AA pv0 Z)) (λ_ _ _=>(AW (i:=0) A0 Z Z)) (λ_ _ _=>Be) (λ_ _ _=>(PE.or (AD pv0 r (rm I) AQ (Aa pv1 Ab)) (AD pv0 u (rm I) AQ (Aa pv1 Ab))))) Ab)))))),?_)]
 erw[xwf Z Z Y T.k_ T.aAD (aGg A0 A0) (xq1 Z (c.cell,cell,Z,Dq c.cell cell,Z,?_))];cases W:Dq c.cell cell with
 |false =>
  erw[Bj ?_];have:=k H (As.refl H);unfold Ba.fits at this;rw[W]at this;erw[this]
 |true =>
  erw[Cy ?_,xwf Z Z Y T.k_ T.h_ (aGh A0) (t,Z,(_,SqT.of ht),?_),OX (xs:=cs.map V.ref) (λi j m=>As H m/\j=((c.conds.take i).map λd=>V.bl (Bl.holds g d))) (As.refl H,Z) (λi j m _ z=>SqT.of (z.1 _ _ ht)) ?_ ?_]
  .erw[?i x j m hx R,(n,rfl)=R];rw[C3]at hx;erw[xea (D7.mp hx) λq eq B=>?_,<-B,xea (Paired.get y eq) λd U hd=>?_,D=hd.same n,(([n8 (.ref q)],Z,Z),?_,?_)]
   .have:((c.conds.take i).map λd=>V.bl (Bl.holds g d)).length<=c.conds.length:=by
     rw[C0,J8];omega
    erw[F3 (C9 this hn) A6]
   .refine EF ?_;have nx:∀o,As m o->As H o/\((c.conds.take i).map λd=>V.bl (Bl.holds g d))++[V.bl (Bl.holds g d)]=((c.conds.take (i+1)).map λd=>V.bl (Bl.holds g d)):=λo M=>(n.trans M,by
     rw[F9,U,D4];rfl)
    cases D with
    |@am O b s ns v C=>erw[.inl (_,Z,q,b,_,Z,v,aEa A0 A0,_,Z,q,l,O,b,s,ns,g,Z,v,C,n _ _ X,nx m (As.refl m))]
    |@pl O b ws v C=>erw[.inr (_,Z,q,b,_,Z,v,ST A0,_,Z,q,l,O,b,ws,g,Z,v,C,n _ _ X,G _ (D0 U) ws Z,λo M=>nx o M)]
  .erw[?j m S q nq,(n,rfl)=S,[C0,(A3e y),J7],(q,c.conds.map (Bl.holds g),Z,SqL.of (by rw[Af,N5];rfl),?_)];have e:(c.conds.map (Bl.holds g)).all id=c.fits cell g:=by
    erw[¬Ba.fits,[W,List.all_map]];rfl
   erw[[e],k _ (n.trans (An nq))]
def ROk(r:Aw):Prop:=r.length<=5000/\∀c∈r,c.conds.length<=100/\∀d∈c.conds,∀ws,d=Bl.pl ws->ws.length<=100
noncomputable def aGa(o:Option Nat):V:=match o with
|none=>.non
|some n=>.int n
inductive aDW(a:Ad)(vs:List V)(H:Hp)(Q:VK):Prop
|mk (p l:R_) (z:Str) (r:Aw) (cell:Int) (ar:I_) (_:vs=[.ref p,.int cell,.ref l]) (_:BL a H p z r) (_:ROk r) (_:H l=n8 (.lst (ar.map V.int))) (_:∀H',As H H'->Q (aGa (JE r cell ar)) H'):aDW a vs H Q
def aED(a:Ad):Sp:=λvs H Q _=>aDW a vs H Q
theorem aE4(F:Fun K "deciding" "deciding" Md f fd)(T:Top K mg a)(bX:BY P w K mg n6 CX0 3 a.Y_ "fits" LS (Ve a)):AJ P w K mg n6 CX0 4 f fd Mm (aED a):=by
 erw[F.ok JI D_9 λaa A I s H vs Q E hr h=>?_]
 erw[(p,l,z,r,cell,m,rfl,hR,U,hl,k)=h,Dl hR.ex λdx t cs hp W y=>(_,(Ac (BN A3g Z (MJ o0 Z T.g_ (Aa (AA pv0 Z) Ab)) (ND Z (CZ (AV (i:=3) JI.nd Z O_9) (CZ (AV (i:=4) JI.nd Z O_9) Ly))) (Ag (AS (Dk (AD pv4 bX (rm hr) AQ (Aa pv1 (Aa pv2 Ab)))) (Ag (Av pv3)) Az))) (Ag (Av Dw))),?_),xwf Z Z hp T.aAG T.i_ aA9 (t,Z,(_,SqT.of W),?_),Lm (b:=o0) (xs:=cs.map V.ref) (λi σ g=>As H g/\(∃u v,σ=[n8 (.ref p),n8 (.int cell),n8 (.ref l),u,v])/\∀c∈r.take i,c.fits cell m=o3) (As.refl H,(n9,n9,Z),λc G=>by simp at G) (λi σ g _ q=>SqT.of (q.1 _ _ W)) ?_ ?_]
 .erw[?i x σ g T' X N nT,(L,(u,v,rfl),no)=N];rw[C3]at X;erw[xea (D7.mp X) λq eq D=>?_,<-D,xea (Paired.get y eq) λc B G=>?_,C=L.trans (An (o:=.tup [.int i,.ref q]) nT),n=G.same C,xe3 n.ex λac t2 ab M=>xa M λh1 _=>Ql Af ?_,Y=D0 B,xwn Z Z h1 (aEb A0 A0 A0) Z (xq1 Z (q,l,c,cell,m,Z,n,(U.2 c Y).1,(U.2 c Y).2,C _ _ hl,λH4 s4=>(xq1 Z ?_)))];cases R:c.fits cell m with
  |true =>
   erw[Cy (xq1 Z ?_)];have e:JE r cell m=n8 i:=by
    erw[¬JE,[V3],hi=(C2.mp B).1,(hi,?_,λj hj=>?_)]
    .erw[[(C2.mp B).2],R]
    .have:=no r[j] (List.mem_take_iff_getElem.mpr (j,by omega,Z));erw[[this],F6]
   have:=k H4 (C.trans s4);rw[e]at this;erw[this]
  |false =>
   erw[Bj (C.trans s4,(_,_,Z),λd S=>?_)];rw[F9,B]at S;rcases J9.mp S with z|z
   .erw[no d z]
   .have:d=c:=by simpa using z
    erw[[this],R]
 .erw[?σ g O,(L,(u,v,rfl),no)=O];rw[C0,(A3e y),J7]at no;have e:JE r cell m=n9:=by
   erw[¬JE,[X4],no]
  have:=k g L;rw[e]at this;erw[this]
inductive aDQ(a:Ad)(vs:List V)(H:Hp)(Q:VK):Prop
|mk (p l:R_) (z:Str) (r:Aw) (cell:Int) (ar:I_) (_:vs=[.ref p,.int cell,.ref l]) (_:BL a H p z r) (_:ROk r) (_:H l=n8 (.lst (ar.map V.int))) (_:∀H',As H H'->Q (.int (CF r cell ar)) H'):aDQ a vs H Q
def Ww(a:Ad):Sp:=λvs H Q _=>aDQ a vs H Q
theorem Ng{cell:Int}(h:JE r cell b=n9):CF r cell b=cell:=by
 unfold JE at h;rw[X4]at h;erw[¬CF,[List.find?_eq_none.mpr λc d=>by erw[[h c d],F6]]]
theorem Nf{cell:Int}(h:JE r cell b=n8 i):∃c,r[i]?=n8 c/\CF r cell b=c.makes:=by
 unfold JE at h;rw[V3]at h;erw[xea h λhi d e=>(r[i],C7 hi,?_)]
 unfold CF;have:r.find? (Ba.fits cell b)=n8 r[i]:=by
  erw[[List.find?_eq_some_iff_getElem],(d,i,hi,Z,λj f=>by simpa using e j f)]
 rw[this]
theorem aEy(F:Fun K "becomes" "becomes" Nz f fd)(T:Top K mg a)(y:Cal P w K mg n6 CX0 4 "deciding" Mm (aED a)):AJ P w K mg n6 CX0 5 f fd Mm (Ww a):=by
 erw[F.ok Po D_9 λB A j s H vs Q E R h=>?_]
 erw[(p,l,z,r,cell,o,rfl,x,N,M,k)=h,(_,(Ac (Ax 3 Po.nd (AB y R (Aa pv0 (Aa pv1 (Aa pv2 Ab))))) (Ac (AS (Ay Jl pv3 Dw (AF _)) (Ag (Av pv1)) Az) (Ag (Av (AA (Aj Ao (AA pv0 Z) pv3 R_9) Z))))),?_),xw3 Z Z Z (p,l,z,r,cell,o,Z,x,N,M,λn g=>?_),xq1 Z (Z,(xq1 Z ?_))];cases e:JE r cell o with
 |none =>
  erw[Cy (xq1 Z ?_)];have:=k n g;rw[Ng e]at this;erw[this]
 |some i =>
  erw[xea (Nf e) λc u G=>Dl x.ex λV t cs O S d=>?_];obtain⟨q,v⟩:∃q,cs[i]?=n8 q:=by
   have:i<cs.length:=by erw[[(A3e d)],(C2.mp u).1]
   exact(_,C7 this)
  erw[xea (Paired.get d v) λU b L=>?_];rw[u]at b;erw[!b,xe3 ((L.same g).ex) λD W C m=>xa m λI _=>Bj (xwf Z Z (g _ _ O) T.aAG T.i_ aA9 (xwi Z Z Z (SqT.of (g _ _ S)) (Ai (by rw[C3,v];rfl)) (xq5 I T.k_ T.aAB aDv ?_)))];have:=k n g;rw[G]at this;erw[this]
end
noncomputable def sgD(d:Int):Str:=⟨#[48+d.toNat]⟩
noncomputable def wC:Option Int->Nat
|none=>42
|some d=>48+d.toNat
noncomputable def wS(x:Option Int):Str:=⟨#[wC x]⟩
noncomputable def DS(ns:I_):Str:=⟨(ns.map λn=>48+n.toNat).toArray⟩
noncomputable def AX:Bl->Str
|.am s ns=>sgD s++⟨#[61]⟩++DS ns
|.pl ws=>⟨(ws.map wC).toArray⟩
noncomputable def BD(c:Ba):Str:=Str.join ⟨#[32]⟩ (wS c.cell::(c.conds.map AX++[sgD c.makes]))
noncomputable def Rl:Str:=⟨[59,32].toArray⟩
noncomputable def AZ(r:Aw):Str:=Str.join Rl (r.map BD)
def GK(d:Int):Prop:=0<=d/\d<8
def wOk:Option Int->Prop
|none=>True
|some d=>GK d
def Bl.ok:Bl->Prop
|.am s ns=>GK s/\ns≠[]/\(∀n∈ns,0<=n/\n<=8)/\ns.Pairwise (· < ·)
|.pl ws=>ws.length=8/\∀w∈ws,wOk w
structure Ba.ok(c:Ba):Prop where
cell:wOk c.cell
makes:GK c.makes
few:c.conds.length<=50
conds:∀d∈c.conds,d.ok
theorem aDt(h:GK d):d=0\/d=1\/d=2\/d=3\/d=4\/d=5\/d=6\/d=7:=by
 erw[(m,rfl)=L6 h.1,a=h.2,(show ∀m:Nat,m<8->((m:Int)=0\/(m:Int)=1\/(m:Int)=2\/(m:Int)=3\/(m:Int)=4\/(m:Int)=5\/(m:Int)=6\/(m:Int)=7) by decide) m A3]
noncomputable abbrev figs8:Str:=Str.ofString "01234567"
noncomputable abbrev figs9:Str:=Str.ofString "012345678"
theorem ZR(h:GK d):PySem.intText? (sgD d)=n8 d/\(!(Builtin.Str.occurrences figs8 (sgD d) 0 figs8.length 1).isEmpty)=o0:=by
 rcases aDt h with rfl|rfl|rfl|rfl|rfl|rfl|rfl|rfl<;>exact(by decide +kernel,by decide +kernel)
theorem nine{d:Int}(a:0<=d)(b:d<=8):d=0\/d=1\/d=2\/d=3\/d=4\/d=5\/d=6\/d=7\/d=8:=by
 erw[(m,rfl)=L6 a,(show ∀m:Nat,m<9->((m:Int)=0\/(m:Int)=1\/(m:Int)=2\/(m:Int)=3\/(m:Int)=4\/(m:Int)=5\/(m:Int)=6\/(m:Int)=7\/(m:Int)=8) by decide) m A3]
theorem aAp{d:Int}(a:0<=d)(b:d<=8):PySem.intText? (⟨#[48+d.toNat]⟩:Str)=n8 d/\(!(Builtin.Str.occurrences figs9 (⟨#[48+d.toNat]⟩:Str) 0 figs9.length 1).isEmpty)=o0:=by
 rcases nine a b with rfl|rfl|rfl|rfl|rfl|rfl|rfl|rfl|rfl<;>exact(by decide +kernel,by decide +kernel)
theorem aDI(h:GK d):decide (V.str (wS (n8 d))=V.str (Str.ofString "*"))=o3:=by
 rcases aDt h with rfl|rfl|rfl|rfl|rfl|rfl|rfl|rfl<;>decide +kernel
theorem Pb(h:wOk x):wC x≠61/\wC x≠32/\wC x≠59:=by
 cases x with
 |none=>exact(by decide,by decide,by decide)
 |some d =>
  have:=h.1;have:=h.2;show 48+d.toNat≠61/\48+d.toNat≠32/\48+d.toNat≠59;refine(?_,?_,?_)<;>lia
theorem Rz(h:d.ok):32∉(AX d).cps.toList/\59∉(AX d).cps.toList:=by
 cases d with
 |am s ns =>
  erw[((g,i),_,c,_)=h];have e:(AX (.am s ns)).cps.toList=(48+s.toNat)::61::ns.map λn=>48+n.toNat:=by
   show(sgD s++⟨#[61]⟩++DS ns).cps.toList=_;rw[Tx.Cz,Tx.Cz];rfl
  rw[e];constructor
  .intro z;rcases C4.mp z with z|z
   .lia
   .rcases C4.mp z with z|z
    .lia
    .erw[xea (F0.mp z) λn a e=>?_];have:=c n a;lia
  .intro z;rcases C4.mp z with z|z
   .lia
   .rcases C4.mp z with z|z
    .lia
    .erw[xea (F0.mp z) λn a e=>?_];have:=c n a;lia
 |pl f =>
  erw[(e:(AX (.pl f)).cps.toList=f.map wC)=rfl,[e]];constructor
  .erw[?z,xea (F0.mp z) λx b e=>(Pb (h.2 x b)).2.1 e]
  .erw[?z,xea (F0.mp z) λx b e=>(Pb (h.2 x b)).2.2 e]
theorem OZ:∀(ns:I_)(lo:Int),lo<=9->(∀n∈ns,lo<=n/\n<=8)->ns.Pairwise (· < ·)->(ns.length:Int)<=9-lo
|[],lo,h,_,_=>by show(0:Int)<=9-lo;lia
|n::r,lo,_,hn,hp=>by
 erw[b=hn n D5,c=OZ r (n+1) A3 (λm a=>(by have:=(A1g.mp hp).1 m a;lia,(hn m (D6 _ a)).2)) (A1g.mp hp).2,[F2]];lia
theorem Nc(h:d.ok):(AX d).length<=11:=by
 cases d with
 |am s ns =>
  erw[xa3 h λ_ _ a b=>?_,e=OZ ns 0 A6 a b,[Nu.len],(_:(sgD s++⟨#[61]⟩++DS ns).cps.toList.length<=11),[Tx.Cz,Tx.Cz,D3,D3],(_:1+1+(ns.map λn=>48+n.toNat).length<=11),[C0]];lia
 |pl c =>
  rw[Nu.len];show(c.map wC).length<=11;rw[C0,h.1];decide
section
variable{P:N_}{w:Q_}{K:O_}{mg:C_}{n6:T_}{a:Ad}
theorem Wl(K:O_):kitOne K (.type "str") (.type "str")=n8 o0:=by kernel_rfl
inductive aGK(vs:List V)(H:Hp)(Q:VK):Prop
|mk (d:Int) (_:vs=[.str (sgD d)]) (_:GK d) (_:Q (.int d) H):aGK vs H Q
def ZX:Sp:=λvs H Q _=>aGK vs H Q
theorem aG8(F:Fun K "read_state" "read_state" IP f fd)(T:Top K mg a):AJ P w K mg n6 CX0 1 f fd Ss ZX:=by
 erw[F.ok QE D_9 λc A b s H vs Q E j h=>?_]
 erw[(d,rfl,i,k)=h,(e,g)=ZR i,(_,(Ac (AS (PW.pt (MF (Ay IB (AH Ju Z T.j_ A5c (Aa pv0 Ab)) Ae (AF _)) (JP (Ay MN pv0 (OP Z T.aAK) Z)))) (Ag Bo) Az) (Ag (Av (BW Iw Z T.aAQ A7f (Aa pv0 Ab))))),?_),xw2 Z Z (S_1,Z,(xq1 Z ?_)),Ot Z (xwb Z Z Z (xq1 Z ?_)),[g],Bj (xq1 Z (_,d,Z,e,(by show 1<=640;decide),k))]
inductive aGL(vs:List V)(H:Hp)(Q:VK):Prop
|mk (x:Option Int) (_:vs=[.str (wS x)]) (_:wOk x) (_:Q (Iu x) H):aGL vs H Q
def aFj:Sp:=λvs H Q _=>aGL vs H Q
theorem aHA(F:Fun K "read_wanted" "read_wanted" Id f fd)(T:Top K mg a)(e:Cal P w K mg n6 CX0 1 "read_state" Ss ZX):AJ P w K mg n6 CX0 2 f fd Ss aFj:=by
 erw[F.ok Pl D_9 λg A b s H vs Q E i h=>?_]
 erw[(x,rfl,c,k)=h,(_,(Ac (AS (Ay DR pv0 (OP Z T.aAV) (AF _)) (Ag (Av Dw)) Az) (Ag (Av (AB e i (Aa pv0 Ab))))),?_),xq1 Z (Z,(xq1 Z ?_))];cases x with
 |none=>erw[Cy k]
 |some d =>
  erw[[aDI c],Bj (xq1 Z (d,Z,c,k))]
inductive aGI(vs:List V)(H:Hp)(Q:VK):Prop
|mk (ns:I_) (_:vs=[.str (DS ns)]) (_:ns≠[]) (_:ns.length<=100) (_:(∀n∈ns,0<=n/\n<=8)) (_:ns.Pairwise (· < ·)) (_:∀(t:R_)(H':Hp),As H H'->H' t=n8 (.tup (ns.map V.int))->Q (.ref t) H'):aGI vs H Q
def aHa:Sp:=λvs H Q _=>aGI vs H Q
theorem aG6(F:Fun K "read_numbers" "read_numbers" FZ f fd)(T:Top K mg a):AJ P w K mg n6 CX0 1 f fd Gp aHa:=by
 erw[F.ok Fy D_9 λU A C s H vs Q E hr h=>?_]
 erw[(ns,rfl,y,L,N,hp,k)=h];have X:(DS ns).length=ns.length:=by rw[Nu.len];show(ns.map _).length=_;rw[C0]
 erw[(G:(DS ns).cps.toList=ns.map λn=>48+n.toNat)=rfl,pos=Y7.mpr y,(_,(Ac (AS (Ay DR (AH Ju Z T.j_ A5c (Aa pv0 Ab)) Ae (AF _)) (Ag Bo) Az) (Ac (Ax 1 Fy.nd (BO Ab)) (Ac (BN A3g Z (aCB pv0) (AV (i:=2) Fy.nd Z O_9) (Ac (AS (Ay MN pv2 (OP Z T.aAJ) Z) (Ag Bo) Az) (Ac (AS (PW.pt (NB (Ay Ua (AH Br Z T.j_ A5c (Aa pv1 Ab)) Ae (AF _)) (Lw (Ay MO (BW Iw Z T.aAQ A7f (Aa pv2 Ab)) (Aj Ar pv1 (Fo Dp Ae) R_9) (AF _))))) (Ag Bo) Az) (Ag (Bq (Dm A4a A4b A4c BI pv1 (Aa (BW Iw Z T.aAQ A7f (Aa pv2 Ab)) Ab))))))) (Ag (Av (BW CD Z T.l_ A5f (Aa pv1 Ab))))))),?_),xw2 Z Z ((by erw[[X],C9 L A6]),Z,(xq1 Z ?_))];have nz:decide (V.int ((DS ns).length:Int)=V.int 0)=o3:=A3a λz=>by
  injection z with z
  lia
 erw[[nz],Bj (S_0,λl r=>?_),xw2 Z Z (aCW (λi σ d=>∃v,σ=[n8 (.str (DS ns)),n8 (.ref l),v]/\d=upd H l (.lst ((ns.take i).map V.int))) (n9,Z,Z) ?_ ?_)]
 .erw[?i ch σ d q j,xea j λv g b=>?_,-j,<-g,<-b,(c:(ns.map λn=>48+n.toNat)[i]?=n8 ch)=by rw[<-G];simpa using q]
  rw[C3]at c;erw[xea (D7.mp c) λn o b=>?_,<-b,S=D0 o,(I,Y)=aAp (N n S).1 (N n S).2,hi=(C2.mp o).1,(D:(ns.take i).length=i)=by rw[J8];lia]
  erw[xwb Z Z Z (xq1 Z ?_),[Y],Bj (xq1 Z (l,(xq1 Z (.inl (SqL.of Af),(xq2 Z Z (xq1 Z ?_))))))];have nx:∃v,([n8 (V.str (DS ns)),n8 (.ref l),n8 (.str ⟨#[48+n.toNat]⟩)]:St)=[n8 (.str (DS ns)),n8 (.ref l),v]/\upd (upd H l (.lst ((ns.take i).map V.int))) l (.lst ((ns.take i).map V.int++[V.int n]))=upd H l (.lst ((ns.take (i+1)).map V.int)):=by
   erw[xq1 Z ?_,[FK,F9,o,D4]];rfl
  have app:aEK (tBM K "list" WF (DX 1) (CH (tCB (λxs H Q=>∃x n,xs=[.str x]/\PySem.intText? x=n8 n/\x.length<=640/\Q (.int n) H) (CH (DX 2) Pd)) Pd)) {nx:=fun σ d=>∃v,σ=[n8 (.str (DS ns)),n8 (.ref l),v]/\d=upd H l (.lst ((ns.take (i+1)).map V.int)),rt:=Q,bk:=λ_ _=>False,ct:=fun σ d=>∃v,σ=[n8 (.str (DS ns)),n8 (.ref l),v]/\d=upd H l (.lst ((ns.take (i+1)).map V.int))} [n8 (.str (DS ns)),n8 (.ref l),n8 (.str ⟨#[48+n.toNat]⟩)] (upd H l (.lst ((ns.take i).map V.int))) :=
   (_,Z,.inl (Z,_,SqL.of Af),_,Z,_,n,Z,I,(by show 1<=640;decide),l,_,_,Z,Z,Af,(by rw[C0,D];exact D8 hi (C9 L A6)),nx)
  erw[(O:i=0)]
  .erw[<-O,Bj app]
  .erw[(R:0<i)=Z5 O,(B:decide ((0:Int)<(((ns.take i).map V.int).length:Int))=o0)=A2g (by rw[C0,D];lia),[B],(M:i-1<ns.length)=by lia]
   have u:ns[i-1]<n:=by
    have:=Z8.mp hp (i-1) i M hi (Nat.sub_lt R A6);rw[(C2.mp o).2]at this;erw[this]
   have p:atI ((ns.take i).map V.int) (-1)=n8 (V.int ns[i-1]):=by
    have:((ns.take i).map V.int)[i-1]?=n8 (V.int ns[i-1]):=by
     rw[C3,K0 (Nat.sub_lt R A6),C7 M];rfl
    have W:((ns.take i).map V.int).length=i:=by rw[C0,D]
    erw[¬atI ixN,[W,A2f A6,A2h A3],(_:((ns.take i).map V.int)[((-1:Int)+(i:Nat)).toNat]?=_)];rw[show((-1:Int)+(i:Nat)).toNat=i-1 by lia];erw[this]
   erw[Cy (xq1 Z (_,n,Z,I,(by show 1<=640;decide),(xw2 Z Z (l,_,(xq2 Z Z (SqL.of Af,p,(xq2 Z Z (xq1 Z ?_)))))))),[A3a (Int.not_le_of_gt u:¬n<=ns[i-1])],Bj app]
 .erw[?σ d m,xea m λv g b=>?_,-m,<-g,<-b];have e:(DS ns).cps.size=ns.length:=by
   have:(DS ns).cps.toList.length=ns.length:=by rw[G,C0]
   simpa using this
  erw[[e,J7],xq1 Z (l,(xq1 Z (.inl (SqL.of Af,λt ht=>?_)))),k t _ ((An r).trans (An ht)) Af]
theorem aGf(x:Str):(!(Builtin.Str.occurrences x (Str.ofString "=") 0 x.length 1).isEmpty)=decide (61∈x.cps.toList):=by
 have:Str.ofString "=" = (⟨#[61]⟩:Str):=by decide +kernel
 erw[[this],StrLaws.found_one x 61]
inductive Yk(a:Ad)(vs:List V)(H:Hp)(Q:VK):Prop
|mk (d:Bl) (_:vs=[.str (AX d)]) (_:d.ok) (_:∀(p:R_)(H':Hp),As H H'->DM a H' p d->Q (.ref p) H'):Yk a vs H Q
def RN(a:Ad):Sp:=λvs H Q _=>Yk a vs H Q
inductive aDh(a:Ad)(vs:List V)(H:Hp)(Q:VK):Prop
|mk (s:Int) (ns:I_) (_:vs=[.str (AX (.am s ns))]) (_:(Bl.am s ns).ok) (_:∀(p:R_)(H':Hp),As H H'->DM a H' p (.am s ns)->Q (.ref p) H'):aDh a vs H Q
def ZZ(a:Ad):Sp:=λvs H Q _=>aDh a vs H Q
theorem aFH(F:Fun K "read_amounts" "read_amounts" Ga f fd)(T:Top K mg a)(C:Cal P w K mg n6 CX0 1 "read_state" Ss ZX)(D:Cal P w K mg n6 CX0 1 "read_numbers" Gp aHa)
 (G:Tf P w K mg n6 CX0 1 "Amounts" a.Q3 Qf (Pi a)):AJ P w K mg n6 CX0 3 f fd Ss (ZZ a):=by
 erw[F.ok Jw D_9 λI A p s H vs Q E m h=>?_]
 erw[(d,ns,rfl,u,k)=h,e=Nc u,xa3 u λq l r v=>?_,O=OZ ns 0 A6 r v,(j:Str.ofString "=" = (⟨#[61]⟩:Str))=by decide +kernel]
 have L:Txt.partition (AX (.am d ns)) (Str.ofString "=")=#[sgD d,⟨#[61]⟩,DS ns]:=by
  erw[[j],Tx.GT 61 (sgD d) (DS ns) ?_,?z];have:61=48+d.toNat:=by simpa[sgD] using z
  have:=q.2;lia
 erw[(_,(Ac (Ax 1 Jw.nd (Dm A6b PySem.F.slot_str_partition PySem.F.type_str_partition SI pv0 (PH Ab))) (Ag (Av (Lz G (rm m) Z AQ (Aa (AB C m (Aa (Aj Ao pv1 Ae R_9) Ab)) (Aa (AB D m (Aa (Aj Ao pv1 Ae R_9) Ab)) Ab)))))),?_),xq1 Z (Z,(xq2 Z Z (A0,(C9 e A6),λt M=>?_))),[L],xq1 Z (t,_,0,(xq1 Z (Z,SqT.of Af,Z,d,Z,q,(xq1 Z (t,_,2,(xq1 Z (Z,SqT.of Af,Z,ns,Z,l,by lia,r,v,λB c N n=>?_))))))),?x b nx g i,(R:As c (upd (upd c b (.own x)) x (.ins a.Q3 b [])))=(An g).trans (An (by erw[[Aq (A3f i)],nx])),(x,B,b,d,Z,Af,Z,?_),(o:(upd c b (.own x)) x=n9)=by erw[[Aq (A3f i)],nx]]
 erw[[FK],(y:As c (upd (upd c b (.own x)) x (.ins a.Q3 b (fl2 "state" "numbers" (.int d) (.ref B)))))=(An g).trans (An o),k x _ (((An M).trans N).trans y) (.am Af (y _ _ n))]
inductive aDi(a:Ad)(vs:List V)(H:Hp)(Q:VK):Prop
|mk (ws:List (Option Int)) (_:vs=[.str (AX (.pl ws))]) (_:(Bl.pl ws).ok) (_:∀(p:R_)(H':Hp),As H H'->DM a H' p (.pl ws)->Q (.ref p) H'):aDi a vs H Q
def ZY(a:Ad):Sp:=λvs H Q _=>aDi a vs H Q
theorem aFK(F:Fun K "read_places" "read_places" EX f fd)(T:Top K mg a)(I:Cal P w K mg n6 CX0 2 "read_wanted" Ss aFj)
 (M:Tf P w K mg n6 CX0 1 "Places" a.b_ QO (Pf a)):AJ P w K mg n6 CX0 3 f fd Ss (ZY a):=by
 erw[F.ok Pm D_9 λL A r s H vs Q E D h=>?_]
 erw[(b,rfl,C,k)=h,g=Nc C,(B,S)=C];have O:(AX (.pl b)).length=8:=by rw[Nu.len];show(b.map wC).length=8;rw[C0,B]
 erw[(y:(AX (.pl b)).cps.toList=b.map wC)=rfl,(_,(Ac (AS (Ay IB (AH Ju Z T.j_ A5c (Aa pv0 Ab)) (Co Z T.aAH) (AF _)) (Ag Bo) Az) (Ag (Av (Lz M (rm D) Z AQ (Aa (BW CD Z T.l_ A5f (Aa (Cc Z (Bd.of (So:=Ah EX) (No:=Ss) (N:=["sign"]) (k:=1) (cs:=[]) Z Z A0) (aCB pv0) (λ_ _ _=>(AW (i:=0) A0 Z Z)) (λ_ _ _=>Be) (λ_ _ _=>(AB I D (Aa pv0 Ab)))) Ab)) Ab))))),?_),xw2 Z Z (C9 g A6,Z,(xq1 Z ?_)),[O],Ot Z (xw2 Z Z ?_),aCN (λi d c=>c=H/\d=(b.take i).map Iu) (Z,Z) ?_ ?_]
 .erw[?i ch d c e u,(rfl,rfl)=u];rw[y,C3]at e;erw[xea (D7.mp e) λx z l=>?_,<-l,(([n8 (.str ⟨#[wC x]⟩)],Z,Z),?_,?_)]
  .erw[[C0,J8],F3 (R5 _ _) (by rw[B];decide)]
  .erw[EF (xq1 Z (x,Z,S x (D0 z),Z,?_)),[F9,z,D4]];rfl
 .erw[?d c v q U,(rfl,rfl)=v,[y,C0,J7],(q,(xq1 Z (.inl (SqL.of Af,λt R=>?_)))),?x j nx m n,(p:∀o,(upd (upd (upd c q (.lst (b.map Iu))) t (.tup (b.map Iu))) j o) x=n9)=λo=>by erw[[Aq (A3f n)],nx]]
  erw[(x,t,j,Z,Af,Z,?_),[FK],(V:As c (upd (upd c q (.lst (b.map Iu))) t (.tup (b.map Iu))))=(An U).trans (An R),(G:As (upd (upd c q (.lst (b.map Iu))) t (.tup (b.map Iu))) (upd (upd (upd (upd c q (.lst (b.map Iu))) t (.tup (b.map Iu))) j (.own x)) x (.ins a.b_ j (fl1 "wanted" (.ref t)))))=(An m).trans (An (p _)),k x _ (V.trans G) (.pl Af (G _ _ Af))]
theorem aBz(F:Fun K "read_condition" "read_condition" EG f fd)(T:Top K mg a)(j:Cal P w K mg n6 CX0 3 "read_amounts" Ss (ZZ a))(l:Cal P w K mg n6 CX0 3 "read_places" Ss (ZY a)) :
 AJ P w K mg n6 CX0 4 f fd Ss (RN a):=by
 erw[F.ok Mx D_9 λn A c s H vs Q E i h=>?_]
 erw[(d,rfl,b,k)=h,(_,(Ac (AS (Ay YL FC pv0 Z) (Ag (Av (AB j i (Aa pv0 Ab)))) Az) (Ag (Av (AB l i (Aa pv0 Ab))))),?_),xwb Z Z Z (xq1 Z ?_),[aGf]];cases d with
 |am s ns =>
  have m:61∈(AX (.am s ns)).cps.toList:=by
   show 61∈(sgD s++⟨#[61]⟩++DS ns).cps.toList;rw[Tx.Cz,Tx.Cz];simp
  erw[[A2g m],Cy (xq1 Z (s,ns,Z,b,k))]
 |pl g =>
  have m:¬61∈(AX (.pl g)).cps.toList:=λz=>by
   erw[xea (F0.mp (show 61∈g.map wC from z)) λx o e=>(Pb (b.2 x o)).1 e]
  erw[[A3a m],Bj (xq1 Z (g,Z,b,k))]
inductive aGG(a:Ad)(vs:List V)(H:Hp)(Q:VK):Prop
|mk (c:Ba) (_:vs=[.str (BD c)]) (_:c.ok) (_:∀(p:R_)(H':Hp),As H H'->Cm a H' p c->Q (.ref p) H'):aGG a vs H Q
def aHY(a:Ad):Sp:=λvs H Q _=>aGG a vs H Q
theorem Mp{c:Ba}(h:c.ok):(BD c).length<=1000:=by
 erw[j=StrLaws.join_length_le ⟨#[32]⟩ (wS c.cell::(c.conds.map AX++[sgD c.makes]))];have b:∀l:List Bl,(∀d∈l,d.ok)->((l.map AX).map (·.length)).sum<=11*l.length:=by
  intro l;induction l with
  |nil=>intro _;erw[L7 _]
  |cons d r k =>
   erw[?f,q=Nc (f d D5),s=k λe i=>f e (D6 _ i)];simp only[J0,R0,F2];lia
 erw[p=b c.conds h.conds,g=h.few];simp only[J0,D4,Z2,R0,List.sum_append,List.sum_nil,F2,D3,T0,C0]at j;erw[(m:(wS c.cell).length=1)=rfl,(n:(sgD c.makes).length=1)=rfl,(o:(⟨#[32]⟩:Str).length=1)=rfl];rw[m,n,o]at j;unfold BD;lia
theorem LG(x:Option Int)(h:wOk x):32∉(wS x).cps.toList/\59∉(wS x).cps.toList:=by
 have:=Pb h;constructor
 .intro z;have:32=wC x:=by simpa[wS] using z
  exact(Pb h).2.1 this.symm
 .intro z;have:59=wC x:=by simpa[wS] using z
  exact(Pb h).2.2 this.symm
theorem Jr{c:Ba}(h:c.ok):Txt.split (BD c) (Str.ofString " ")=wS c.cell::(c.conds.map AX++[sgD c.makes]):=by
 have e:Str.ofString " " = (⟨#[32]⟩:Str):=by decide +kernel
 erw[[e],Tx.Ts 32 _ B0 λt b=>?_];rcases C4.mp b with rfl|b
 .exact(LG _ h.cell).1
 .rcases J9.mp b with b|b
  .erw[xea (F0.mp b) λd g f=>?_,<-f,(Rz (h.conds d g)).1]
  .erw[[C5.mp b],(LG (n8 c.makes) h.makes).1]
theorem aCS(x z:V)(ys:List V):VW (x::(ys++[z])) (n8 1) (n8 (-1))=ys:=by
 have n:(x::(ys++[z])).length=ys.length+2:=by simp
 erw[¬VW,[n]];have b:HT.sIx (ys.length+2) 0 (n8 1)=1:=by
  show(if(1:Int)<0 then((1:Int)+((ys.length+2:Nat):Int)).toNat else min (1:Int).toNat (ys.length+2))=1;rw[A2f A6];show min 1 (ys.length+2)=1;lia
 have c:HT.sIx (ys.length+2) (ys.length+2) (n8 (-1))=ys.length+1:=by
  show(if(-1:Int)<0 then((-1:Int)+((ys.length+2:Nat):Int)).toNat else min (-1:Int).toNat (ys.length+2))=ys.length+1;rw[A2h A6];lia
 rw[b,c];show(ys++[z]).take (ys.length+1-1)=ys;rw[Nat.add_sub_cancel,List.take_left' rfl]
theorem aCL(x:V)(ys:List V)(z:V):atI (x::(ys++[z])) (-1)=n8 z:=by
 have n:(x::(ys++[z])).length=ys.length+2:=by simp
 erw[¬atI ixN,[n,A2f A6,A2h A3],(_:(x::(ys++[z]))[((-1:Int)+((ys.length+2:Nat):Int)).toNat]?=n8 z)];rw[show((-1:Int)+((ys.length+2:Nat):Int)).toNat=ys.length+1 by lia,K6,L5 (C1 _),V4];rfl
theorem aG4(F:Fun K "read_clause" "read_clause" EY f fd)(T:Top K mg a)(aN:Cal P w K mg n6 CX0 1 "read_state" Ss ZX)(aW:Cal P w K mg n6 CX0 2 "read_wanted" Ss aFj)
 (bB:Cal P w K mg n6 CX0 4 "read_condition" Ss (RN a)) (dB:Tf P w K mg n6 CX0 1 "Clause" a.Y_ QR (Ph a)):AJ P w K mg n6 CX0 5 f fd Im (aHY a):=by
 erw[F.ok El D_9 λai A ag s H vs Q E S h=>?_]
 erw[(c,rfl,B,k)=h,I=Mp B,W=B.few,(_,(Ac (AS (DJ (Dk (AH Fs Z T.U_ A5b (Aa pv0 (Aa (GS (v:=.ty "str") Z T.aAS A7g Z) Ab))))) (Ag Bo) Az) (Ac (Ax 1 El.nd (Dm A6b PySem.F.slot_str_split PySem.F.type_str_split Ul pv0 (PH Ab))) (Ac (AS (Ay IC (AH Br Z T.j_ A5c (Aa pv1 Ab)) Ae (AF _)) (Ag Bo) Az) (Ac (Ax 2 El.nd (AB aW S (Aa (Aj Ar pv1 Ae R_9) Ab))) (Ac (Ax 3 El.nd (BW CD Z T.l_ A5f (Aa (Cc Z (Bd.of (So:=Ah EY) (No:=LR) (N:=["word"]) (k:=1) (cs:=[]) Z Z A0) (BH (TY Wx pv1 (Se Ae) (Se (Fo Dp Ae)))) (λ_ _ _=>(AW (i:=0) A0 Z Z)) (λ_ _ _=>Be) (λ_ _ _=>(AB bB S (Aa pv0 Ab)))) Ab))) (Ag (Av (Lz dB (rm S) Z AQ (Aa pv2 (Aa pv3 (Aa (AB aN S (Aa (Aj Ar pv1 (Fo Dp Ae) R_9) Ab)) Ab))))))))))),?_),xq1 Z (_,_,_,.type "str",o0,Z,Z,.of (.str _),Wl K,o0,Z,?_),Bj (xq1 Z (Z,(xq2 Z Z (A0,(C9 I A6),λl hl=>?_)))),[Jr B]];have eW:((wS c.cell::(c.conds.map AX++[sgD c.makes])).map V.str)=V.str (wS c.cell)::((c.conds.map λd=>V.str (AX d))++[V.str (sgD c.makes)]):=by
  rw[J0,D4,N5];rfl
 erw[[eW],(hL:∀o,upd H l o l=n8 o)=λo=>Af,xq1 Z (l,(xq1 Z (.inl (SqL.of Af),(xq2 Z Z (xq1 Z ?_))))),[A3a (by simp;lia:¬((((V.str (wS c.cell)::((c.conds.map λd=>V.str (AX d))++[V.str (sgD c.makes)])).length:Nat):Int)<2))],Bj (xwi Z Z Z (SqL.of Af) (Ai (j:=0) Z) (c.cell,Z,B.cell,?_)),xw3 Z Z Z (xq1 Z (l,(xq1 Z (SqL.of Af,λq Y=>(q,Z,(_,SqL.of Af),?_))))),[aCS],(s0:As H (upd (upd H l (.lst (V.str (wS c.cell)::((c.conds.map λd=>V.str (AX d))++[V.str (sgD c.makes)])))) q (.lst (c.conds.map λd=>V.str (AX d)))))=(An hl).trans (An Y),(ae:l≠q)=λz=>by rw[<-z,Af]at Y;cases Y]
 generalize n:upd (upd H l (.lst (V.str (wS c.cell)::((c.conds.map λd=>V.str (AX d))++[V.str (sgD c.makes)])))) q (.lst (c.conds.map λd=>V.str (AX d)))=D;rw[n]at s0;have aa:D q=n8 (.lst (c.conds.map λd=>V.str (AX d))):=by erw[[-n],Af]
 have X:D l=n8 (.lst (V.str (wS c.cell)::((c.conds.map λd=>V.str (AX d))++[V.str (sgD c.makes)]))):=by erw[[-n,Aq ae],Af]
 erw[Ca (xs:=c.conds.map λd=>V.str (AX d)) (λi e g=>∃b:List Addr,e=b.map V.ref/\As D g/\Paired (DM a g) b (c.conds.take i)) ([],Z,As.refl D,.nil) (λi e g _ ⟨b,_,M,_⟩=>SqL.of (M _ _ aa)) ?_ ?_]
 .erw[?i x e g hx O,AI O λb m M L=>?_,-O,<-m];rw[C3]at hx;erw[xea (D7.mp hx) λd ed U=>?_,<-U,(([n8 (.str (AX d))],Z,Z),?_,?_)]
  .erw[e1=A3e L];rw[J8]at e1;erw[[C0,e1],F3 (R5 _ _) (F3 W A6)]
  .erw[EF (xq1 Z (d,Z,B.conds d (D0 ed),λp y C hp=>(b++[p],by rw[D4];rfl,M.trans C,?_))),[F9,ed],A5d (Paired.imp (λ_ _ z=>z.same C) L) hp]
 .erw[?e g R r nr,AI R λb m M L=>?_,-R,<-m];rw[C0,J7]at L;erw[(r,(xq1 Z (.inl (SqL.of Af,λt ht=>?_)))),(C:As D (upd (upd g r (.lst (b.map V.ref))) t (.tup (b.map V.ref))))=(M.trans (An nr)).trans (An ht)];generalize u:upd (upd g r (.lst (b.map V.ref))) t (.tup (b.map V.ref))=y;have ab:y t=n8 (.tup (b.map V.ref)):=by erw[[-u],Af]
  have ah:As g y:=by erw[[-u],(An nr).trans (An ht)]
  rw[u]at C;erw[xw3 Z Z Z (xq1 Z (l,_,(xq2 Z Z (SqL.of (C _ _ X),aCL _ _ _,c.makes,Z,B.makes,?_)))),?x G nx ac ad,(af:∀o,(upd y G o) x=n9)=λo=>by erw[[Aq (A3f ad)],nx]]
  erw[(x,t,G,c.cell,c.makes,Z,Af,Z,?_),[FK],(s4:As y (upd (upd y G (.own x)) x (.ins a.Y_ G (fl3 "cell" "conditions" "makes" (Iu c.cell) (.ref t) (.int c.makes)))))=(An ac).trans (An (af _)),k x _ ((s0.trans C).trans s4) (G,t,b,Af,s4 _ _ ab,Paired.imp (λ_ _ z=>(z.same ah).same s4) L)]
theorem Ov{c:Ba}(h:c.ok):59∉(BD c).cps.toList:=by
 intro z;unfold BD at z;rw[PyProof.Rows.mem_join]at z;rcases z with ⟨t,b,z⟩|⟨_,z⟩
 .rcases C4.mp b with rfl|b
  .exact(LG _ h.cell).2 z
  .rcases J9.mp b with b|b
   .erw[xea (F0.mp b) λd f e=>?_,<-e,(Rz (h.conds d f)).2 z]
   .rw[C5.mp b]at z;exact(LG (n8 c.makes) h.makes).2 z
 .have:59=32:=by simpa using z
  lia
end
structure EC(r:Aw):Prop where
few:r.length<=50
ok:∀c∈r,c.ok
theorem EC.rok(h:EC r):ROk r:=(C9 h.few A6,λc a=>(C9 (h.ok c a).few A6,λd b f e=>by
 subst e;rw[((h.ok c a).conds _ b).1];decide))
theorem TK(h:EC r):(AZ r).length<=60000:=by
 erw[j=StrLaws.join_length_le Rl (r.map BD)];have b:∀l:List Ba,(∀c∈l,c.ok)->((l.map BD).map (·.length)).sum<=1000*l.length:=by
  intro l;induction l with
  |nil=>intro _;erw[L7 _]
  |cons d r i =>
   erw[?a,n=Mp (a d D5),o=i λe g=>a e (D6 _ g)];simp only[J0,R0,F2];omega
 erw[m=b r h.ok,f=h.few,(k:Rl.length=2)=rfl];rw[k,C0]at j;unfold AZ;omega
theorem WB(h:r≠[]):decide (V.str (AZ r)=V.str (Str.ofString ""))=o3:=by
 erw[A3a λz=>?_];injection z with z
 erw[(c,b)=List.exists_mem_of_ne_nil r h,d=PySem.join_mem_le Rl (r.map BD) (BD c) (F0.mpr (c,b,Z)),e=PySem.join_mem_le ⟨#[32]⟩ (wS c.cell::(c.conds.map AX++[sgD c.makes])) (wS c.cell) D5,(f:(wS c.cell).length=1)=rfl,(a:(AZ r).length=0)=by rw[z];decide +kernel]
 unfold AZ at a;have g:(BD c).length=(Str.join ⟨#[32]⟩ (wS c.cell::(c.conds.map AX++[sgD c.makes]))).length:=rfl;omega
theorem DM.put{p q:R_}{c:Bl}(h:DM a H q c)(i:H p=n8 u)(n:∀C d fs,u=HO.ins C d fs->fs.lookup ("state" : Str)=n9/\fs.lookup ("wanted" : Str)=n9/\fs.lookup ("makes" : Str)=n9)(nt:∀xs,u≠.tup xs):DM a (upd H p o) q c:=by
 have f:∀{b v},H b=n8 v->v≠u->upd H p o b=n8 v:=λ{b v} e d=>by erw[[Aq (AC e i d)],e]
 cases h with
 |am h g =>
  erw[.am (f h λz=>?_) (f g λz=>nt _ z.symm)];have:=(n _ _ _ z.symm).1;rw[aA8 A0]at this;cases this
 |pl h g =>
  erw[.pl (f h λz=>?_) (f g λz=>nt _ z.symm)];have:=(n _ _ _ z.symm).2.1;rw[aDu]at this;cases this
theorem Cm.put{p q:R_}{c:Ba}(h:Cm a H q c)(g:H p=n8 u)(n:∀C d fs,u=HO.ins C d fs->fs.lookup ("state" : Str)=n9/\fs.lookup ("wanted" : Str)=n9/\fs.lookup ("makes" : Str)=n9)(nt:∀xs,u≠.tup xs):Cm a (upd H p o) q c:=by
 have f:∀{b v},H b=n8 v->v≠u->upd H p o b=n8 v:=λ{b v} e d=>by erw[[Aq (AC e g d)],e]
 erw[Dl h.ex λi t cs j k l=>(i,t,cs,f j λz=>?_,f k λz=>nt _ z.symm,Paired.imp (λ_ _ z=>z.put g n nt) l)]
 have:=(n _ _ _ z.symm).2.2;rw[aDv]at this;cases this
section
variable{P:N_}{w:Q_}{K:O_}{mg:C_}{n6:T_}{a:Ad}
inductive aF6(vs:List V)(H:Hp)(Q:VK):Prop
|mk (r:Aw) (_:vs=[.str (AZ r)]) (_:EC r) (_:∀(l:R_)(H':Hp),As H H'->H' l=n8 (.lst (r.map λc=>V.str (BD c)))->Q (.ref l) H'):aF6 vs H Q
def aHR:Sp:=λvs H Q _=>aF6 vs H Q
theorem aGz(F:Fun K "clause_texts" "clause_texts" Gd f fd)(T:Top K mg a):AJ P w K mg n6 CX0 1 f fd Im aHR:=by
 erw[F.ok Ow D_9 λn A i s H vs Q E u h=>?_]
 erw[(r,rfl,m,k)=h,j=TK m,(_,(Ac (AS (Ay DR pv0 FC (AF _)) (Ag (Av (BO Ab))) Az) (Ag (Av (Dm A6b PySem.F.slot_str_split PySem.F.type_str_split Ul pv0 (Aa (OP Z T.aAL) Ab))))),?_),xq1 Z (Z,(xq1 Z ?_)),(b:r=[])]
 .erw[<-b,Cy (S_0,λl g=>?_),k l _ (An g) Af]
 .erw[[WB b],Bj (xq1 Z (Z,(xq2 Z Z (A0,B2,λl g=>?_)))),(o:Str.ofString "; " = (⟨[59,32].toArray⟩:Str))=by decide +kernel]
  have e:Txt.split (AZ r) (Str.ofString "; ")=r.map BD:=by
   erw[[o],Tx.Og _ (by simpa using b) λt q=>xea (F0.mp q) λc p d=>?_,<-d,Ov (m.ok c p)]
  erw[[e,N5],k l _ (An g) Af]
inductive aGH(a:Ad)(vs:List V)(H:Hp)(Q:VK):Prop
|mk (p dx:R_) (r:Aw) (_:vs=[.ref p,.str (AZ r)]) (_:H p=n8 (.ins a.l4 dx [])) (_:EC r) (_:∀H',(∀b o,H b=n8 o->b≠p->H' b=n8 o)->BL a H' p (AZ r) r->Q .non H'):aGH a vs H Q
def aHZ(a:Ad):Sp:=λvs H Q _=>aGH a vs H Q
theorem aG5(F:Fun K "__init__" "Rule.__init__" GR f fd)(T:Top K mg a)(bS:Cal P w K mg n6 CX0 1 "clause_texts" Im aHR)(bZ:Cal P w K mg n6 CX0 5 "read_clause" Im (aHY a)) :
 AJ P w K mg n6 CX0 6 f fd Os (aHZ a):=by
 erw[F.ok RZ D_9 λae A ac s H vs Q E hr h=>?_]
 erw[(p,y,r,rfl,hp,X,k)=h,ad=TK X,aa=X.few,(_,(Ac (CT pv0 pv1 Z) (Ag (CT pv0 (BW CD Z T.l_ A5f (Aa (Cc Z (Bd.of (So:=Ah GR) (No:=Os) (N:=["part"]) (k:=1) (cs:=[]) Z Z A0) (BH (AB bS hr (Aa pv1 Ab))) (λ_ _ _=>(AW (i:=0) A0 Z Z)) (λ_ _ _=>Be) (λ_ _ _=>(AB bZ hr (Aa pv0 Ab)))) Ab)) Z))),?_),xw2 Z Z (p,_,y,[],Z,hp,T.aAG,T.aAI,B5,?_)];generalize I:upd H p (.ins a.l4 y (AU "text" (.str (AZ r)) []))=H1;have D:H1 p=n8 (.ins a.l4 y (AU "text" (.str (AZ r)) [])):=by erw[[-I],Af]
 have k1:∀b o,H b=n8 o->b≠p->H1 b=n8 o:=λb o e n=>by erw[[-I,Aq n],e]
 erw[xq1 Z (r,Z,X,λl H2 s2 hl=>(l,Z,(_,SqL.of hl),?_)),Ca (xs:=r.map λc=>V.str (BD c)) (λi j u=>∃g:List Addr,j=g.map V.ref/\As H2 u/\Paired (Cm a u) g (r.take i)) ([],Z,As.refl H2,.nil) (λi j u _ ⟨g,_,S,_⟩=>SqL.of (S _ _ hl)) ?_ ?_]
 .erw[?i x j u hx U,AI U λg B S M=>?_,-U,<-B];rw[C3]at hx;erw[xea (D7.mp hx) λc ec Y=>?_,<-Y,(([n8 (.str (BD c))],Z,Z),?_,?_)]
  .erw[e1=A3e M];rw[J8]at e1;erw[[C0,e1],F3 (R5 _ _) (F3 aa A6)]
  .erw[EF (xq1 Z (c,Z,X.ok c (D0 ec),λq v s4 hq=>(g++[q],by rw[D4];rfl,S.trans s4,?_))),[F9,ec],A5d (Paired.imp (λ_ _ z=>z.same s4) M) hq]
 .erw[?j u W q nq,AI W λg B S M=>?_,-W,<-B];rw[C0,J7]at M;erw[(q,(xq1 Z (.inl (SqL.of Af,λt ht=>?_))))];generalize L:upd (upd u q (.lst (g.map V.ref))) t (.tup (g.map V.ref))=v;have R:As u v:=by erw[[-L],(An nq).trans (An ht)]
  have G:v t=n8 (.tup (g.map V.ref)):=by erw[[-L],Af]
  erw[m=(s2.trans S).trans R,(ab:t≠p)=λz=>by rw[z,m _ _ D]at G;cases G]
  erw[xq1 Z (p,_,y,(xq1 Z (m _ _ D,T.aAG,T.i_,B9,?_))),(up:∀b o,v b=n8 o->b≠p->upd v p (.ins a.l4 y (fl2 "text" "clauses" (.str (AZ r)) (.ref t))) b=n8 o)=λb o e n=>by erw[[Aq n],e]]
  have cl:∀O c,Cm a v O c->Cm a (upd v p (.ins a.l4 y (fl2 "text" "clauses" (.str (AZ r)) (.ref t)))) O c:=λO c hc=>by
   exact hc.put (m _ _ D) (λC d fs e=>by
    cases e;exact(ST A0,ST A0,ST A0)) (λxs z=>by cases z)
  erw[k _ (λb o e n=>up _ _ (m _ _ (k1 b o e n)) n) (y,t,g,Af,up _ _ G ab,Paired.imp (λO c z=>cl O c (z.same R)) M)]
noncomputable def BE:List Int:=[0,0,0,0,0,0,0,0]
inductive aGJ(a:Ad)(vs:List V)(H:Hp)(Q:VK):Prop
|mk (r:Aw) (_:vs=[.str (AZ r)]) (_:EC r) (_:CF r 0 BE=0) (_:∀(p:R_)(H':Hp),As H H'->BL a H' p (AZ r) r->Q (.ref p) H'):aGJ a vs H Q
def aHb(a:Ad):Sp:=λvs H Q _=>aGJ a vs H Q
theorem aG7(F:Fun K "read_rule" "read_rule" JK f fd)(T:Top K mg a)(C:Tf P w K mg n6 CX0 6 "Rule" a.l4 Os (aHZ a))(z:Cal P w K mg n6 CX0 5 "becomes" Mm (Ww a)) :
 AJ P w K mg n6 CX0 8 f fd Im (aHb a):=by
 erw[F.ok Mw D_9 λB A g s H vs Q E q h=>?_]
 erw[(r,rfl,p,G,k)=h,(_,(Ac (AS (DJ (Dk (AH Fs Z T.U_ A5b (Aa pv0 (Aa (GS (v:=.ty "str") Z T.aAS A7g Z) Ab))))) (Ag Bo) Az) (Ac (Ax 1 Mw.nd (Lz C (rm q) Z AQ (Aa pv0 Ab))) (Ac (AS (Ay IB (AB z q (Aa pv1 (AN (AY aFS (BO (AN Ab)) (Co Z T.aAH) Ab)))) Ae (AF _)) (Ag Bo) Az) (Ag (Av pv1))))),?_),xq1 Z (_,_,_,.type "str",o0,Z,Z,.of (.str _),Wl K,o0,Z,?_),Bj (xq1 Z ?_),?x D nx d I,(x,D,r,Z,Af,p,λu kp i=>(Z,?_)),(L:As H u)=λb o e=>kp b o (by erw[[Aq (Am e nx),Aq (Am e d)],e]) (Am e nx),xq1 Z (S_1,λl j=>?_),(l,8,(xq1 Z (Z,Af,A6,A6,A6,λm n=>?_))),M=(L.trans (An (o:=.lst [.int 0]) j)).trans (An (o:=.lst (BE.map V.int)) n),c=(An (o:=.lst [.int 0]) j).trans (An (o:=.lst (BE.map V.int)) n),(x,m,_,r,0,BE,Z,i.same c,p.rok,Af,λy t=>?_),(Z,(xq1 Z ?_)),[G],Ot Z (xq1 Z ?_),k x y (M.trans t) ((i.same c).same t)]
end
end J
namespace J
open PySem L2
structure Sq where
parts:List Int
lev:Int
abbrev Gv:=List Sq
structure GA where
p:Addr
dx:Addr
lv:Addr
pt:Addr
nm:Addr
br:Addr
am:Addr
bx:Addr
noncomputable def fl6(g:GA):List (Str×V):=AU "boxes" (.ref g.bx) (AU "amounts" (.ref g.am) (AU "bares" (.ref g.br) (AU "numbers" (.ref g.nm) (AU "parts" (.ref g.pt) (AU "levels" (.ref g.lv) [])))))
theorem ET(g:GA):(fl6 g).lookup ("levels" : Str)=n8 (V.ref g.lv):=by
 erw[¬fl6,[Ak,A2f A0,Ak,A2f A0,Ak,A2f A0,Ak,A2f A0,Ak,A2f A0,Ak,A2h rfl]]
theorem CC(g:GA):(fl6 g).lookup ("parts" : Str)=n8 (V.ref g.pt):=by
 erw[¬fl6,[Ak,A2f A0,Ak,A2f A0,Ak,A2f A0,Ak,A2f A0,Ak,A2h rfl]]
theorem aBB(g:GA):(fl6 g).lookup ("numbers" : Str)=n8 (V.ref g.nm):=by
 erw[¬fl6,[Ak,A2f A0,Ak,A2f A0,Ak,A2f A0,Ak,A2h rfl]]
theorem Jp(g:GA):(fl6 g).lookup ("bares" : Str)=n8 (V.ref g.br):=by
 erw[¬fl6,[Ak,A2f A0,Ak,A2f A0,Ak,A2h rfl]]
theorem VU(g:GA):(fl6 g).lookup ("amounts" : Str)=n8 (V.ref g.am):=by
 erw[¬fl6,[Ak,A2f A0,Ak,A2h rfl]]
theorem aBA(g:GA):(fl6 g).lookup ("boxes" : Str)=n8 (V.ref g.bx):=by
 erw[¬fl6,[Ak,A2h rfl]]
theorem GH(g:GA)(a:¬m=("boxes" : Str))(b:¬m=("amounts" : Str))(c:¬m=("bares" : Str))(d:¬m=("numbers" : Str))(e:¬m=("parts" : Str))(f:¬m=("levels" : Str)):(fl6 g).lookup m=n9:=by
 erw[¬fl6,[Ak,A2f a,Ak,A2f b,Ak,A2f c,Ak,A2f d,Ak,A2f e,Ak,A2f f]];rfl
theorem Sm(g:GA):(fl6 g).lookup ("kept" : Str)=n9:=GH g A0 A0 A0 A0 A0 A0
theorem Cf(g:GA):(fl6 g).lookup ("linked" : Str)=n9:=GH g A0 A0 A0 A0 A0 A0
theorem PP(g:GA):(fl6 g).lookup ("check_square" : Str)=n9:=GH g A0 A0 A0 A0 A0 A0
theorem WK(g:GA):(fl6 g).lookup ("leaf" : Str)=n9:=GH g A0 A0 A0 A0 A0 A0
theorem ES(g:GA):(fl6 g).lookup ("level_of" : Str)=n9:=GH g A0 A0 A0 A0 A0 A0
theorem PM(g:GA):(fl6 g).lookup ("state_of" : Str)=n9:=GH g A0 A0 A0 A0 A0 A0
noncomputable def kOf(ps:I_):List Key:=ps.map Sum.inl
theorem aBP(a:I_):(kOf a).map kV=a.map V.int:=by unfold kOf;rw[N5];rfl
theorem LD:∀{a qs:I_},kOf a=kOf qs->a=qs
|[],[],_=>rfl
|[],_::_,h=>by cases h
|_::_,[],h=>by cases h
|x::r,y::t,h=>by
 erw[h=h];injection h with h1 h2
 injection h1 with h1
 rw[h1,LD h2]
noncomputable def Ll:Nat->Gv->List (List Key×V)
|_,[]=>[]
|n,q::r=>#[kOf q.parts,.int (n:Int)]::Ll (n+1) r
theorem Uv:∀(G:Gv)(n:Nat),(Ll n G).length=G.length
|[],_=>rfl
|q::r,n=>by show(Ll (n+1) r).length+1=r.length+1;rw[Uv r]
theorem Ro(q:Sq):∀(G:Gv)(n:Nat),Ll n (G++[q])=Ll n G++[#[kOf q.parts,.int ((n+G.length:Nat):Int)]]
|[],_=>rfl
|p::r,n=>by
 show#[kOf p.parts,V.int (n:Int)]::Ll (n+1) (r++[q])=_;rw[Ro q r (n+1)];show _=#[kOf p.parts,V.int (n:Int)]::(Ll (n+1) r++[#[kOf q.parts,V.int ((n+(r.length+1):Nat):Int)]]);rw[show n+1+r.length=n+(r.length+1) by lia]
theorem SK(a:I_):∀(G:Gv)(n:Nat),(∃(i:Nat)(q:Sq),G[i]?=n8 q/\q.parts=a/\BQ (Ll n G) (kOf a)=n8 (.int ((n+i:Nat):Int)))\/(BQ (Ll n G) (kOf a)=n9/\∀q∈G,q.parts≠a)
|[],n=>.inr (Z,λq b=>by simp at b)
|p::r,n=>by
 erw[(e:p.parts=a)]
 .erw[.inl (0,p,Z,e,BZ (by rw[e]))]
 .have ne:¬#[kOf p.parts,V.int (n:Int)].1=kOf a:=λz=>e (LD z);rcases SK a r (n+1)with ⟨i,q,h1,h2,h3⟩|⟨h1,h2⟩
  .erw[.inl (i+1,q,h1,h2,?_),(_:BQ (#[kOf p.parts,V.int (n:Int)]::Ll (n+1) r) (kOf a)=_)];rw[BF ne,h3,show n+1+i=n+(i+1) by lia]
  .erw[.inr (?_,λq b=>?_)]
   .show BQ (#[kOf p.parts,V.int (n:Int)]::Ll (n+1) r) (kOf a)=_;rw[BF ne,h1]
   .rcases C4.mp b with rfl|b
    .erw[e]
    .erw[h2 q b]
def aGS(H:Hp)(t:R_)(q:Sq):Prop:=H t=n8 (.tup (q.parts.map V.int))
structure AL(a:Ad)(H:Hp)(g:GA)(G:Gv):Prop where
hp:H g.p=n8 (.ins a.L0 g.dx (fl6 g))
lv:H g.lv=n8 (.lst (G.map λq=>.int q.lev))
pt:∃ts:List Addr,H g.pt=n8 (.lst (ts.map V.ref))/\Paired (aGS H) ts G
nm:H g.nm=n8 (.dT (Ll 0 G))
ne:g.lv≠g.pt
def Fr(g:GA)(H H':Hp):Prop:=∀b o,H b=n8 o->b≠g.lv->b≠g.pt->b≠g.nm->H' b=n8 o
theorem Fr.refl(g:GA)(H:Hp):Fr g H H:=λ_ _ e _ _ _=>e
theorem Fr.trans{a c d:Hp}(h:Fr g a c)(k:Fr g c d):Fr g a d:=λb o e f i j=>k b o (h b o e f i j) f i j
theorem As.fr{a c:Hp}(h:As a c):Fr g a c:=λb o e _ _ _=>h b o e
theorem PairedM.imp{α β:Type}{F G:α->β->Prop}(h:∀x y,F x y->G x y):∀{l:List α}{m:List β},Paired F l m->Paired G l m
|_,_,.nil=>.nil
|_,_,.cons r t=>.cons (h _ _ r) (PairedM.imp h t)
theorem PairedM.get{α β:Type}{F:α->β->Prop}:∀{l:List α}{m:List β}{i:Nat}{y:β},Paired F l m->m[i]?=n8 y->∃x,l[i]?=n8 x/\F x y
|_,_,_,_,.nil,e=>by simp at e
|_,_,0,_,.cons r _,e=>by simp at e;subst e;exact(_,Z,r)
|_,_,i+1,y,.cons _ t,e=>by
 erw[xea (PairedM.get (i:=i) (y:=y) t (by simpa using e)) λx a b=>(x,by simpa using a,b)]
theorem AM(h:H p=n9):As H (upd H p o):=λb u e=>by
 erw[[Aq (Am e h)],e]
theorem AL.same{a:Ad}{H b:Hp}{g:GA}{G:Gv}(s:As H b)(h:AL a H g G):AL a b g G:=by
 erw[(c,d,(ts,e,f),i,j)=h,(s _ _ c,s _ _ d,(ts,s _ _ e,PairedM.imp (λt q z=>s _ _ z) f),s _ _ i,j)]
theorem AL.put{a:Ad}{H:Hp}{g:GA}{G:Gv}{l:R_}{xs:List V}{o:HO}(p:H l=n8 (.lst xs))(r:l≠g.lv)(s:l≠g.pt)(h:AL a H g G):AL a (upd H l o) g G:=by
 erw[(d,f,(ts,i,j),k,m)=h,(c:∀{b v},H b=n8 v->v≠.lst xs->upd H l o b=n8 v)=λ{b v} e n=>by erw[[Aq (AC e p n)],e]]
 exact(c d A4,by erw[[Aq (A3f r)],f],(ts,by erw[[Aq (A3f s)],i],PairedM.imp (λt q z=>c z A4) j),c k A4,m)
def Al(G:Gv)(x:Nat)(l:Int):Prop:=∃q,G[x]?=n8 q/\q.lev=l
structure GOk(G:Gv):Prop where
leaf:∀s:Nat,s<8->G[s]?=n8 ([(s:Int)],0)
node:∀(i:Nat) q,G[i]?=n8 q->8<=i->∃x y z w:Nat,q.parts=[(x:Int),(y:Int),(z:Int),(w:Int)]/\(Al G x (q.lev-1)/\Al G y (q.lev-1)/\Al G z (q.lev-1)/\Al G w (q.lev-1))/\1<=q.lev/\q.lev<=48
nd:(G.map Sq.parts).Nodup
theorem Al.lt(h:Al G x l):x<G.length:=by
 erw[xea h λq h _=>(C2.mp h).1]
theorem LE{G r:Gv}{x:Nat}{q:Sq}(h:G[x]?=n8 q):(G++r)[x]?=n8 q:=by
 erw[[M5 (C2.mp h).1],h]
theorem Al.app{G r:Gv}{x:Nat}{l:Int}(h:Al G x l):Al (G++r) x l:=by
 erw[xea h λq h e=>(q,LE h,e)]
theorem GOk.lev{G:Gv}(h:GOk G){i:Nat}{q:Sq}(e:G[i]?=n8 q):0<=q.lev/\q.lev<=48:=by
 erw[(b:i<8)]
 .rw[h.leaf i b]at e;erw[!e,(Int.le_refl 0,by show(0:Int)<=48;decide)]
 .erw[xe4 (h.node i q e (M4 b)) λx y z w a=>xa3 a λ_ _ d c=>(by lia,c)]
theorem GOk.snoc{G:Gv}(h:GOk G){x y z w:Nat}{l:Int}(B:Al G x l)(C:Al G y l)(D:Al G z l)(A:Al G w l)(r:l<=47)(new:∀q∈G,q.parts≠[(x:Int),(y:Int),(z:Int),(w:Int)]):GOk (G++[([(x:Int),(y:Int),(z:Int),(w:Int)],l+1)]) where
 leaf:=λs v=>LE (h.leaf s v)
 node:=λi q e hi=>by
  erw[(d:i<G.length)]
  .rw[M5 d]at e;erw[(x,y,z,w,n,(f,g,j,k),o)=h.node i q e hi,(x,y,z,w,n,(f.app,g.app,j.app,k.app),o)]
  .rw[L5 (M4 d)]at e;have:i-G.length=0:=by
    erw[(z:i-G.length=0)]
    .erw[z]
    .rw[T8 (by rw[T7];lia)]at e;cases e
   rw[this]at e;erw[!e,xea B λH c E=>?_];have:=(h.lev c).1;have m:l+1-1=l:=by lia
   erw[(x,y,z,w,Z,?_,?_,?_)]
   .erw[(_:Al _ x (l+1-1)/\Al _ y (l+1-1)/\Al _ z (l+1-1)/\Al _ w (l+1-1)),[m],(Al.app (H,c,E),C.app,D.app,A.app)]
   .show 1<=l+1;lia
   .show l+1<=48;lia
 nd:=by
  erw[[D4,Q6],(h.nd,by simp,λp t F b=>?_),xea (F0.mp t) λq u a=>?_,<-a];rw[show F=[(x:Int),(y:Int),(z:Int),(w:Int)] by simpa using b];erw[new q u]
theorem GOk.one{G:Gv}(h:GOk G){i j:Nat}{p q:Sq}(hi:G[i]?=n8 p)(a:G[j]?=n8 q)(e:p.parts=q.parts):i=j:=by
 have b:(G.map Sq.parts)[i]'(by rw[C0];exact((C2.mp hi).1))=(G.map Sq.parts)[j]'(by rw[C0];exact((C2.mp a).1)):=by
  rw[K4,K4,(C2.mp hi).2,(C2.mp a).2,e]
 exact(List.getElem_inj h.nd).mp b
seal L2.PA L2.PE L2.PS L2.PSs L2.PT L2.PW
theorem Dz(h:n<10000000):n<sizeLine:=D8 h A6
theorem WW(K:O_):kitOne K (.type "int") (.type "int")=n8 o0/\kitOne K (.type "int") (.type "bool")=n8 o3:=(by kernel_rfl,by kernel_rfl)
section
variable{P:N_}{w:Q_}{K:O_}{mg:C_}{n6:T_}{a:Ad}
inductive aGF(vs:List V)(H:Hp)(Q:VK):Prop
|mk (i:Int) (_:vs=[.int i]) (_:Q (.bl o0) H):aGF vs H Q
def YE:Sp:=λvs H Q _=>aGF vs H Q
theorem aG3(F:Fun K "is_whole" "is_whole" LZ f fd)(T:Top K mg a):AJ P w K mg n6 CX0 1 f fd Vv YE:=by
 erw[F.ok TD D_9 λc A b s H vs Q E d h=>?_]
 erw[(i,rfl,k)=h,(_,(Ag (Av (Mj (AH Fs Z T.U_ A5b (Aa pv0 (Aa (GS (v:=.ty "int") Z T.aAQ A7f Z) Ab))) (NE (aFV (AH Fs Z T.U_ A5b (Aa pv0 (Aa (GS (v:=.ty "bool") Z T.aAs PyProof.Rows.boot_bool Z) Ab)))))))),(xq1 Z (_,_,_,.type "int",o0,Z,Z,.of (.int i),(WW K).1,o0,Z,Cy (xq1 Z (_,_,_,.type "int",o3,Z,Z,.of (.int i),(WW K).2,o3,Z,k)))))]
inductive aGE(vs:List V)(H:Hp)(Q:VK):Prop
|mk (i:Int) (_:vs=[.int i]) (_:0<=i) (_:i<8) (_:Q (.bl o0) H):aGE vs H Q
def aFi:Sp:=λvs H Q _=>aGE vs H Q
theorem aG2(F:Fun K "is_state" "is_state" Ma f fd)(T:Top K mg a)(c:Cal P w K mg n6 CX0 1 "is_whole" Vv YE):AJ P w K mg n6 CX0 2 f fd Vv aFi:=by
 erw[F.ok TF D_9 λd A b s H vs Q E j h=>?_]
 erw[(i,rfl,e,g,k)=h,(_,(Ag (Av (Mj (AB c j (Aa pv0 Ab)) (NE (aB5 MO IC Ae pv0 (Co Z T.aAT)))))),?_),xq1 Z (i,Z,o0,Z,Cy (xwb Z Z Z (xq1 Z ?_))),[A2g e],Cy (xq2 Z Z ?_),(_:Q (.bl (decide (i<8))) H),[A2g g],k]
inductive aAf(a:Ad)(vs:List V)(H:Hp)(Q:VK):Prop
|mk (g:GA) (G:Gv) (t:R_) (ps:I_) (l:Int) (_:vs=[.ref g.p,.ref t,.int l]) (_:AL a H g G) (_:H t=n8 (.tup (ps.map V.int))) (_:(∀q∈G,q.parts≠ps)) (_:G.length<9000000) (_:∀H',Fr g H H'->AL a H' g (G++[(ps,l)])->Q (.int (G.length:Int)) H'):aAf a vs H Q
def RS(a:Ad):Sp:=λvs H Q _=>aAf a vs H Q
theorem aCw(F:Fun K "kept" "Grove.kept" Ja f fd)(T:Top K mg a):AJ P w K mg n6 CX0 1 f fd FR (RS a):=by
 erw[F.ok LP D_9 λaa A X s H vs Q E hr h=>?_]
 erw[(g,G,t,j,l,rfl,hg,ht,new,few,k)=h,(d,r,(ts,O,Y),y,S)=hg,(_,(Ac (Ax 3 LP.nd (AH Br Z T.j_ A5c (Aa (AA pv0 Z) Ab))) (Ac (FN (Ei hr) (AA pv0 Z) pv1 pv3 Z) (Ac (Bq (Dm A4a A4b A4c BI (AA pv0 Z) (Aa pv2 Ab))) (Ac (Bq (Dm A4a A4b A4c BI (AA pv0 Z) (Aa pv1 Ab))) (Ag (Av pv3)))))),?_),xwf Z Z d T.J4 T.Q1 (ET g) (g.lv,(xq1 Z (.inl (SqL.of r),?_))),[C0],m=AC d y A4,p=AC r y A4,I=AC O y A4,L=AC d r A4,W=AC d O A4];have vn:BQ (Ll 0 G) (kOf j)=n9:=by
  rcases SK j G 0 with ⟨i,q,e1,e2,_⟩|⟨e,_⟩
  .erw[absurd e2 (new q (D0 e1))]
  .erw[e]
 erw[xw2 Z Z (xq5 d T.J4 T.e_ (aBB g) (xq1 Z (g.nm,(xq1 Z (Mt.t (k:=kOf j) y (by erw[[aBP],ht]) (by erw[[Uv],Dz (D8 few A6)]),?_))))),[MG _ vn],(e5:Ll 0 G++[#[kOf j,V.int (G.length:Int)]]=Ll 0 (G++[(j,l)]))=by rw[Ro,P0]]
 rw[e5];generalize B:upd H g.nm (.dT (Ll 0 (G++[(j,l)])))=M;have u:∀b o,H b=n8 o->b≠g.nm->M b=n8 o:=λb o e n=>by erw[[-B,Aq n],e]
 have n1:M g.nm=n8 (.dT (Ll 0 (G++[(j,l)]))):=by erw[[-B],Af]
 erw[xwf Z Z (u _ _ d m) T.J4 T.Q1 (ET g) (.inl (Z,_,SqL.of (u _ _ r p)),(xq1 Z (g.lv,(xq2 Z Z (u _ _ r p,by erw[[C0],Dz (D8 few A6)],?_)))))];generalize C:upd M g.lv (.lst ((G.map λq=>V.int q.lev)++[.int l]))=N;have R:∀b o,M b=n8 o->b≠g.lv->N b=n8 o:=λb o e n=>by erw[[-C,Aq n],e]
 have n2:N g.lv=n8 (.lst ((G++[((j,l):Sq)]).map λq=>V.int q.lev)):=by rw[<-C,Af,D4];rfl
 erw[x=R _ _ (u _ _ O I) (A3f S),xwf Z Z (R _ _ (u _ _ d m) L) T.J4 T.L3 (CC g) (.inl (Z,_,SqL.of x),(xq1 Z (g.pt,(xq2 Z Z (x,by erw[[C0,(A3e Y)],Dz (D8 few A6)],?_)))))];generalize D:upd N g.pt (.lst (ts.map V.ref++[.ref t]))=v;have U:∀b o,N b=n8 o->b≠g.pt->v b=n8 o:=λb o e n=>by erw[[-D,Aq n],e]
 have n3:v g.pt=n8 (.lst ((ts++[t]).map V.ref)):=by rw[<-D,Af,D4];rfl
 erw[(fr:Fr g H v)=λb o e m1 m2 m3=>U _ _ (R _ _ (u _ _ e m3) m1) m2,(tp:∀(c:R_)(xs:List V),H c=n8 (.tup xs)->v c=n8 (.tup xs))=λc xs e=>fr _ _ e (AC e r A4) (AC e O A4) (AC e y A4),xq1 Z (k v fr (fr _ _ d L W m,U _ _ n2 S,(ts++[t],n3,A5d (PairedM.imp (λc q z=>tp c _ z) Y) (tp t _ ht)),U _ _ (R _ _ n1 (A3f p)) (A3f I),S))]
structure AG(G G':Gv)(n:Nat):Prop where
ok:GOk G'
pre:∃r,G'=G++r
few:G'.length<=G.length+n
theorem AG.refl(h:GOk G):AG G G 0:=(h,([],by simp),C1 _)
theorem AG.trans(h:AG G d n)(c:AG d b m):AG G b (n+m):=by
 erw[(r,e)=h.pre,(t,f)=c.pre,g=h.few,i=c.few,(c.ok,(r++t,by rw[f,e,O3]),by lia)]
theorem AG.get{G b:Gv}{n x:Nat}{q:Sq}(h:AG G b n)(e:G[x]?=n8 q):b[x]?=n8 q:=by
 erw[(r,c)=h.pre,[c],LE e]
theorem AG.lev{G b:Gv}{n x:Nat}{l:Int}(h:AG G b n)(e:Al G x l):Al b x l:=by
 erw[xea e λq e z=>(q,h.get e,z)]
inductive VZ(a:Ad)(vs:List V)(H:Hp)(Q:VK):Prop
|mk (g:GA) (G:Gv) (t:R_) (x y z w:Nat) (l:Int) (_:vs=[.ref g.p,.ref t]) (_:AL a H g G) (_:GOk G) (_:H t=n8 (.tup [.int x,.int y,.int z,.int w])) (_:(Al G x l/\Al G y l/\Al G z l/\Al G w l)) (_:l<=47) (_:G.length<9000000) (_:∀(n:Nat)(G':Gv)(H':Hp),Fr g H H'->AL a H' g G'->AG G G' 1->G'[n]?=n8 ([(x:Int),(y:Int),(z:Int),(w:Int)],l+1)->Q (.int n) H'):VZ a vs H Q
def Fu(a:Ad):Sp:=λvs H Q _=>VZ a vs H Q
theorem aCy(F:Fun K "linked" "Grove.linked" Gj f fd)(T:Top K mg a)(R:BY P w K mg n6 CX0 1 a.L0 "kept" FR (RS a)):AJ P w K mg n6 CX0 2 f fd Bh (Fu a):=by
 erw[F.ok Jz D_9 λS A v s H vs Q E I h=>?_]
 erw[(g,G,t,x,y,z,w,l,rfl,D,ok,r,(u,hy,hz,Y),o,few,k)=h,d=D,(n,W,(ts,h3,h4),C,h6)=D,(_,(Ac (Ax 2 Jz.nd (JS (Ei I) (AA pv0 Z) pv1 (Z,Z,Z,Z))) (Ac (AS (Ay Jl pv2 Dw (AF _)) (Ag (Av (AD pv0 R (rm I) AQ (Aa pv1 (AY AO (Aj Ar (AA pv0 Z) (Aj Ao pv1 Ae R_9) R_9) Ae Ab))))) Az) (Ag (Av pv2)))),?_),xwf Z Z n T.J4 T.e_ (aBB g) (g.nm,Z,.inr (_,.inl C),(xq1 Z (_,GL.t (k:=kOf [(x:Int),(y:Int),(z:Int),(w:Int)]) C (by erw[[aBP],r]),?_)))];rcases SK [(x:Int),(y:Int),(z:Int),(w:Int)] G 0 with ⟨i,q,c,b,U⟩|⟨e,new⟩
 .erw[[U],xq1 Z (Z,(xq1 Z (Bj (xq1 Z ?_)))),[P0],k i G H (Fr.refl g H) d (ok,([],by simp),F5 _ _) ?_];have X:8<=i:=by
   erw[M4 λM=>?_];rw[ok.leaf i M]at c;erw[!c,!b]
  erw[(x',y',M,w',p1,(L,_),_)=ok.node i q c X];have m:x'=x:=by
   rw[p1]at b;injection b with b _
   erw[A4d b]
  rw[m]at L;erw[xea L λqa O a2=>xea u λqb B b2=>?_];rw[O]at B;erw[!B,(V:q.lev=l+1)=by lia]
  rw[c];cases q with
  |mk pp ll=>erw[!b,!V];rfl
 .erw[[e],xq1 Z (Z,(xq1 Z (Cy ?_))),xea (id u) λq c b=>xwn Z Z n (Sm g) Z (xwf Z Z n T.J4 T.Q1 (ET g) (xwi Z Z Z (SqT.of r) (Ai (j:=0) Z) (xq4 Z Z (SqL.of W) (Ai (by rw[C3,c];rfl)) (xq2 Z Z ?_)))),(g,G,t,[(x:Int),(y:Int),(z:Int),(w:Int)],l+1,by rw[<-b];rfl,d,r,new,few,λN fr p=>?_),k G.length _ N fr p (ok.snoc u hy hz Y o new,(_,Z),by erw[[D3],C1 _]) ?_,[L5 (C1 _),V4]];rfl
inductive aDU(a:Ad)(vs:List V)(H:Hp)(Q:VK):Prop
|mk (g:GA) (G:Gv) (i:Nat) (_:vs=[.ref g.p,.int i]) (_:AL a H g G) (_:i<G.length) (_:Q .non H):aDU a vs H Q
def Tw(a:Ad):Sp:=λvs H Q _=>aDU a vs H Q
theorem aE2(F:Fun K "check_square" "Grove.check_square" Du f fd)(T:Top K mg a)(d:Cal P w K mg n6 CX0 1 "is_whole" Vv YE):AJ P w K mg n6 CX0 2 f fd Lj (Tw a):=by
 erw[F.ok JD D_9 λe A b s H vs Q E j h=>?_]
 erw[(g,G,i,rfl,c,hi,k)=h,(_,(Ag (AS (PW.pt (MF (DJ (Dk (AB d j (Aa pv1 Ab)))) (JP (DJ (TV MO IC Ae pv1 (AH Br Z T.j_ A5c (Aa (AA pv0 Z) Ab))))))) (Ag Bo) Az)),?_),(_,Z,_,Z,o0,Z,Bj (_,Z,_,_,Z,Z,_,Z,?_)),[A2g (O4 _:(0:Int)<=(i:Int))],Cy (xwf Z Z c.hp T.J4 T.Q1 (ET g) (g.lv,(xq1 Z (.inl (SqL.of c.lv),(xq2 Z Z (xq1 Z ?_)))))),[C0,A2g (by lia:(i:Int)<(G.length:Int))],Bj k]
inductive aAg(a:Ad)(vs:List V)(H:Hp)(Q:VK):Prop
|mk (p:R_) (i:Int) (_:vs=[.ref p,.int i]) (_:0<=i) (_:i<8) (_:Q (.int i) H):aAg a vs H Q
def RQ(a:Ad):Sp:=λvs H Q _=>aAg a vs H Q
theorem aCx(F:Fun K "leaf" "Grove.leaf" IZ f fd)(T:Top K mg a)(c:Cal P w K mg n6 CX0 2 "is_state" Vv aFi):AJ P w K mg n6 CX0 3 f fd SF (RQ a):=by
 erw[F.ok QI D_9 λd A b s H vs Q E l h=>?_]
 erw[(g,i,rfl,e,j,k)=h,(_,(Ac (AS (DJ (Dk (AB c l (Aa pv1 Ab)))) (Ag Bo) Az) (Ag (Av pv1))),(xq1 Z (i,Z,e,j,o0,Z,Bj (xq1 Z k))))]
inductive aDY(a:Ad)(vs:List V)(H:Hp)(Q:VK):Prop
|mk (g:GA) (G:Gv) (i:Nat) (q:Sq) (_:vs=[.ref g.p,.int i]) (_:AL a H g G) (_:G[i]?=n8 q) (_:Q (.int q.lev) H):aDY a vs H Q
def Oh(a:Ad):Sp:=λvs H Q _=>aDY a vs H Q
theorem aE8(F:Fun K "level_of" "Grove.level_of" EK f fd)(T:Top K mg a)(d:BY P w K mg n6 CX0 2 a.L0 "check_square" Lj (Tw a)):AJ P w K mg n6 CX0 3 f fd Lj (Oh a):=by
 erw[F.ok MC D_9 λe A c s H vs Q E j h=>?_]
 erw[(g,G,i,q,rfl,b,hi,k)=h,(_,(Ac (Bq (AD pv0 d (rm j) AQ (Aa pv1 Ab))) (Ag (Av (Aj Ar (AA pv0 Z) pv1 R_9)))),?_),xwn Z Z b.hp (PP g) Z (g,G,i,Z,b,(C2.mp hi).1,?_),xwf Z Z b.hp T.J4 T.Q1 (ET g) (xwi Z Z Z (SqL.of b.lv) (Ai (by rw[C3,hi];rfl)) k)]
inductive aDm(a:Ad)(vs:List V)(H:Hp)(Q:VK):Prop
|mk (g:GA) (G:Gv) (i:Nat) (q:Sq) (_:vs=[.ref g.p,.int i]) (_:AL a H g G) (_:G[i]?=n8 q) (_:q.lev=0) (_:Q (.int i) H):aDm a vs H Q
def Wo(a:Ad):Sp:=λvs H Q _=>aDm a vs H Q
theorem aFM(F:Fun K "state_of" "Grove.state_of" EJ f fd)(T:Top K mg a)(d:BY P w K mg n6 CX0 3 a.L0 "level_of" Lj (Oh a)):AJ P w K mg n6 CX0 4 f fd Lj (Wo a):=by
 erw[F.ok MB D_9 λe A b s H vs Q E l h=>?_]
 erw[(g,G,i,q,rfl,c,hi,j,k)=h,(_,(Ac (AS (Ay IB (AD pv0 d (rm l) AQ (Aa pv1 Ab)) Ae (AF _)) (Ag Bo) Az) (Ag (Av pv1))),?_),xwn Z Z c.hp (ES g) Z (g,G,i,q,Z,c,hi,Z,(xq1 Z ?_)),[j],Ot Z (xq1 Z k)]
end
end J
namespace J
open PySem L2
noncomputable def bareN:Nat->Nat
|0=>0
|j+1=>8+j
noncomputable def Eh(n:Nat):Gv:=(List.range n).map λ(s:Nat)=>(([(s:Int)],0):Sq)
noncomputable def GI(n:Nat):Gv:=(List.range n).map λ(j:Nat)=>(([(bareN j:Int),(bareN j:Int),(bareN j:Int),(bareN j:Int)],(j:Int)+1):Sq)
noncomputable def G0:Gv:=Eh 8++GI 48
theorem VL(n:Nat):Eh (n+1)=Eh n++[([(n:Int)],0)]:=by unfold Eh;rw[Q7,D4];rfl
theorem Qx(n:Nat):GI (n+1)=GI n++[([(bareN n:Int),(bareN n:Int),(bareN n:Int),(bareN n:Int)],(n:Int)+1)]:=by unfold GI;rw[Q7,D4];rfl
theorem FT(n:Nat):(Eh n).length=n:=by unfold Eh;rw[C0,P3]
theorem RJ(n:Nat):(GI n).length=n:=by unfold GI;rw[C0,P3]
theorem Zx{i j:Nat}(h:bareN i=bareN j):i=j:=by
 cases i<;>cases j
 .rfl
 .have:0=8+_:=h;lia
 .have:8+_=0:=h;lia
 .have:8+_=8+_:=h;lia
theorem Zf(n:Nat):∀q∈Eh n,q.parts≠[(n:Int)]:=λq b z=>by
 erw[xea (F0.mp b) λs c a=>?_,<-a];have:=N9.mp c;injection z with z _
 have:s=n:=A4d z;lia
theorem RI(n:Nat):∀q∈Eh 8++GI n,q.parts≠[(bareN n:Int),(bareN n:Int),(bareN n:Int),(bareN n:Int)]:=λq b z=>by
 rcases J9.mp b with b|b
 .erw[xea (F0.mp b) λs c a=>?_,<-a,!z]
 .erw[xea (F0.mp b) λs c a=>?_,<-a];have:=N9.mp c;injection z with z _
  have:=Zx (A4d z);lia
theorem SQ:G0.length=56:=by unfold G0;rw[D3,FT,RJ]
theorem MX(j:Nat)(h:j<48):G0[8+j]?=n8 ([(bareN j:Int),(bareN j:Int),(bareN j:Int),(bareN j:Int)],(j:Int)+1):=by
 unfold G0;rw[L5 (by erw[[FT],F5 _ _]),FT,show 8+j-8=j by lia];erw[¬GI,[C3,S7 h]];rfl
theorem SR(s:Nat)(h:s<8):G0[s]?=n8 ([(s:Int)],0):=by
 erw[¬G0,[M5 (by erw[[FT],h])],¬Eh,[C3,S7 h]];rfl
theorem aBD(j:Nat)(h:j<=48):Al G0 (bareN j) (j:Int):=by
 cases j with
 |zero=>exact(_,SR 0 A6,Z)
 |succ j=>exact(_,MX j A3,Z)
theorem aDw:∀n,((Eh 8++GI n).map Sq.parts).Nodup
|0=>by decide
|n+1=>by
 erw[[Qx,-O3,D4,Q6],(aDw n,by simp,λp c e b=>?_),xea (F0.mp c) λq d a=>?_,<-a];rw[show e=[(bareN n:Int),(bareN n:Int),(bareN n:Int),(bareN n:Int)] by simpa using b];erw[RI n q d]
theorem aGl:GOk G0 where
 leaf:=SR
 node:=λi q e a=>by
  have hi:i<56:=by erw[[-SQ],(C2.mp e).1]
  obtain⟨j,rfl⟩:∃j,i=8+j:=(i-8,by lia)
  rw[MX j A3]at e;cases e;have:=aBD j A3;erw[(bareN j,bareN j,bareN j,bareN j,Z,?_,?_,?_)]
  .show Al G0 _ ((j:Int)+1-1)/\Al G0 _ ((j:Int)+1-1)/\Al G0 _ ((j:Int)+1-1)/\Al G0 _ ((j:Int)+1-1);rw[show(j:Int)+1-1=(j:Int) by lia];exact(this,this,this,this)
  .show 1<=(j:Int)+1;lia
  .show(j:Int)+1<=48;lia
 nd:=aDw 48
noncomputable def amK(n:Nat):List (Key×V):=(List.range n).map λ(s:Nat)=>#[Sum.inl (s:Int),V.int (if(1:Int)<(s:Int)then 1 else(s:Int))]
theorem UP(n:Nat):amK (n+1)=amK n++[#[Sum.inl (n:Int),V.int (if(1:Int)<(n:Int)then 1 else(n:Int))]]:=by unfold amK;rw[Q7,D4];rfl
theorem aCK(n:Nat):(amK n).length=n:=by unfold amK;rw[C0,P3]
theorem RL{κ:Type}[DecidableEq κ]{k:κ}:∀{l m:List (κ×V)},BQ l k=n9->BQ (l++m) k=BQ m k
|[],_,_=>rfl
|p::r,m,h=>by
 erw[(e:p.1=k)]
 .rw[BZ e]at h;cases h
 .rw[BF e]at h;erw[(_:BQ (p::(r++m)) k=_),[BF e],RL h]
theorem UQ(n:Nat):∀m,n<=m->BQ (amK n) (Sum.inl (m:Int))=n9:=by
 induction n with
 |zero=>intro m _;rfl
 |succ n a =>
  erw[?m b,[UP,RL (a m A3),BF (by intro z;injection z with z;have:=A4d z;lia)]];rfl
noncomputable def Dn(n:Nat):List Int:=(List.range (n+1)).map λj=>((bareN j:Nat):Int)
theorem Qy(n:Nat):Dn (n+1)=Dn n++[((bareN (n+1):Nat):Int)]:=by unfold Dn;rw[Q7,D4];rfl
theorem VY(n:Nat):(Dn n).getLast?=n8 ((bareN n:Nat):Int):=by
 cases n with
 |zero=>rfl
 |succ n=>rw[Qy,List.getLast?_append];rfl
theorem aAq(h:xs.getLast?=n8 x):atI xs (-1)=n8 x:=by
 erw[(ys,rfl)=List.getLast?_eq_some_iff.mp h,¬atI ixN,[A2f A6,A2h (by rw[D3,T7];lia)],(_:(ys++[x])[((-1:Int)+((ys++[x]).length:Nat)).toNat]?=n8 x)];rw[D3,T7,show((-1:Int)+((ys.length+1:Nat):Int)).toNat=ys.length by lia,L5 (C1 _),V4];rfl
seal L2.PA L2.PE L2.PS L2.PSs L2.PT L2.PW
structure UW(a:Ad)(H H':Hp)(g:GA)(G:Gv)(B:I_)(am:List (Key×V)):Prop where
kp:∀b o,H b=n8 o->b≠g.p->H' b=n8 o
at':AL a H' g G
br:H' g.br=n8 (.lst (B.map V.int))
am:H' g.am=n8 (.dK am)
bx:H' g.bx=n8 (.dK [])
fresh:H g.lv=n9/\H g.pt=n9/\H g.nm=n9/\H g.br=n9/\H g.am=n9/\H g.bx=n9
n1:g.br≠g.lv
n2:g.br≠g.pt
n3:g.am≠g.bx
section
variable{P:N_}{w:Q_}{K:O_}{mg:C_}{n6:T_}{a:Ad}
inductive Yo(a:Ad)(vs:List V)(H:Hp)(Q:VK):Prop
|mk (p dx:R_) (_:vs=[.ref p]) (_:H p=n8 (.ins a.L0 dx [])) (_:∀(g:GA)(H':Hp),g.p=p->UW a H H' g G0 (Dn 48) (amK 8)->Q .non H'):Yo a vs H Q
def RV(a:Ad):Sp:=λvs H Q _=>Yo a vs H Q
theorem aBu(F:Fun K "__init__" "Grove.__init__" Jb f fd)(T:Top K mg a)(aT:BY P w K mg n6 CX0 1 a.L0 "kept" FR (RS a)):AJ P w K mg n6 CX0 2 f fd Jk (RV a):=by
 erw[F.ok EW D_9 λa1 A az s H vs Q E hr h=>?_]
 erw[(p,r,rfl,hp,k)=h,(_,(Ac (CT pv0 (BO Ab) Z) (Ac (CT pv0 (BO Ab) Z) (Ac (CT pv0 MK Z) (Ac (CT pv0 (BO (AN Ab)) Z) (Ac (CT pv0 ML Z) (Ac (CT pv0 ML Z) (Ac (BN A3g Z (Ce Z T.V_ (Aa (Co Z T.aAT) Ab)) (AV (i:=1) EW.nd Z O_9) (Ac (Bq (AD pv0 aT (rm hr) AQ (Bb (Aa pv1 Ab) (AN Ab)))) (Ag (FN (Ei hr) (AA pv0 Z) pv1 (AH (RB Z) Z T.aAN A6g (Aa pv1 (AN Ab))) Z)))) (Ag (BN A3g Z (Lx Z T.V_ (AN (AY AO (Co Z T.aAC) Ae Ab))) (AV (i:=2) EW.nd Z O_9) (Ac (Ax 3 EW.nd (Aj Ar (AA pv0 Z) (Fo Dp Ae) R_9)) (Ag (Bq (Dm A4a A4b A4c BI (AA pv0 Z) (Aa (AD pv0 aT (rm hr) AQ (Bb (Aa pv3 (Aa pv3 (Aa pv3 (Aa pv3 Ab)))) (Aa pv2 Ab))) Ab)))))))))))))),?_)];have stp:∀{B:Hp}{x:R_}{o:HO}{fs fs':List (Str×V)},B p=n8 (.ins a.L0 r fs)->B x=n9->(∀b v,B b=n8 v->b≠p->upd (upd B x o) p (.ins a.L0 r fs') b=n8 v)/\upd (upd B x o) p (.ins a.L0 r fs') x=n8 o/\upd (upd B x o) p (.ins a.L0 r fs') p=n8 (.ins a.L0 r fs')/\upd B x o p=n8 (.ins a.L0 r fs):=λ{B x o fs fs'} e1 e2=>by
  have n:x≠p:=λz=>by rw[z,e1]at e2;cases e2
  exact(λb v e nb=>by erw[[Aq nb,Aq (Am e e2)],e],by erw[[Aq n],Af],Af,by erw[[Aq (A3f n)],e1])
 erw[Bn ?_,?L M Y m G,(S_0,λO aa=>?_),xa3 (stp (o:=.lst []) (fs':=AU "levels" (.ref O) []) hp aa) λk1 x1 p1 q1=>xq1 Z (p,_,r,[],Z,q1,T.J4,T.Q1,B5,?_),(_:Y _ _)];generalize upd (upd H O _) p _=H1 at k1 x1 p1⊢;erw[m (Bn ?_),?L M Y m G,(S_0,λpt X=>?_),xa3 (stp (o:=.lst []) (fs':=AU "parts" (.ref pt) (AU "levels" (.ref O) [])) p1 X) λk2 x2 p2 q2=>xq1 Z (p,_,r,(xq1 Z (q2,T.J4,T.L3,B9,?_))),(_:Y _ _)];generalize upd (upd H1 pt _) p _=H2 at k2 x2 p2⊢;erw[m (Bn ?_),?L M Y m G,?nm ab,xa3 (stp (o:=.dT []) (fs':=AU "numbers" (.ref nm) (AU "parts" (.ref pt) (AU "levels" (.ref O) []))) p2 ab) λk3 x3 p3 q3=>xq1 Z (p,_,r,(xq1 Z (q3,T.J4,T.e_,(by show 2<1000;decide),?_))),(_:Y _ _)];generalize upd (upd H2 nm _) p _=H3 at k3 x3 p3⊢;erw[m (Bn ?_),?L M Y m G,(S_1,λU l=>?_),xa3 (stp (o:=.lst [.int 0]) (fs':=AU "bares" (.ref U) (AU "numbers" (.ref nm) (AU "parts" (.ref pt) (AU "levels" (.ref O) [])))) p3 l) λk4 x4 p4 q4=>xq1 Z (p,_,r,(xq1 Z (q4,T.J4,T.Q2,(by show 3<1000;decide),?_))),(_:Y _ _)];generalize upd (upd H3 U _) p _=H4 at k4 x4 p4⊢;erw[m (Bn ?_),?L M Y m G,?S I,xa3 (stp (o:=.dK []) (fs':=AU "amounts" (.ref S) (AU "bares" (.ref U) (AU "numbers" (.ref nm) (AU "parts" (.ref pt) (AU "levels" (.ref O) []))))) p4 I) λk5 x5 p5 q5=>xq1 Z (p,_,r,(xq1 Z (q5,T.J4,T.a_,(by show 4<1000;decide),?_))),(_:Y _ _)];generalize upd (upd H4 S _) p _=H5 at k5 x5 p5⊢;erw[m (Bn ?_),?L M Y m G,?bx D,xa3 (stp (o:=.dK []) (fs':=fl6 (p,r,O,pt,nm,U,S,bx)) p5 D) λk6 x6 p6 q6=>xq1 Z (p,_,r,(xq1 Z (q6,T.J4,T.l7,(by show 5<1000;decide),?_))),(_:Y _ (upd (upd H5 bx (.dK [])) p (.ins a.L0 r (fl6 (p,r,O,pt,nm,U,S,bx)))))];generalize upd (upd H5 bx _) p _=H6 at k6 x6 p6⊢;erw[m ?_,(al:∀b v,H1 b=n8 v->b≠p->H6 b=n8 v)=λb v e n=>k6 _ _ (k5 _ _ (k4 _ _ (k3 _ _ (k2 _ _ e n) n) n) n) n,(an:∀b v,H2 b=n8 v->b≠p->H6 b=n8 v)=λb v e n=>k6 _ _ (k5 _ _ (k4 _ _ (k3 _ _ e n) n) n) n,(ao:∀b v,H3 b=n8 v->b≠p->H6 b=n8 v)=λb v e n=>k6 _ _ (k5 _ _ (k4 _ _ e n) n) n,(aq:∀b v,H4 b=n8 v->b≠p->H6 b=n8 v)=λb v e n=>k6 _ _ (k5 _ _ e n) n,(np:∀{B:Hp}{x:R_}{fs:List (Str×V)},B p=n8 (.ins a.L0 r fs)->B x=n9->x≠p)=λ{B x fs} e1 e2 z=>by rw[z,e1]at e2;cases e2]
 erw[(no:∀{B Hm:Hp}{x y:R_}{v:HO},B x=n8 v->B y=n9->x≠y)=λ{B Hm x y v} e1 e2=>Am e1 e2,ac=np hp aa,ad=np p1 X,aj=np p2 ab,ai=np p3 l,ah=np p4 I,as=np p5 D,y1=al _ _ x1 ac,y2=an _ _ x2 ad,y3=ao _ _ x3 aj,y4=aq _ _ x4 ai,y5=k6 _ _ x5 ah];have C:∀{B:Hp}{x:R_},(∀b v,H b=n8 v->b≠p->B b=n8 v)->x≠p->B x=n9->H x=n9:=λ{B x} kp n e=>by
  cases h:H x with
  |none=>rfl
  |some v=>rw[kp _ _ h n]at e;cases e
 erw[(c2:∀b v,H b=n8 v->b≠p->H2 b=n8 v)=λb v e n=>k2 _ _ (k1 _ _ e n) n,(c3:∀b v,H b=n8 v->b≠p->H3 b=n8 v)=λb v e n=>k3 _ _ (c2 _ _ e n) n,(c4:∀b v,H b=n8 v->b≠p->H4 b=n8 v)=λb v e n=>k4 _ _ (c3 _ _ e n) n,(c5:∀b v,H b=n8 v->b≠p->H5 b=n8 v)=λb v e n=>k5 _ _ (c4 _ _ e n) n,(c6:∀b v,H b=n8 v->b≠p->H6 b=n8 v)=λb v e n=>k6 _ _ (c5 _ _ e n) n,d1=Am x1 X,d2=A3f (Am (k3 _ _ (k2 _ _ x1 ac) ac) l),d3=A3f (Am (k3 _ _ x2 ad) l),d4=Am x5 D,(N0:UW a H H6 (p,r,O,pt,nm,U,S,bx) (Eh 0) (Dn 0) (amK 0))=(c6,(p6,y1,([],y2,.nil),y3,d1),y4,y5,x6,(aa,C k1 ad X,C c2 aj ab,C c3 ai l,C c4 ah I,C c5 as D),d2,d3,d4)]
 erw[k'=k (p,r,O,pt,nm,U,S,bx),(gp:((p,r,O,pt,nm,U,S,bx):GA).p=p)=rfl];generalize ((p,r,O,pt,nm,U,S,bx):GA)=g at N0 k' gp;erw[<-gp,-k p6 q6 q5 q4 q3 q2 q1 y1 y2 y3 y4 y5 x6 c6 c5 c4 c3 c2 al an ao aq k1 k2 k3 k4 k5 k6 x1 x2 x3 x4 x5 p1 p2 p3 p4 p5 d1 d2 d3 d4 ac ad aj ai ah as D I l ab X aa C no np stp,(8,Z,by decide,by decide,?_),BX (n:=8) (λi σ H7=>∃u1:Option V,σ=[n8 (.ref g.p),u1,n9,n9]/\UW a H H7 g (Eh i) (Dn 0) (amK i)) (n9,Z,N0) ?_ ?_]
 .erw[?i σ H7 hi au,xea au λu1 af N=>?_,-au,<-af,(kp,at',l,I,D,fresh,n1,n2,n3)=N,(cl:(i:Int)=0+(i:Int))=(U6 _).symm,xq1 Z (g.p,g.dx,(xq1 Z (at'.hp,Sm g,(xq1 Z (S_1,λt ht=>?_))))),s1=AM (o:=.tup [.int (0+(i:Int))]) ht,(g,Eh i,t,[0+(i:Int)],0,Z,at'.same s1,Af,by erw[[-cl],Zf i],by erw[[FT],D8 hi A6],λH8 fr u=>?_)];rw[<-cl,<-VL]at u;erw[R=(As.fr s1).trans fr,xea at'.pt λts h3 h4=>?_,(kd:∀(b:R_)(kvs:List (Key×V)),H7 b=n8 (.dK kvs)->H8 b=n8 (.dK kvs))=λb kvs e=>R _ _ e (AC e at'.lv A4) (AC e h3 A4) (AC e at'.nm A4),ae=kd _ _ I,xq1 Z (_,_,Z,(xwf Z Z u.hp T.J4 T.a_ (VU g) (xq1 Z (g.am,(xq1 Z (Mt.k (k:=Sum.inl (0+(i:Int))) ae (by erw[[aCK],Dz (D8 hi A6)]),?_)))))),[-cl,MG _ (UQ i i (C1 _)),-UP],(d:∀{b:R_}{v:HO},H8 b=n8 v->b≠g.am->upd H8 g.am (.dK (amK (i+1))) b=n8 v)=λ{b v} e n=>by erw[[Aq n],e]]
  erw[(na:∀{b:R_}{v:HO},H8 b=n8 v->v≠.dK (amK i)->b≠g.am)=λ{b v} e n=>AC e ae n,xea u.pt λa0 ar ay=>xq1 Z (?_,(d u.hp (na u.hp A4),d u.lv (na u.lv A4),(a0,d ar (na ar A4),PairedM.imp (λc q z=>d z (na z A4)) ay),d u.nm (na u.nm A4),u.ne),?_,Af,?_,fresh,n1,n2,n3)]
  .erw[?b v e nb,e8=R _ _ (kp _ _ e nb) (Am e fresh.1) (Am e fresh.2.1) (Am e fresh.2.2.1),d e8 (Am e fresh.2.2.2.2.1)]
  .erw[e8=R _ _ l n1 n2 (AC l at'.nm A4),d e8 (na e8 A4)]
  .erw[d (kd _ _ D) (A3f n3)]
 .erw[?σ H7 av,xea av λu1 af N=>?_,-av,<-af,xq2 Z Z (1,49,Z,(by decide,by decide,by decide,by decide),?_),(N0:UW a H H7 g (Eh 8++GI 0) (Dn 0) (amK 8))=by rw[show Eh 8++GI 0=Eh 8 from T3 _];erw[N]]
  erw[-N,BX (lo:=1) (n:=48) (λj σ H8=>∃u2 u3:Option V,σ=[n8 (.ref g.p),u1,u2,u3]/\UW a H H8 g (Eh 8++GI j) (Dn j) (amK 8)) (n9,n9,Z,N0) ?_ ?_]
  .erw[?j σ H8 hj aw,BM aw λu2 u3 ag N=>?_,-aw,<-ag,(kp,at',l,I,D,fresh,n1,n2,n3)=N,xwf Z Z at'.hp T.J4 T.Q2 (Jp g) (xwi Z Z Z (SqL.of l) (aAq (by rw[List.getLast?_map,VY];rfl)) ?_),xwf Z Z at'.hp T.J4 T.Q2 (Jp g) (.inl (Z,_,SqL.of l),(xq1 Z (g.p,g.dx,(xq1 Z (at'.hp,Sm g,(xw3 Z Z Z (xq1 Z (S_4,λt ht=>(xq1 Z ?_))))))))),s1=AM (o:=.tup [.int (bareN j:Int),.int (bareN j:Int),.int (bareN j:Int),.int (bareN j:Int)]) ht,(ln:(Eh 8++GI j).length=8+j)=by rw[D3,FT,RJ]]
   erw[(g,Eh 8++GI j,t,[(bareN j:Int),(bareN j:Int),(bareN j:Int),(bareN j:Int)],1+(j:Int),Z,at'.same s1,Af,RI j,by rw[ln];lia,λH9 fr ak=>?_)];rw[show(1:Int)+(j:Int)=(j:Int)+1 by lia,O3,<-Qx]at ak;erw[R=(As.fr s1).trans fr,xea at'.pt λts h3 h4=>?_,(kd:∀(b:R_)(kvs:List (Key×V)),H8 b=n8 (.dK kvs)->H9 b=n8 (.dK kvs))=λb kvs e=>R _ _ e (AC e at'.lv A4) (AC e h3 A4) (AC e at'.nm A4),W=R _ _ l n1 n2 (AC l at'.nm A4),(g.br,(xq2 Z Z (W,by erw[[C0],¬Dn,[C0,P3],Dz A3],?_))),(eb:(Dn j).map V.int++[V.int ((Eh 8++GI j).length:Int)]=(Dn (j+1)).map V.int)=by rw[Qy,D4,ln];rfl]
   erw[[eb],(d:∀{b:R_}{v:HO},H9 b=n8 v->v≠.lst ((Dn j).map V.int)->upd H9 g.br (.lst ((Dn (j+1)).map V.int)) b=n8 v)=λ{b v} e n=>by erw[[Aq (AC e W n)],e]]
   erw[(_,_,Z,?_,ak.put W n1 n2,Af,d (kd _ _ I) A4,d (kd _ _ D) A4,fresh,n1,n2,n3),?b v e nb,[Aq (Am e fresh.2.2.2.1)],R _ _ (kp _ _ e nb) (Am e fresh.1) (Am e fresh.2.1) (Am e fresh.2.2.1)]
  .erw[?σ H8 ax,BM ax λu2 u3 ag N=>?_,-ax,<-ag,k' H8 Z N]
end
end J
namespace J
open PySem L2
theorem Al.uniq(h:Al G i l)(b:Al G i m):l=m:=by
 erw[xea h λq e z=>xea b λp a c=>?_];rw[e]at a;erw[!a,z.symm.trans c]
theorem aCf(ok:GOk G)(h:Al G i 0):i<8:=by
 erw[xea h λq e z=>K1 λn=>xe4 (ok.node i q e n) λ_ _ _ _ a=>xa3 a λ_ _ b _=>?_];lia
structure IH(G:Gv)(n i:Nat)(q:Sq)(x y z w:Nat):Prop where
g:G[i]?=n8 q
ps:q.parts=[(x:Int),(y:Int),(z:Int),(w:Int)]
lev:q.lev=(n:Int)+1
hx:Al G x n
hy:Al G y n
hz:Al G z n
hw:Al G w n
theorem BC(ok:GOk G)(h:Al G i ((n+1:Nat):Int)):∃q x y z w,IH G n i q x y z w:=by
 erw[xea h λq e f=>?_];have l:8<=i:=by
  erw[M4 λk=>?_];rw[ok.leaf i k]at e;cases e;have:(0:Int)=((n+1:Nat):Int):=f;lia
 erw[(x,y,z,w,j,(b,c,d,a),_,_)=ok.node i q e l,(g:q.lev-1=(n:Int))=by lia]
 rw[g]at b c d a;exact(q,x,y,z,w,e,j,by lia,b,c,d,a)
theorem IH.app{k n i:Nat}{q:Sq}{x y z w:Nat}(a:AG G b k)(h:IH G n i q x y z w):IH b n i q x y z w:=(a.get h.g,h.ps,h.lev,a.lev h.hx,a.lev h.hy,a.lev h.hz,a.lev h.hw)
noncomputable def Cg(G:Gv):Nat->Nat->Int
|0,i=>if i=0 then 0 else 1
|n+1,i=>match G[i]? with
 |some q=>(q.parts.map λp=>Cg G n p.toNat).sum
 |none=>0
theorem FU{q:Sq}{x y z w:Nat}(h:IH G n i q x y z w):Cg G (n+1) i=([x,y,z,w].map λk=>Cg G n k).sum:=by
 rw[show Cg G (n+1) i=(match G[i]? with|some q=>(q.parts.map λ(p:Int)=>Cg G n p.toNat).sum|none=>0)from rfl,h.g];show(q.parts.map λ(p:Int)=>Cg G n p.toNat).sum=_;rw[h.ps];rfl
theorem Lo{k:Nat}(ok:GOk G)(c:AG G a k):∀(n i:Nat),Al G i (n:Int)->Cg a n i=Cg G n i
|0,i,_=>rfl
|n+1,i,h=>by
 erw[xe5 (BC ok h) λq x y z w b=>?_,[FU b,FU (b.app c)],(_:Cg a n x+(Cg a n y+(Cg a n z+(Cg a n w+0)))=_),[Lo ok c n x b.hx,Lo ok c n y b.hy,Lo ok c n z b.hz,Lo ok c n w b.hw]];rfl
theorem Fj(G:Gv):∀(n i:Nat),0<=Cg G n i
|0,i=>by
 show 0<=if i=0 then(0:Int)else 1;split<;>lia
|n+1,i=>by
 unfold Cg;split
 .rename_i q _;have:∀l:List Int,0<=(l.map λp=>Cg G n p.toNat).sum:=by
   intro l;induction l with
   |nil=>erw[Int.le_refl 0]
   |cons p r a=>rw[J0,R0];have:=Fj G n p.toNat;lia
  erw[this _]
 .erw[Int.le_refl 0]
theorem NW:∀(n:Nat)(l:J_),l.Nodup->(∀x∈l,x<n)->l.length<=n
|0,l,_,h=>by
 cases l with
 |nil=>erw[C1 0]
 |cons x r=>erw[absurd (h x D5) (O1 _)]
|n+1,l,nd,h=>by
 erw[(c:n∈l)]
 .have:=NW n (l.erase n) (nd.erase n) λx a=>by
   erw[b=(nd.mem_erase_iff).mp a];have:=h x b.2;have:=b.1;lia
  rw[List.length_erase_of_mem c]at this;lia
 .have:=NW n l nd λx a=>by
   have:=h x a;have:x≠n:=λz=>c (z▸a);lia
  erw[V6 this]
structure Ix(G:Gv)(ks:List (Key×V)):Prop where
nd:(ks.map Prod.fst).Nodup
lt:∀k∈ks.map Prod.fst,∃i:Nat,i<G.length/\k=Sum.inl (i:Int)
theorem Ix.len(h:Ix G ks):ks.length<=G.length:=by
 let f:Key->Nat:=λk=>match k with|.inl i=>i.toNat|.inr _=>0
 have:=NW G.length ((ks.map Prod.fst).map f) (by
  rw[O2,Q5];refine List.Pairwise.imp_of_mem (λ{a b} e g d z=>d ?_) (O2.mp h.nd);refine xea (h.lt a e) λi _ c=>?_;subst c;refine xea (h.lt b g) λj _ c=>?_;subst c;have:(i:Int).toNat=(j:Int).toNat:=z;rw[M9,M9]at this;rw[this]) (λx m=>by
  refine xea (F0.mp m) λk l c=>?_;subst c;refine xea (h.lt k l) λi hi c=>?_;subst c;show(i:Int).toNat<_;rw[M9];exact hi)
 rw[C0,C0]at this;erw[this]
theorem Ix.app(le:G.length<=a.length)(h:Ix G ks):Ix a ks:=(h.nd,λk b=>by
 exact xea (h.lt k b) λi hi e=>(i,D8 hi le,e))
theorem Ix.put(h:Ix G ks)(hi:i<G.length)(v:V):Ix G (EL ks (Sum.inl (i:Int)) v):=by
 erw[¬EL,(a:(ks.any λb=>decide (b.1=Sum.inl (i:Int)))=o0)]
 .rw[A2h a];have e:(ks.map λb=>if b.1=Sum.inl (i:Int)then#[b.1,v]else b).map Prod.fst=ks.map Prod.fst:=by
   erw[[N5],List.map_congr_left λb _=>?_,(_:(if b.1=Sum.inl (i:Int)then#[b.1,v]else b).1=b.1)];split<;>rfl
  exact(by erw[[e],h.nd],by erw[[e],h.lt])
 .erw[[A2f a],(?_,λk c=>?_)]
  .erw[[D4,Q6],(h.nd,by simp,λk c j d z=>a ?_)];have:j=Sum.inl (i:Int):=by simpa using d
   erw[<-this,<-z,xea (F0.mp c) λb f g=>K8.mpr (b,f,A2g g)]
  .rw[D4]at c;rcases J9.mp c with z|z
   .erw[h.lt k z]
   .exact(i,hi,by simpa using z)
structure Tg(G:Gv)(ks:List (Key×V)):Prop where
keys:Ix G ks
leaf:∀s:Nat,s<8->∃v,BQ ks (Sum.inl (s:Int))=n8 v
val:∀(i:Nat) v,BQ ks (Sum.inl (i:Int))=n8 v->∃l:Nat,Al G i l/\v=.int (Cg G l i)
theorem Tg.app{k:Nat}(ok:GOk G)(a:AG G b k)(h:Tg G ks):Tg b ks:=(h.keys.app (by obtain⟨r,e⟩:=a.pre;rw[e,D3];exact F5 _ _),h.leaf,λi v e=>by
 exact xea (h.val i v e) λl c d=>(l,a.lev c,by rw[Lo ok a l i c];exact d))
theorem Tg.put{G:Gv}{ks:List (Key×V)}(h:Tg G ks){i l:Nat}(a:Al G i l):Tg G (EL ks (Sum.inl (i:Int)) (.int (Cg G l i))):=(h.keys.put a.lt _,λs b=>by
 rw[Iy];split
 .exact(_,Z)
 .exact h.leaf s b,λj v e=>by
 rw[Iy]at e;split at e
 .rename_i z;injection z with z
  have:j=i:=A4d z;erw[<-this,!e,(l,a,Z)]
 .exact h.val j v e)
theorem q9s{P:Nat->Prop}{s k:Nat}(h:s<k+1)(a:P k)(r:s<k->P s):P s:=(Nat.lt_succ_iff_lt_or_eq.mp h).elim r λe=>e▸a
theorem q9t{P:Nat->Prop}{t:Nat}(h:t<2)(a:P 0)(b:P 1):P t:=q9s (P:=P) h b λh=>q9s (P:=P) h a λh=>absurd h (Nat.not_lt_zero _)
theorem q9f{P:Nat->Prop}{t:Nat}(h:t<4)(a:P 0)(b:P 1)(c:P 2)(d:P 3):P t:=q9s (P:=P) h d λh=>q9s (P:=P) h c λh=>q9t (P:=P) h a b
theorem am0:Tg G0 (amK 8) where
 keys:=(by decide +kernel,λk c=>by
  refine xea (F0.mp c) λp d a=>?_;subst a;refine xea (F0.mp d) λs b a=>?_;subst a;have:=N9.mp b;exact(s,by rw[SQ];exact D8 this A6,Z))
 leaf:=λs b=>Option.isSome_iff_exists.mp ((by decide +kernel:∀s<8,(BQ (amK 8) (Sum.inl ((s:Nat):Int))).isSome=o0) s b)
 val:=λi v e=>by
  have hi:i<8:=by
   erw[K1 λz=>?_];rw[UQ 8 i z]at e;cases e
  erw[(0,(_,SR i hi,Z),?_)]
  match i,hi with
  |0,_=>cases e;rfl
  |1,_=>cases e;rfl
  |2,_=>cases e;rfl
  |3,_=>cases e;rfl
  |4,_=>cases e;rfl
  |5,_=>cases e;rfl
  |6,_=>cases e;rfl
  |7,_=>cases e;rfl
structure Bx where
l:Int
t:Int
w:Int
h:Int
noncomputable def Bx.ns(b:Bx):List Int:=[b.l,b.t,b.w,b.h]
noncomputable def shB(half:Int)(k:Nat)(b:Bx):Bx:=(b.l+half*((k:Int)%2),b.t+half*((k:Int)/2),b.w,b.h)
noncomputable def Ej(half:Int):Nat->List (Option Bx)->List Bx
|_,[]=>[]
|k,n9::r=>Ej half (k+1) r
|k,n8 b::r=>shB half k b::Ej half (k+1) r
noncomputable def mnL(l:I_):Int:=l.min?.getD 0
noncomputable def mxL(l:I_):Int:=l.max?.getD 0
noncomputable def Qk(bs:List Bx):Bx:=(mnL (bs.map (·.l)),mnL (bs.map (·.t)),mxL (bs.map λb=>b.l+b.w)-mnL (bs.map (·.l)),mxL (bs.map λb=>b.t+b.h)-mnL (bs.map (·.t)))
noncomputable def QJ(half:Int)(obs:List (Option Bx)):Option Bx:=match Ej half 0 obs with
|[]=>n9
|b::r=>n8 (Qk (b::r))
noncomputable def Ck(G:Gv):Nat->Nat->Option Bx
|0,i=>if i=0 then n9 else n8 (0,0,1,1)
|n+1,i=>match G[i]? with
 |some q=>QJ (2^n) (q.parts.map λ(p:Int)=>Ck G n p.toNat)
 |none=>n9
theorem aBf(h:m∈l)(a:∀x∈l,m<=x):m=mnL l:=by
 erw[¬mnL,[List.min?_eq_some_iff.mpr (h,a)]];rfl
theorem aBh(h:m∈l)(a:∀x∈l,x<=m):m=mxL l:=by
 erw[¬mxL,[List.max?_eq_some_iff.mpr (h,a)]];rfl
theorem FW{q:Sq}{x y z w:Nat}(h:IH G n i q x y z w):Ck G (n+1) i=QJ (2^n) [Ck G n x,Ck G n y,Ck G n z,Ck G n w]:=by
 rw[show Ck G (n+1) i=(match G[i]? with|some q=>QJ (2^n) (q.parts.map λ(p:Int)=>Ck G n p.toNat)|none=>n9)from rfl,h.g];show QJ (2^n) (q.parts.map λ(p:Int)=>Ck G n p.toNat)=_;rw[h.ps];rfl
theorem IF{G c:Gv}{k:Nat}(ok:GOk G)(b:AG G c k):∀(n i:Nat),Al G i (n:Int)->Ck c n i=Ck G n i
|0,i,_=>rfl
|n+1,i,h=>by
 erw[xe5 (BC ok h) λq x y z w a=>?_,[FW a,FW (a.app b),IF ok b n x a.hx,IF ok b n y a.hy,IF ok b n z a.hz,IF ok b n w a.hw]]
theorem Rh:∀{a:List (Option Bx)},QJ half a=n9 ↔ ∀o∈a,o=n9:=by
 intro a;have g:∀(a:List (Option Bx))(k:Nat),Ej half k a=[] ↔ ∀o∈a,o=n9:=by
  intro a;induction a with
  |nil=>erw[?k,(λ_ o c=>by simp at c,λ_=>Z)]
  |cons o r d =>
   intro k;cases o with
   |none =>
    rw[show Ej half k (n9::r)=Ej half (k+1) r from rfl,d (k+1)];exact(λh o c=>by rcases C4.mp c with z|z;erw[z,h o z],λh o c=>h o (D6 _ c))
   |some b=>exact(λh=>(by cases h),λh=>(by cases h (n8 b) D5))
 erw[[-g a 0],¬QJ];constructor
 .intro h;split at h
  .assumption
  .cases h
 .erw[?h,[h]]
theorem Nd(ok:GOk G):∀(n i:Nat),Al G i (n:Int)->(Ck G n i=n9↔Cg G n i=0)
|0,i,_=>by
 show(if i=0 then n9 else n8 ((0,0,1,1):Bx))=n9↔(if i=0 then(0:Int)else 1)=0;split
 .exact(λ_=>Z,λ_=>Z)
 .exact(λh=>(by cases h),λh=>A3)
|n+1,i,h=>by
 erw[xe5 (BC ok h) λq x y z w a=>?_,[FW a,FU a,Rh],(_:_↔Cg G n x+(Cg G n y+(Cg G n z+(Cg G n w+0)))=0),c=Nd ok n x a.hx,d=Nd ok n y a.hy,e=Nd ok n z a.hz,b=Nd ok n w a.hw,nx=Fj G n x,g=Fj G n y,j=Fj G n z,nw=Fj G n w];constructor
 .erw[?h,[c.mp (h _ B0),d.mp (h _ B0),e.mp (h _ B0),b.mp (h _ B0)]];rfl
 .intro h o f;simp only[C4,F7,A5a]at f;rcases f with rfl|rfl|rfl|rfl
  .erw[c.mpr A3]
  .erw[d.mpr A3]
  .erw[e.mpr A3]
  .erw[b.mpr A3]
theorem aBE(e:G=G0++r)(j:Nat)(h:j<48):G[8+j]?=n8 ([(bareN j:Int),(bareN j:Int),(bareN j:Int),(bareN j:Int)],(j:Int)+1):=by
 erw[[e],LE (MX j h)]
theorem Lp(ok:GOk G)(e:G=G0++r):∀(n i:Nat),n<=48->Al G i (n:Int)->(Ck G n i=n9↔i=bareN n)
|0,i,_,_=>by
 show(if i=0 then n9 else n8 ((0,0,1,1):Bx))=n9↔i=0;split
 .rename_i z;exact(λ_=>z,λ_=>Z)
 .rename_i z;exact(λh=>(by cases h),λh=>absurd h z)
|n+1,i,hn,h=>by
 erw[xe5 (BC ok h) λq x y z w a=>?_,[FW a,Rh],c=Lp ok e n x A3 a.hx,d=Lp ok e n y A3 a.hy,f=Lp ok e n z A3 a.hz,b=Lp ok e n w A3 a.hw,j=aBE e n (T9 hn)];constructor
 .erw[?h,m=c.mp (h _ B0),s=d.mp (h _ B0),t=f.mp (h _ B0),l=b.mp (h _ B0),(_:i=8+n),ok.one a.g j ?_,[a.ps,m,s,t,l]]
 .erw[?h,(h:i=8+n)=h,g=a.g];rw[h,j]at g;erw[!g,p=a.ps,p=p];injection p with p1 p
  injection p with p2 p
  injection p with p3 p
  injection p with p4 p
  intro o k;simp only[C4,F7,A5a]at k;rcases k with rfl|rfl|rfl|rfl
  .erw[c.mpr (A4d p1).symm]
  .erw[d.mpr (A4d p2).symm]
  .erw[f.mpr (A4d p3).symm]
  .erw[b.mpr (A4d p4).symm]
structure aFy(G:Gv)(H:Hp)(ks:List (Key×V)):Prop where
keys:Ix G ks
val:∀(i:Nat) v,BQ ks (Sum.inl (i:Int))=n8 v->∃(l:Nat)(b:Bx)(t:R_),Al G i l/\Ck G l i=n8 b/\v=.ref t/\H t=n8 (.tup (b.ns.map V.int))
structure AR(a:Ad)(H:Hp)(g:GA)(G:Gv):Prop where
at':AL a H g G
ok:GOk G
g0:∃r,G=G0++r
br:H g.br=n8 (.lst ((Dn 48).map V.int))
am:∃ks,H g.am=n8 (.dK ks)/\Tg G ks
bx:∃ks,H g.bx=n8 (.dK ks)/\aFy G H ks
n1:g.br≠g.lv
n2:g.br≠g.pt
n3:g.am≠g.bx
theorem AR.new(h:UW a H b g G0 (Dn 48) (amK 8)):AR a b g G0:=(h.at',aGl,([],by simp),h.br,(_,h.am,am0),(_,h.bx,(by simp,λk c=>by simp at c),λi v e=>by cases e),h.n1,h.n2,h.n3)
theorem AR.ne_am(h:AR a H g G)(e:H b=n8 o)(n:∀ks,o≠.dK ks):b≠g.am/\b≠g.bx:=by
 erw[xea h.am λks c _=>xea h.bx λf d _=>(AC e c (n _),AC e d (n _))]
theorem AR.same(s:As H d)(h:AR a H g G):AR a d g G:=by
 erw[(at',ok,p,j,(ks,q,r),(c,u,f),w,x,y)=h,(at'.same s,ok,p,s _ _ j,(ks,s _ _ q,r),(c,s _ _ u,f.keys,λi v e=>?_),w,x,y),Fk (f.val i v e) λl b t k m n o=>(l,b,t,k,m,n,s _ _ o)]
theorem AG.le{k:Nat}(b:AG G a k):G.length<=a.length:=by
 erw[(r,e)=b.pre,[e,D3],F5 _ _]
theorem AR.fr{G j:Gv}(h:AR a H g G)(f:Fr g H d)(k:AL a d g j)(c:AG G j m):AR a d g j:=by
 erw[(at',ok,(r,D),p,(ks,E,F),(n,I,s),u,w,L)=h,xea at'.pt λus K _=>?_,(keep:∀{b:R_}{o:HO},H b=n8 o->(∀l,o≠.lst l)->(∀l,o≠.dT l)->d b=n8 o)=λ{b o} e x M=>f _ _ e (AC e at'.lv (x _)) (AC e K (x _)) (AC e at'.nm (M _)),(t,C)=c.pre,(k,c.ok,(r++t,by rw[C,D,O3]),f _ _ p u w (AC p at'.nm A4),(ks,keep E (by erw[?l z,!z]) (by erw[?l z,!z]),F.app ok c),(n,keep I (by erw[?l z,!z]) (by erw[?l z,!z]),s.keys.app c.le,λi v e=>?_),u,w,L),Fk (s.val i v e) λl b t q y A B=>(l,b,t,c.lev q,by erw[[IF ok c l i q],y],A,keep B (by erw[?l z,!z]) (by erw[?l z,!z]))]
theorem AR.put(h:AR a H g G)(k:H l=n8 (.lst xs))(y:l≠g.lv)(z:l≠g.pt)(A:l≠g.br):AR a (upd H l o) g G:=by
 erw[(at',ok,s,f,(ks,u,w),(d,x,j),B,C,D)=h,(c:∀{b v},H b=n8 v->v≠.lst xs->upd H l o b=n8 v)=λ{b v} e n=>by erw[[Aq (AC e k n)],e]]
 erw[(at'.put k y z,ok,s,by erw[[Aq (A3f A)],f],(ks,c u A4,w),(d,c x A4,j.keys,λi v e=>?_),B,C,D),Fk (j.val i v e) λl b t m p q r=>(l,b,t,m,p,q,c r A4)]
def FrQ(g:GA)(H H':Hp):Prop:=∀b o,H b=n8 o->b≠g.am->b≠g.bx->H' b=n8 o
theorem FrQ.refl(g:GA)(H:Hp):FrQ g H H:=λ_ _ e _ _=>e
theorem FrQ.trans{a c d:Hp}(h:FrQ g a c)(j:FrQ g c d):FrQ g a d:=λb o e f i=>j b o (h b o e f i) f i
theorem As.frq{a c:Hp}(h:As a c):FrQ g a c:=λb o e _ _=>h b o e
theorem AL.dict(p:H d=n8 (.dK ks))(h:AL a H g G):AL a (upd H d o) g G:=by
 erw[(f,i,(ts,j,k),l,m)=h,(c:∀{b v},H b=n8 v->v≠.dK ks->upd H d o b=n8 v)=λ{b v} e n=>by erw[[Aq (AC e p n)],e]]
 exact(c f A4,c i A4,(ts,c j A4,PairedM.imp (λt q z=>c z A4) k),c l A4,m)
theorem AR.am_put(h:AR a H g G)(e:H g.am=n8 (.dK ks))(w:Tg G ks2):AR a (upd H g.am (.dK ks2)) g G/\FrQ g H (upd H g.am (.dK ks2)):=by
 erw[(at',ok,u,m,(_,_,_),(f,x,j),z,A,k)=h,(c:∀{b v},H b=n8 v->v≠.dK ks->upd H g.am (.dK ks2) b=n8 v)=λ{b v} d n=>by erw[[Aq (AC d e n)],d]]
 erw[((at'.dict e,ok,u,c m A4,(_,Af,w),(f,by erw[[Aq (A3f k)],x],j.keys,λi v e=>?_),z,A,k),λb o d y _=>by erw[[Aq y],d]),Fk (j.val i v e) λl b t p q r s=>(l,b,t,p,q,r,c s A4)]
theorem AR.bx_put(h:AR a H g G)(e:H g.bx=n8 (.dK ks))(j:aFy G H ks2):AR a (upd H g.bx (.dK ks2)) g G/\FrQ g H (upd H g.bx (.dK ks2)):=by
 erw[(at',ok,u,m,(f,w,x),(_,_,_),z,A,k)=h,(c:∀{b v},H b=n8 v->v≠.dK ks->upd H g.bx (.dK ks2) b=n8 v)=λ{b v} d n=>by erw[[Aq (AC d e n)],d]]
 erw[((at'.dict e,ok,u,c m A4,(f,by erw[[Aq k],w],x),(_,Af,j.keys,λi v e=>?_),z,A,k),λb o d _ y=>by erw[[Aq y],d]),Fk (j.val i v e) λl b t p q r s=>(l,b,t,p,q,r,c s A4)]
theorem PN(g:GA):(fl6 g).lookup ("counted" : Str)=n9:=GH g A0 A0 A0 A0 A0 A0
theorem YR(g:GA):(fl6 g).lookup ("living" : Str)=n9:=GH g A0 A0 A0 A0 A0 A0
theorem Uf(g:GA):(fl6 g).lookup ("boxed" : Str)=n9:=GH g A0 A0 A0 A0 A0 A0
theorem Ue(g:GA):(fl6 g).lookup ("measured" : Str)=n9:=GH g A0 A0 A0 A0 A0 A0
theorem aCo(g:GA):(fl6 g).lookup ("span" : Str)=n9:=GH g A0 A0 A0 A0 A0 A0
seal L2.PA L2.PE L2.PS L2.PSs L2.PT L2.PW
theorem IH.mem{G:Gv}{n i:Nat}{q:Sq}{x y z w:Nat}(h:IH G n i q x y z w){j:Nat}{v:V}(e:(q.parts.map V.int)[j]?=n8 v):∃k:Nat,v=.int k/\Al G k n/\q.parts[j]?=n8 (k:Int):=by
 rw[C3]at e;erw[xea (D7.mp e) λp a b=>?_,<-b,c=D0 a];rw[h.ps]at c;simp only[C4,F7,A5a]at c;rcases c with rfl|rfl|rfl|rfl
 .exact(x,Z,h.hx,a)
 .exact(y,Z,h.hy,a)
 .exact(z,Z,h.hz,a)
 .exact(w,Z,h.hw,a)
section
variable{P:N_}{w:Q_}{K:O_}{mg:C_}{n6:T_}{a:Ad}
inductive aDV(a:Ad)(n:Nat)(vs:List V)(H:Hp)(Q:VK):Prop
|mk (g:GA) (G:Gv) (i l:Nat) (_:vs=[.ref g.p,.int i]) (_:AR a H g G) (_:Al G i l) (_:l<n) (_:G.length<9000000) (_:∀H',FrQ g H H'->AR a H' g G->Q (.int (Cg G l i)) H'):aDV a n vs H Q
def Wt(a:Ad)(n:Nat):Sp:=λvs H Q _=>aDV a n vs H Q
theorem aBs(F:Fun K "counted" "Grove.counted" DU f fd)(T:Top K mg a)(Me:QB K a.L0 "counted" f)(Bi:CO K fd Lj []):∀n,AJ P w K mg n6 CX0 (n+1) f fd Lj (Wt a n)
|0=>by
 erw[F.ok DA (λvs H Q E h=>?_) (λaa A I s H vs Q E Y h=>?_)]
 .erw[(g,G,i,l,rfl,_,_,h0,_)=h,absurd h0 (O1 _)]
 .erw[(g,G,i,l,rfl,_,_,h0,_)=h,absurd h0 (O1 _)]
|n+1=>by
 have aV:BY P w K mg n6 CX0 (n+1) a.L0 "counted" Lj (Wt a n):=((f,fd,aBs F T Me Bi n,Me,Bi),T.J4)
 erw[F.ok DA (λvs H Q E h=>?_) (λaa A I s H vs Q E Y h=>?_)]
 .erw[(g,G,i,l,rfl,_)=h];rfl
 .erw[(g,G,i,l,rfl,r,X,ln,few,k)=h,xea r.am λks O M=>(_,(Ac (Ax 2 DA.nd (JS (Ei Y) (AA pv0 Z) pv1 (Z,Z,Z,Z))) (Ac (AS (Ay Jl pv2 Dw (AF _)) (Ac (Ax 2 DA.nd (AH (aA0 Z) Z T.aGV PyProof.Rows.boot_sum (Aa (Cc Z (Bd.of (So:=Ah DU) (No:=JA) (N:=["quarter","self"]) (k:=1) (cs:=[0]) Z Z A0) (Py (Aj Ar (AA pv0 Z) pv1 R_9)) (λ_ _ _=>(AW (i:=0) A0 Z Z)) (λ_ _ _=>Be) (λ_ _ _=>(AD pv1 aV (rm Y) AQ (Aa pv0 Ab)))) Ab))) (Ag (FN (Ei Y) (AA pv0 Z) pv1 pv2 Z))) Az) (Ag (Av pv2)))),?_)]
  erw[xwf Z Z r.at'.hp T.J4 T.a_ (VU g) (g.am,Z,.inl (_,.inl O),(xq1 Z (_,GL.k (k:=Sum.inl (i:Int)) O,?_)))];cases e:BQ ks (Sum.inl (i:Int))with
  |some v =>
   erw[xea (M.val i v e) λl' af c=>?_,<-c,el=A4d (af.uniq X),<-el,xq1 Z (Z,(xq1 Z (Bj (xq1 Z (k H (FrQ.refl g H) r)))))]
  |none =>
   erw[xq1 Z (Z,(xq1 Z (Cy ?_)))];cases l with
   |zero =>
    erw[(v,W)=M.leaf i (aCf r.ok X)];rw[e]at W;cases W
   |succ m =>
    erw[xe5 (BC r.ok X) λq x y z w D=>xea r.at'.pt λts h3 h4=>xea (PairedM.get h4 D.g) λt et R=>?_,R=R,nt=r.ne_am R (by erw[?l z,!z]),xwf Z Z r.at'.hp T.J4 T.L3 (CC g) (xwi Z Z Z (SqL.of h3) (Ai (by rw[C3,et];rfl)) (t,Z,(_,SqT.of R),?_)),OX (xs:=q.parts.map V.int) (λj d L=>FrQ g H L/\AR a L g G/\d=((q.parts.take j).map λ(p:Int)=>Cg G m p.toNat).map V.int) (FrQ.refl g H,r,Z) (λj d L _ z=>SqT.of (z.1 _ _ R nt.1 nt.2)) ?_ ?_]
    .erw[?j v d L W S,xa2 S λfr u c=>?_,-S,<-c,AI (D.mem W) λk' ab hk ek=>?_,<-ab,(([n8 (.int k')],Z,Z),by erw[[C0,C0,J8,D.ps],Dz (by show min j 4<10000000;lia)],EF (xq1 Z (g.p,g.dx,(xq1 Z (u.at'.hp,PN g,(xq1 Z (g,G,k',m,Z,u,hk,by lia,few,λH3 ac b=>(fr.trans ac,b,?_)))))))),[F9,ek,D4,D4]];rfl
    .erw[?d L U qd hq,xa2 U λfr u c=>?_,-U,<-c];rw[C0,J7]at *
     erw[s3=AM (o:=.lst ((q.parts.map λ(p:Int)=>Cg G m p.toNat).map V.int)) hq,b=u.same s3,(qd,q.parts.map λ(p:Int)=>Cg G m p.toNat,Z,SqL.of Af,?_)];generalize upd L qd (.lst ((q.parts.map λ(p:Int)=>Cg G m p.toNat).map V.int))=H3 at s3 b⊢;erw[xea b.am λag C B=>?_,lk=B.keys.len];have es:(q.parts.map λ(p:Int)=>Cg G m p.toNat).sum=Cg G (m+1) i:=by
      rw[FU D,D.ps];rfl
     erw[[es],(ae,ad)=b.am_put C (B.put (l:=m+1) X),xw2 Z Z (xq5 b.at'.hp T.J4 T.a_ (VU g) (xq1 Z (g.am,(xq1 Z (Mt.k (k:=Sum.inl (i:Int)) C (Dz A3),(xq1 Z (k _ ((fr.trans (As.frq s3)).trans ad) ae)))))))]
inductive aDa(a:Ad)(vs:List V)(H:Hp)(Q:VK):Prop
|mk (g:GA) (G:Gv) (i l:Nat) (_:vs=[.ref g.p,.int i]) (_:AR a H g G) (_:Al G i l) (_:G.length<9000000) (_:∀H',FrQ g H H'->AR a H' g G->Q (.int (Cg G l i)) H'):aDa a vs H Q
def aEG(a:Ad):Sp:=λvs H Q _=>aDa a vs H Q
theorem aFA(F:Fun K "living" "Grove.living" Gi f fd)(T:Top K mg a)(n:BY P w K mg n6 CX0 2 a.L0 "check_square" Lj (Tw a))(o:BY P w K mg n6 CX0 50 a.L0 "counted" Lj (Wt a 49)):AJ P w K mg n6 CX0 51 f fd Lj (aEG a):=by
 erw[F.ok Oz D_9 λr A j s H vs Q E m h=>?_]
 erw[(g,G,i,l,rfl,b,c,few,k)=h,(_,(Ac (Bq (AD pv0 n (rm m) AQ (Aa pv1 Ab))) (Ag (Av (AD pv0 o (rm m) AQ (Aa pv1 Ab))))),?_)];have d:l<49:=by
  erw[xea (id c) λq e t=>?_];have:=(b.ok.lev e).2;lia
 erw[xq1 Z (g.p,g.dx,(xq1 Z (b.at'.hp,PP g,(xq1 Z (g,G,i,Z,b.at',c.lt,?_))))),xq1 Z (g.p,g.dx,(xq1 Z (b.at'.hp,PN g,(xq1 Z (g,G,i,l,Z,b,c,d,few,k)))))]
end
theorem Qm(half:Int):∀(l r:List (Option Bx))(k:Nat),Ej half k (l++r)=Ej half k l++Ej half (k+l.length) r
|[],r,k=>rfl
|none::l,r,k=>by
 show Ej half (k+1) (l++r)=Ej half (k+1) l++Ej half (k+(l.length+1)) r;rw[Qm half l r (k+1),show k+1+l.length=k+(l.length+1) by lia]
|some b::l,r,k=>by
 show shB half k b::Ej half (k+1) (l++r)=shB half k b::(Ej half (k+1) l++Ej half (k+(l.length+1)) r);rw[Qm half l r (k+1),show k+1+l.length=k+(l.length+1) by lia]
theorem MV(half:Int):∀(l:List (Option Bx))(k:Nat),(Ej half k l).length<=l.length
|[],k=>C1 _
|none::l,k=>C9 (MV half l (k+1)) (S4 _)
|some b::l,k=>R3 (MV half l (k+1))
theorem PairedM.getL{α β:Type}{F:α->β->Prop}:∀{l:List α}{m:List β}{i:Nat}{x:α},Paired F l m->l[i]?=n8 x->∃y,m[i]?=n8 y/\F x y
|_,_,_,_,.nil,e=>by simp at e
|_,_,0,_,.cons r _,e=>by simp at e;subst e;exact(_,Z,r)
|_,_,i+1,x,.cons _ t,e=>by
 erw[xea (PairedM.getL (i:=i) (x:=x) t (by simpa using e)) λy a b=>(y,by simpa using a,b)]
def QW(H:Hp)(t:R_)(b:Bx):Prop:=H t=n8 (.tup (b.ns.map V.int))
theorem OY{β:Type}{K:O_}{k:Nat}{cs:J_}{g:TG}{tc:TT}{n:TE}{σ:St}{H:Hp}{fin:List V->Hp->Prop}{D:Addr->β->Prop}{L:R_}{ts:H_}{bs:List β}(c:β->Int)(hL:H L=n8 (.lst (ts.map V.ref)))(m:Paired D ts bs)(few:ts.length<1000)
  (r:∀t b a N,D t b->a.length<sizeLine->N (a++[.int (c b)]) H->Bt k cs g tc n σ (.ref t) a H N) (q:fin ((bs.map c).map V.int) H):Ft k cs g tc n (Itl K L) σ H fin:=by
 erw[s=A3e m,Ca (xs:=ts.map V.ref) (λj a e=>H=e/\a=((bs.take j).map c).map V.int) (Z,Z) (λj a e _ z=>z.1▸SqL.of hL) ?_ ?_]
 .erw[?j v a e l h,(rfl,rfl)=h];rw[C3]at l;erw[xea (D7.mp l) λt p f=>?_,<-f,xea (PairedM.getL m p) λb o d=>r t b _ _ d (by erw[[C0,C0,J8],Dz A3]) (Z,?_),[F9,o,D4,D4]];rfl
 .erw[?a e i,(rfl,rfl)=i,[C0,s,J7],q]
section
variable{P:N_}{w:Q_}{K:O_}{mg:C_}{n6:T_}{a:Ad}
inductive Yi(vs:List V)(H:Hp)(Q:VK):Prop
|mk (t:R_) (b:Bx) (dx dy:Int) (_:vs=[.ref t,.int dx,.int dy]) (_:QW H t b) (_:∀t',H t'=n9->Q (.ref t') (upd H t' (.tup [.int (b.l+dx),.int (b.t+dy),.int b.w,.int b.h]))):Yi vs H Q
def Mu:Sp:=λvs H Q _=>Yi vs H Q
theorem aB2(F:Fun K "shifted_box" "shifted_box" Ic f fd)(T:Top K mg a):AJ P w K mg n6 CX0 1 f fd QK Mu:=by
 erw[F.ok Pj D_9 λe A d s H vs Q E l h=>?_]
 erw[(t,b,g,i,rfl,c,k)=h,c=c,(_,(Ag (Av (Dv (AY AO (Aj Ao pv0 Ae R_9) pv1 (AY AO (Aj Ao pv0 Ae R_9) pv2 (Aa (Aj Ao pv0 Ae R_9) (Aa (Aj Ao pv0 Ae R_9) Ab))))))),?_),xwi Z Z Z (SqT.of c) (Ai (j:=0) Z) (xwb Z Z Z (xwi Z Z Z (SqT.of c) (Ai (j:=1) Z) (xwb Z Z Z (xwi Z Z Z (SqT.of c) (Ai (j:=2) Z) (xwi Z Z Z (SqT.of c) (Ai (j:=3) Z) (S_4,λt' n=>k t' n))))))]
inductive Ym(vs:List V)(H:Hp)(Q:VK):Prop
|mk (L:R_) (ts:H_) (bs:List Bx) (_:vs=[.ref L]) (_:H L=n8 (.lst (ts.map V.ref))) (_:Paired (QW H) ts bs) (_:bs≠[]) (_:ts.length<1000) (_:∀t' H',As H H'->QW H' t' (Qk bs)->Q (.ref t') H'):Ym vs H Q
def OK:Sp:=λvs H Q _=>Ym vs H Q
theorem aBx(F:Fun K "least_box" "least_box" Dr f fd)(T:Top K mg a):AJ P w K mg n6 CX0 1 f fd GU OK:=by
 erw[F.ok Em D_9 λaa A R s H vs Q E hr h=>?_]
 erw[(L,ts,bs,rfl,hL,r,ne,few,k)=h,(c:∀m:Bx->Int,bs.map m≠[])=λm z=>ne (Q8.mp z),(_,(Ac (Ax 1 Em.nd (AH (LH Z) Z T.aAN A6g (Aa (Cc Z (Bd.of (So:=Ah Dr) (No:=Fp) (N:=["box"]) (k:=1) (cs:=[]) Z Z A0) (BH pv0) (λ_ _ _=>(AW (i:=0) A0 Z Z)) (λ_ _ _=>Be) (λ_ _ _=>(Aj (GX (K:=K) Z) pv0 Ae R_9))) Ab))) (Ac (Ax 2 Em.nd (AH (LH Z) Z T.aAN A6g (Aa (Cc Z (Bd.of (So:=Ah Dr) (No:=Fp) (N:=["box"]) (k:=1) (cs:=[]) Z Z A0) (BH pv0) (λ_ _ _=>(AW (i:=0) A0 Z Z)) (λ_ _ _=>Be) (λ_ _ _=>(Aj (GX (K:=K) Z) pv0 Ae R_9))) Ab))) (Ac (Ax 3 Em.nd (AH (LI Z) Z T.aAM A6h (Aa (Cc Z (Bd.of (So:=Ah Dr) (No:=Fp) (N:=["box"]) (k:=1) (cs:=[]) Z Z A0) (BH pv0) (λ_ _ _=>(AW (i:=0) A0 Z Z)) (λ_ _ _=>Be) (λ_ _ _=>(AE AO (Aj (GX (K:=K) Z) pv0 Ae R_9) (Aj (GX (K:=K) Z) pv0 Ae R_9)))) Ab))) (Ac (Ax 4 Em.nd (AH (LI Z) Z T.aAM A6h (Aa (Cc Z (Bd.of (So:=Ah Dr) (No:=Fp) (N:=["box"]) (k:=1) (cs:=[]) Z Z A0) (BH pv0) (λ_ _ _=>(AW (i:=0) A0 Z Z)) (λ_ _ _=>Be) (λ_ _ _=>(AE AO (Aj (GX (K:=K) Z) pv0 Ae R_9) (Aj (GX (K:=K) Z) pv0 Ae R_9)))) Ab))) (Ag (Av (Dv (Aa pv1 (Aa pv2 (AY Cs pv3 pv1 (AY Cs pv4 pv2 Ab))))))))))),?_),xq1 Z (L,Z,(_,SqL.of hL),OY (·.l) hL r few (λt b e N d g nx=>(([n8 (.ref t)],Z,Z),g,EF (xwi Z Z Z (SqT.of d) (Ai (j:=0) Z) nx))) λX h1=>?_),(X,(xq1 Z (SqL.of Af,c _,λm1 y G=>?_)))];obtain rfl:=aBf y G;erw[u=AM (o:=.lst ((bs.map (·.l)).map V.int)) h1];generalize upd H X (.lst ((bs.map (·.l)).map V.int))=H1 at u⊢;erw[n=u _ _ hL,S=PairedM.imp (λt b z=>u _ _ z) r,xq1 Z (L,Z,(_,SqL.of n),OY (·.t) n S few (λt b e N d g nx=>(([n8 (.ref t)],Z,Z),g,EF (xwi Z Z Z (SqT.of d) (Ai (j:=1) Z) nx))) λY h2=>?_),(Y,(xq1 Z (SqL.of Af,c _,λm2 B I=>?_)))];obtain rfl:=aBf B I;erw[v=u.trans (AM (o:=.lst ((bs.map (·.t)).map V.int)) h2)];generalize upd H1 Y (.lst ((bs.map (·.t)).map V.int))=H2 at v⊢;erw[p=v _ _ hL,U=PairedM.imp (λt b z=>v _ _ z) r,xq1 Z (L,Z,(_,SqL.of p),OY (λb=>b.l+b.w) p U few (λt b e N d g nx=>(([n8 (.ref t)],Z,Z),g,EF (xwi Z Z Z (SqT.of d) (Ai (j:=0) Z) (xwi Z Z Z (SqT.of d) (Ai (j:=2) Z) (xq2 Z Z nx))))) λq3 h3=>?_),(q3,(xq1 Z (SqL.of Af,c _,λm3 C M=>?_)))];obtain rfl:=aBh C M;erw[x=v.trans (AM (o:=.lst ((bs.map λb=>b.l+b.w).map V.int)) h3)];generalize upd H2 q3 (.lst ((bs.map λb=>b.l+b.w).map V.int))=H3 at x⊢;erw[q=x _ _ hL,W=PairedM.imp (λt b z=>x _ _ z) r,xq1 Z (L,Z,(_,SqL.of q),OY (λb=>b.t+b.h) q W few (λt b e N d g nx=>(([n8 (.ref t)],Z,Z),g,EF (xwi Z Z Z (SqT.of d) (Ai (j:=1) Z) (xwi Z Z Z (SqT.of d) (Ai (j:=3) Z) (xq2 Z Z nx))))) λq4 h4=>?_),(q4,(xq1 Z (SqL.of Af,c _,λm4 D O=>?_)))];obtain rfl:=aBh D O;erw[s4=x.trans (AM (o:=.lst ((bs.map λb=>b.t+b.h).map V.int)) h4)];generalize upd H3 q4 (.lst ((bs.map λb=>b.t+b.h).map V.int))=H4 at s4⊢;erw[xw3 Z Z Z (xwb Z Z Z (xw2 Z Z (xq2 Z Z (S_4,λt5 h5=>k t5 _ (s4.trans (AM h5)) Af))))]
inductive aDR(a:Ad)(n:Nat)(vs:List V)(H:Hp)(Q:VK):Prop
|mk (g:GA) (G:Gv) (i l:Nat) (_:vs=[.ref g.p,.int i]) (_:AR a H g G) (_:Al G i l) (_:l<n) (_:G.length<9000000) (_:(Ck G l i=n9->∀H',FrQ g H H'->AR a H' g G->Q .non H')) (_:∀b,Ck G l i=n8 b->∀t H',FrQ g H H'->AR a H' g G->QW H' t b->Q (.ref t) H'):aDR a n vs H Q
def Ty(a:Ad)(n:Nat):Sp:=λvs H Q _=>aDR a n vs H Q
inductive aDd(a:Ad)(n:Nat)(vs:List V)(H:Hp)(Q:VK):Prop
|mk (g:GA) (G:Gv) (i l:Nat) (b:Bx) (_:vs=[.ref g.p,.int i]) (_:AR a H g G) (_:Al G i l) (_:l<n) (_:G.length<9000000) (_:Ck G l i=n8 b) (_:∀t H',FrQ g H H'->AR a H' g G->QW H' t b->Q (.ref t) H'):aDd a n vs H Q
def aEI(a:Ad)(n:Nat):Sp:=λvs H Q _=>aDd a n vs H Q
theorem RM(m:Nat)(e:l=(m:Int)+1):(1:Int)*2^(l-1).toNat=2^m:=by
 rw[e,Int.one_mul,show((m:Int)+1-1).toNat=m by lia]
theorem aFD(F:Fun K "measured" "Grove.measured" DC f fd)(T:Top K mg a)(hd:1<=d)(aJ:Cal P w K mg n6 CX0 1 "shifted_box" QK Mu)(b9:Cal P w K mg n6 CX0 1 "least_box" GU OK)(b7:BY P w K mg n6 CX0 d a.L0 "boxed" Lj (Ty a n)):AJ P w K mg n6 CX0 (d+1) f fd Lj (aEI a (n+1)):=by
 erw[F.ok BG (λvs H Q E h=>?_) (λas A ar s H vs Q E hr h=>?_)]
 .erw[(g,G,i,l,b,rfl,_)=h];rfl
 .erw[(g,G,i,l,b,rfl,N,hl,ln,few,eb,k)=h,xea (id hl) λq0 e0 l0=>(_,(Ac (Ax 2 BG.nd (Aj Ar (AA pv0 Z) pv1 R_9)) (Ac (AS (Ay DR pv2 Ae (AF _)) (Ag (Av (Dv (AN (AN (AN (AN Ab))))))) Az) (Ac (Ax 3 BG.nd (AE NH Ae (AE Cs pv2 Ae))) (Ac (Ax 4 BG.nd (BO Ab)) (Ac (BN A3g Z (MJ o0 Z T.g_ (Aa (Aj Ar (AA pv0 Z) pv1 R_9) Ab)) (ND Z (CZ (AV (i:=5) BG.nd Z O_9) (CZ (AV (i:=6) BG.nd Z O_9) Ly))) (Ac (Ax 7 BG.nd (AD pv0 b7 (rm hr) AQ (Aa pv6 Ab))) (Ag (AS (Ay Si pv7 Dw (AF _)) (Ag (Bq (Dm A4a A4b A4c BI pv4 (Aa (AB aJ hr (Aa pv7 (AY Ec pv3 (AE Bu pv5 Ae) (AY Ec pv3 (AE CU pv5 Ae) Ab)))) Ab)))) Az)))) (Ag (Av (AB b9 hr (Aa pv4 Ab))))))))),?_)]
  erw[(_,Z,g.p,_,g.dx,_,_,Z,N.at'.hp,T.J4,T.Q1,ET g,_,Z,g.lv,_,(i:Int),.int q0.lev,Z,Z,SqL.of N.at'.lv,Ai (by rw[C3,e0];rfl),?_)];cases l with
  |zero =>
   erw[[l0],xq1 Z (Z,(xq1 Z (Cy (S_4,λt ht=>?_))))];have e:b=(0,0,1,1):=by
    have eb:(if i=0 then n9 else n8 ((0,0,1,1):Bx))=n8 b:=eb;split at eb
    .cases eb
    .cases eb;rfl
   erw[<-e,sm=AM (o:=.tup [.int 0,.int 0,.int 1,.int 1]) ht,k t _ (As.frq sm) (N.same sm) Af]
  |succ m =>
   have aq:q0.lev=(m:Int)+1:=by rw[l0];lia
   erw[xq1 Z (Z,(xq1 Z ?_)),[A3a (by intro z;injection z with z;lia)],xe5 (BC N.ok hl) λq x y z w I=>xea N.at'.pt λts h3 h4=>xea (PairedM.get h4 I.g) λt et ht=>?_,ht=ht,nt=N.ne_am ht (by erw[?l z,!z]),Bj (xwb Z Z Z (xq2 Z Z ((by lia,by have:=(N.ok.lev e0).2;lia,by decide),?_)))];rw[show(λ(i j:Int)=>V.int (i*2^j.toNat)) 1 (q0.lev-1)=V.int (2^m)from A4e V.int (RM m aq)];erw[(S_0,λL hL=>?_),m1=A3f (Am N.at'.lv hL),m2=A3f (Am h3 hL),m3=A3f (Am N.br hL),s1=AM (o:=.lst []) hL,(ae:upd H L (.lst []) L=n8 (.lst []))=Af];generalize upd H L (.lst [])=H1 at s1 ae⊢;erw[ac=N.same s1,am=s1 _ _ h3,an=s1 _ _ ht];generalize C:[Ck G m x,Ck G m y,Ck G m z,Ck G m w]=r;have D:r.length=4:=by rw[<-C];rfl
   have ab:Ck G (m+1) i=QJ (2^m) r:=by rw[FW I,C]
   have ad:∀(j k:Nat),q.parts[j]?=n8 (k:Int)->r[j]?=n8 (Ck G m k):=by
    intro j k e;rw[I.ps]at e;rw[<-C]
    match j,e with
    |0,e=>erw[e=e];rw[show x=k from A4d (A3h e)];rfl
    |1,e=>erw[e=e];rw[show y=k from A4d (A3h e)];rfl
    |2,e=>erw[e=e];rw[show z=k from A4d (A3h e)];rfl
    |3,e=>erw[e=e];rw[show w=k from A4d (A3h e)];rfl
    |j+4,e=>simp at e
   erw[xwf Z Z ac.at'.hp T.J4 T.L3 (CC g) (xwi Z Z Z (SqL.of am) (Ai (by rw[C3,et];rfl)) (t,Z,(_,SqT.of an),?_)),Lm (b:=o0) (xs:=q.parts.map V.int) (λj σ S=>∃(us:H_)(u5 u6 u7:Option V),σ=[n8 (.ref g.p),n8 (.int i),n8 (.int q0.lev),n8 (.int (2^m)),n8 (.ref L),u5,u6,u7]/\FrQ g H S/\AR a S g G/\S L=n8 (.lst (us.map V.ref))/\Paired (QW S) us (Ej (2^m) 0 (r.take j))) ([],n9,n9,n9,Z,As.frq s1,ac,ae,.nil) (λj σ S _ ⟨_,_,_,_,_,fr,_⟩=>SqT.of (fr _ _ ht nt.1 nt.2)) ?_ ?_]
   .erw[?j v σ S T' ev ah nT,Cd ah λus u5 u6 u7 U fr W Y pr=>?_,-ah,<-U,AI (I.mem ev) λk' aj hk ek=>?_,<-aj,eo=ad j k' ek,(hj:j<4)=by erw[[-D],(C2.mp eo).1]]
    have lu:us.length<=4:=by
     rw[A3e pr];have:=MV (2^m) (r.take j) 0;rw[J8]at this;lia
    erw[s2=AM (o:=.tup [.int j,.int k']) nT,Ql Af ?_];generalize upd S T' (.tup [.int j,.int k'])=H3 at s2⊢;erw[R=W.same s2];have ge:Ej (2^m) 0 (r.take (j+1))=Ej (2^m) 0 (r.take j)++Ej (2^m) j [Ck G m k']:=by
     rw[F9,eo,R7,Qm,J8,D,P0,Nat.min_eq_left (M0 hj)]
    have nL:∀{B:Hp},FrQ g H3 B->B L=n8 (.lst (us.map V.ref)):=λ{B} f4=>by
     have:=s2 _ _ Y;erw[n=R.ne_am this (by erw[?l z,!z]),f4 _ _ this n.1 n.2]
    have nP:∀{B:Hp},FrQ g H3 B->Paired (QW B) us (Ej (2^m) 0 (r.take j)):=λ{B} f4=>PairedM.imp (λt b z=>by
     have:=s2 _ _ z;have n:=R.ne_am this (by intro l z;cases z);exact f4 _ _ this n.1 n.2) pr
    erw[xq1 Z (g.p,g.dx,(xq1 Z (R.at'.hp,Uf g,(xq1 Z (g,G,k',m,Z,R,hk,by lia,few,λen B f4 X=>?_,λu ak t4 B f4 X ao=>?_)))))]
    .erw[xq1 Z (Z,(xq1 Z (Bj (us,_,_,_,Z,(fr.trans (As.frq s2)).trans f4,X,nL f4,?_)))),[ge,en],(_:Paired _ us (_++[])),[T3],nP f4]
    .erw[xq1 Z (Z,(xq1 Z (Cy ?_))),xq1 Z (.inl (Z,_,SqL.of (nL f4)),(xw3 Z Z Z (xq2 Z Z (B8,(xq2 Z Z (.inr (by lia,by lia),(xw2 Z Z (xq2 Z Z ((by decide,by decide),(xq2 Z Z (.inr (by lia,by lia),?_))))))))))),(t4,u,_,_,Z,ao,λt5 h5=>?_),s5=AM (o:=.tup [.int (u.l+2^m*((j:Int)%2)),.int (u.t+2^m*((j:Int)/2)),.int u.w,.int u.h]) h5,(ag:QW (upd B t5 (.tup [.int (u.l+2^m*((j:Int)%2)),.int (u.t+2^m*((j:Int)/2)),.int u.w,.int u.h])) t5 (shB (2^m) j u))=Af];generalize upd B t5 (.tup [.int (u.l+2^m*((j:Int)%2)),.int (u.t+2^m*((j:Int)/2)),.int u.w,.int u.h])=H5 at s5 ag⊢;erw[aa=s5 _ _ (nL f4),al=X.same s5,(L,(xq2 Z Z (aa,by erw[[C0],Dz (F3 lu A6)],?_))),(M:∀{c:R_}{l:List V},H5 c=n8 (.tup l)->upd H5 L (.lst (us.map V.ref++[.ref t5])) c=n8 (.tup l))=λ{c l} e=>by erw[[Aq (AC e aa A4)],e]]
     erw[(us++[t5],_,_,_,Z,?_,al.put aa m1 m2 m3,by rw[Af,D4];rfl,?_)]
     .erw[?c o e n1 n2,e5=s5 _ _ (((fr.trans (As.frq s2)).trans f4) _ _ e n1 n2),[Aq (Am e hL)],e5]
     .erw[[ge,ak],A5d (PairedM.imp (λc b z=>M (s5 _ _ z)) (nP f4)) (M ag)]
   .erw[?σ S ai,Cd ai λus u5 u6 u7 U fr W Y pr=>?_,-ai,<-U];rw[C0,show q.parts.length=r.length by rw[I.ps,D];rfl,J7]at pr;have O:QJ (2^m) r=n8 b:=by erw[[-ab],eb]
    have lu:us.length<=4:=by
     rw[A3e pr];have:=MV (2^m) r 0;lia
    have e3:Ej (2^m) 0 r≠[]/\Qk (Ej (2^m) 0 r)=b:=by
     unfold QJ at O;split at O
     .cases O
     .rename_i b1 r1 eg;erw[[eg],(A4,A3h O)]
    erw[xq1 Z (L,us,_,Z,Y,pr,e3.1,F3 lu A6,λt' H' s' af=>?_)];rw[e3.2]at af;erw[k t' H' (fr.trans (As.frq s')) (W.same s') af]
theorem aAu(h:l<=48):((Dn 48).map V.int)[l]?=n8 (.int (bareN l:Int)):=by
 erw[¬Dn,[C3,C3,S7 (F3 h A6)]];rfl
theorem aCt(F:Fun K "boxed" "Grove.boxed" EZ f fd)(T:Top K mg a)(cS:BY P w K mg n6 CX0 d a.L0 "measured" Lj (aEI a n)):AJ P w K mg n6 CX0 (d+1) f fd Lj (Ty a n):=by
 erw[F.ok Ep D_9 λaa A U s H vs Q E S h=>?_]
 erw[(g,G,i,l,rfl,c,x,ln,few,k1,Y)=h,xea (id x) λq0 W l0=>?_,(I:l<=48)=by have:=(c.ok.lev W).2;lia]
 erw[xea c.bx λks D y=>?_,lk=y.keys.len,(r,eg)=c.g0,V=Lp c.ok eg l i I x,(_,(Ac (AS (Ay DR pv1 (Aj Ar (AA pv0 Z) (Aj Ar (AA pv0 Z) pv1 R_9) R_9) (AF _)) (Ag (Av Dw)) Az) (Ac (Ax 2 Ep.nd (JS (Ei S) (AA pv0 Z) pv1 (Z,Z,Z,Z))) (Ac (AS (Ay Jl pv2 Dw (AF _)) (Ac (Ax 2 Ep.nd (AD pv0 cS (rm S) AQ (Aa pv1 Ab))) (Ag (FN (Ei S) (AA pv0 Z) pv1 pv2 Z))) Az) (Ag (Av pv2))))),?_),xw2 Z Z (xq5 c.at'.hp T.J4 T.Q2 (Jp g) (xwf Z Z c.at'.hp T.J4 T.Q1 (ET g) (xwi Z Z Z (SqL.of c.at'.lv) (Ai (by rw[C3,W];rfl)) (xq4 Z Z (SqL.of c.br) (by erw[[l0],Ai (aAu I)]) (Z,(xq1 Z ?_)))))),LL (λO=>?_) (λO=>?_)]
 .have ei:i=bareN l:=by
   have:=A4f O;injection this with this
   erw[A4d this]
  erw[k1 (V.mpr ei) H (FrQ.refl g H) c]
 .have ne:¬i=bareN l:=λz=>O (by erw[[z],A2g Z]);obtain⟨b,B⟩:∃b,Ck G l i=n8 b:=by
   cases e:Ck G l i with
   |none=>erw[absurd (V.mp e) ne]
   |some b=>exact(b,Z)
  erw[xwf Z Z c.at'.hp T.J4 T.l7 (aBA g) (g.bx,Z,.inl (_,.inl D),(xq1 Z (_,GL.k (k:=Sum.inl (i:Int)) D,?_)))];cases e:BQ ks (Sum.inl (i:Int))with
  |some v =>
   erw[Fk (y.val i v e) λl' b' t R C M ht=>?_,<-M,el=A4d (R.uniq x),<-el];rw[B]at C;erw[!C,xq1 Z (Z,(xq1 Z (Bj (xq1 Z (Y b B t H (FrQ.refl g H) c ht)))))]
  |none =>
   refine xq1 Z (Z,(xq1 Z (Cy (xq1 Z (g.p,g.dx,(xq1 Z (c.at'.hp,Ue g,(xq1 Z (g,G,i,l,b,Z,c,x,ln,few,B,λt H2 f2 o u=>?_)))))))));refine xea o.bx λks2 q m=>?_;have ab:=m.keys.len;obtain⟨N,X⟩:=o.bx_put q (ks2:=EL ks2 (Sum.inl (i:Int)) (.ref t)) (m.keys.put x.lt _,λj v L=>by
    rw[Iy]at L;split at L
    .rename_i z;injection z with z
     have:j=i:=A4d z;erw[<-this,!L,(l,b,t,x,B,Z,u)]
    .exact m.val j v L)
   erw[nt=o.ne_am u (by erw[?l z,!z]),xw2 Z Z (xq5 o.at'.hp T.J4 T.l7 (aBA g) (xq1 Z (g.bx,(xq1 Z (Mt.k (k:=Sum.inl (i:Int)) q (Dz A3),(xq1 Z (Y b B t _ (f2.trans X) N (X _ _ u nt.1 nt.2))))))))]
theorem aBq{fd:E_}{j:R_}(F:Fun K "boxed" "Grove.boxed" EZ f fd)(p:Fun K "measured" "Grove.measured" DC j b)(T:Top K mg a)(q:QB K a.L0 "boxed" f)(o:CO K fd Lj [])(e:QB K a.L0 "measured" j)(c:CO K b Lj [])
 (r:Cal P w K mg n6 CX0 1 "shifted_box" QK Mu) (t:Cal P w K mg n6 CX0 1 "least_box" GU OK):∀n,AJ P w K mg n6 CX0 (2*n+2) f fd Lj (Ty a n)
|0=>by
 erw[F.ok Ep (λvs H Q E h=>?_) (λu A m s H vs Q E v h=>?_)]
 .erw[(g,G,i,l,rfl,_,_,k,_)=h,absurd k (O1 _)]
 .erw[(g,G,i,l,rfl,_,_,k,_)=h,absurd k (O1 _)]
|n+1=>aCt F T ((j,b,aFD (d:=2*n+2) p T A3 r t ((f,fd,aBq F p T q o e c r t n,q,o),T.J4),e,c),T.J4)
inductive aAl(a:Ad)(vs:List V)(H:Hp)(Q:VK):Prop
|mk (g:GA) (G:Gv) (i l:Nat) (_:vs=[.ref g.p,.int i]) (_:AR a H g G) (_:Al G i l) (_:G.length<9000000) (_:(Ck G l i=n9->∀H',FrQ g H H'->AR a H' g G->Q .non H')) (_:∀b,Ck G l i=n8 b->∀t H',FrQ g H H'->AR a H' g G->QW H' t b->Q (.ref t) H'):aAl a vs H Q
def Vb(a:Ad):Sp:=λvs H Q _=>aAl a vs H Q
theorem aC4(F:Fun K "span" "Grove.span" IW f fd)(T:Top K mg a)(m:BY P w K mg n6 CX0 2 a.L0 "check_square" Lj (Tw a))(n:BY P w K mg n6 CX0 100 a.L0 "boxed" Lj (Ty a 49)):AJ P w K mg n6 CX0 101 f fd Lj (Vb a):=by
 erw[F.ok QH D_9 λo A j s H vs Q E k h=>?_]
 erw[(g,G,i,l,rfl,b,c,few,r,t)=h,(_,(Ac (Bq (AD pv0 m (rm k) AQ (Aa pv1 Ab))) (Ag (Av (AD pv0 n (rm k) AQ (Aa pv1 Ab))))),?_)];have d:l<49:=by
  erw[xea (id c) λq e u=>?_];have:=(b.ok.lev e).2;lia
 erw[xq1 Z (g.p,g.dx,(xq1 Z (b.at'.hp,PP g,(xq1 Z (g,G,i,Z,b.at',c.lt,?_))))),xq1 Z (g.p,g.dx,(xq1 Z (b.at'.hp,Uf g,(xq1 Z (g,G,i,l,Z,b,c,d,few,r,t)))))]
end
noncomputable def atN(ns:I_)(k:Int):Int:=ns.getD k.toNat 0
section
variable{P:N_}{w:Q_}{K:O_}{mg:C_}{n6:T_}{a:Ad}
inductive aF3(K:O_)(vs:List V)(H:Hp)(Q:VK):Prop
|mk (l:R_) (ns:I_) (k:Int) (_:vs=[.ref l,.int k]) (_:SqL K H l (ns.map V.int)) (_:0<=k) (_:Q (.int (atN ns k)) H):aF3 K vs H Q
def aDH(K:O_):Sp:=λvs H Q _=>aF3 K vs H Q
theorem aGs(F:Fun K "_law_at" "_law_at" NA f fd)(T:Top K mg a):AJ P w K mg n6 CX0 1 f fd Za (aDH K):=by
 erw[F.ok Vh D_9 λi A d s H vs Q E m h=>?_]
 erw[(l,ns,k,rfl,g,j,q)=h,(_,(Ac (AS (Ay IC pv1 (AH Br Z T.j_ A5c (Aa pv0 Ab)) (AF _)) (Ag (Av (Aj Ar pv0 pv1 R_9))) Az) (Ag (Av Ae))),?_),(_,Z,_,Z,l,_,Z,.inl g,_,_,Z,Z,_,Z,?_),(n,rfl)=L6 j,LL (λc=>?_) (λc=>?_)]
 .have b:n<ns.length:=by
   have:=A4f c;rw[C0]at this;lia
  erw[(_,Z,_,Z,l,_,n,.int ns[n],Z,Z,g,Ai (by rw[C3,C7 b];rfl),?_)];have e:atN ns (n:Int)=ns[n]:=by
   erw[¬atN,[M9,D9,C7 b]];rfl
  rw[e]at q;erw[q]
 .have b:ns.length<=n:=by
   have:¬(n:Int)<((ns.map V.int).length:Int):=λz=>c (A2g z);rw[C0]at this;lia
  have e:atN ns (n:Int)=0:=by
   erw[¬atN,[M9,D9,T8 b]];rfl
  rw[e]at q;erw[q]
end
inductive aDX(K:O_)(vs:List V)(H:Hp)(Q:VK):Prop
|mk (a:R_) (ns:I_) (_:vs=[.ref a]) (_:SqL K H a (ns.map V.int)) (_:ns.length<=63) (_:∀H',Q (.bl o0) H'):aDX K vs H Q
def Ws(K:O_):Sp:=λvs H Q _=>aDX K vs H Q
end J
namespace J
open PySem L2
def Ap(g:GA)(x:R_):Prop:=x≠g.lv/\x≠g.pt/\x≠g.nm
theorem Ap.new(h:AL a H g G)(n:H x=n9):Ap g x:=by
 erw[xea h.pt λts b _=>(A3f (Am h.lv n),A3f (Am b n),A3f (Am h.nm n))]
theorem Fr.get(f:Fr g H a)(p:Ap g x)(e:H x=n8 o):a x=n8 o:=f _ _ e p.1 p.2.1 p.2.2
theorem Fr.tup{a:Ad}{g:GA}{G:Gv}{H b:Hp}{x:R_}{l:List V}(f:Fr g H b)(h:AL a H g G)(e:H x=n8 (.tup l)):b x=n8 (.tup l):=by
 erw[xea h.pt λus c _=>f _ _ e (AC e h.lv A4) (AC e c A4) (AC e h.nm A4)]
theorem AG.mono(h:AG G a n)(e:n<=m):AG G a m:=(h.ok,h.pre,C9 h.few A3)
theorem OO(l:Nat):(0:Int)<2^l:=Int.pow_pos A6
theorem WH(h:l<64):(2:Int)^l<2^64:=by
 have:(2:Nat)^l<2^64:=A1a A6 h
 exact_mod_cast this
theorem Nl{d:Int}(a:0<=d)(b:d<=9):d.natAbs.log2<1920:=by
 erw[(m,rfl)=L6 a,(show ∀m:Nat,m<10->(m:Int).natAbs.log2<1920 by decide +kernel) m B2]
theorem Jn(h:n<=100000):n<=sizeLine:=C9 h A6
noncomputable abbrev Tr:Str:=Str.ofString "01234567*"
theorem Wm:∀m:Nat,m<9->Tr.cps.toList[m]?=n8 (if m=8 then 42 else 48+m):=by decide +kernel
noncomputable def LT(n:Int)(k:Nat):Bool:=decide (V.int (Builtin.bitAnd (n/2^k) 1)=V.int 1)
noncomputable def Le(n:Int):List Int:=((List.range 9).filter (LT n)).map λ(k:Nat)=>(k:Int)
theorem aCq:∀m:Nat,m<511->Le ((m:Int)+1)≠[]:=by decide +kernel
theorem aBn(n:Int):(Le n).Pairwise (· < ·):=by
 erw[¬Le,[Q5]];have:((List.range 9).filter (LT n)).Pairwise (· < ·):=List.pairwise_lt_range.sublist List.filter_sublist;erw[this.imp λh=>by omega]
theorem aCp(n:Int):∀m∈Le n,0<=m/\m<=8:=λm c=>by
 erw[xea (F0.mp c) λk b a=>?_,<-a];have:=N9.mp (Y6.mp b).1;omega
seal L2.PA L2.PE L2.PS L2.PSs L2.PT L2.PW
noncomputable abbrev amT:Str:=Str.ofString "amount"
noncomputable abbrev plT:Str:=Str.ofString "places"
noncomputable def unO:Option Int->Int
|none=>8
|some d=>d
inductive CV(H:Hp):Addr->Bl->Prop where
|am {q l:R_} {s:Int} {ns:I_} (h:H q=n8 (.tup [.str amT,.int s,.ref l])) (hl:H l=n8 (.lst (ns.map V.int))):CV H q (.am s ns)
|pl {q l:R_} {ws:List (Option Int)} (h:H q=n8 (.tup [.str plT,.ref l])) (hl:H l=n8 (.lst (ws.map λw=>V.int (unO w)))):CV H q (.pl ws)
structure UX(H:Hp)(q:R_)(c:Ba):Prop where
ex:∃(l:R_)(ds:H_),H q=n8 (.tup [.int (unO c.cell),.ref l,.int c.makes])/\H l=n8 (.lst (ds.map V.ref))/\Paired (CV H) ds c.conds
structure LU(H:Hp)(q:R_)(r:Aw):Prop where
ex:∃cs:List Addr,H q=n8 (.lst (cs.map V.ref))/\Paired (UX H) cs r
theorem CV.same{q:R_}(s:As H b)(h:CV H q d):CV b q d:=by
 cases h with
 |am h a=>erw[.am (s _ _ h) (s _ _ a)]
 |pl h a=>erw[.pl (s _ _ h) (s _ _ a)]
theorem UX.same{q:R_}{c:Ba}(s:As H a)(h:UX H q c):UX a q c:=by
 erw[AK h.ex λl ds b d e=>(l,ds,s _ _ b,s _ _ d,Paired.imp (λ_ _ z=>z.same s) e)]
theorem LU.same{q:R_}(s:As H a)(h:LU H q r):LU a q r:=by
 erw[xea h.ex λcs b c=>(cs,s _ _ b,Paired.imp (λ_ _ z=>z.same s) c)]
theorem aFx(h:wOk x):0<=unO x/\unO x<=8:=by
 cases x with
 |none=>exact(by decide,by decide)
 |some d=>exact(h.1,Z3 h.2)
theorem ZQ(h:wOk x):atI Tr.cps.toList (unO x)=n8 (wC x):=by
 cases x with
 |none=>erw[Ai (Wm 8 A6)]
 |some d =>
  erw[(n,b)=L6 h.1,c=h.2,(a:n≠8)=by lia]
  show atI Tr.cps.toList d=n8 (48+d.toNat);rw[b,M9];have:=Wm n A3;rw[A2f a]at this;erw[Ai this]
theorem Tl(h:wOk x)(y:Int):Dq x y=(decide (unO x=8) || decide (unO x=y)):=by
 cases x with
 |none=>rfl
 |some d =>
  have:=h.2;show decide (d=y)=(decide (d=8) || decide (d=y))
  rw[A3a (Int.ne_of_lt this:¬d=8),Bool.false_or]
theorem aEl(a:List (Option Int)):Str.join (Str.ofString "") (a.map λw=>(⟨#[wC w]⟩:Str))=AX (.pl a):=by
 have b:Str.ofString "" = (⟨#[]⟩:Str):=by decide +kernel
 erw[[b],Nu.ext ?_,[Tx.Fq,Tx.VO,N5],(_:(a.map _).flatten=a.map wC)];induction a with
 |nil=>rfl
 |cons x r c=>rw[J0,U0,c,J0];rfl
theorem aBO{ns:I_}(h:∀m∈ns,0<=m/\m<=8):Str.join (Str.ofString "") (ns.map λn=>Str.ofString (toString n))=DS ns:=by
 have b:Str.ofString "" = (⟨#[]⟩:Str):=by decide +kernel
 erw[[b],Nu.ext ?_,[Tx.Fq,Tx.VO,N5],(_:(ns.map _).flatten=ns.map λn=>48+n.toNat)];induction ns with
 |nil=>rfl
 |cons n r d =>
  erw[a=h n D5,[J0,U0,d λm c=>h m (D6 _ c)],(_:(Str.ofString (toString n)).cps.toList++_=_),[Tx.Na a.1 (Int.le_trans a.2 A6)]];rfl
theorem SU{d:Int}(a:0<=d)(b:d<=9):(Str.ofString (toString d)).length=1:=by rw[Tx.Na a b];rfl
section
variable{P:N_}{w:Q_}{K:O_}{mg:C_}{n6:T_}{a:Ad}
inductive aDg(vs:List V)(H:Hp)(Q:VK):Prop
|mk (c k:Int) (_:vs=[.int c,.int k]) (_:0<=k) (_:k<=1000000) (_:∀i:Int,0<=i->Q (.int i) H):aDg vs H Q
def Rc:Sp:=λvs H Q _=>aDg vs H Q
theorem aFG(F:Fun K "_law_mix" "_law_mix" Mg f fd):AJ P w K mg n6 CX0 1 f fd EQ Rc:=by
 erw[F.ok Ol D_9 λd A b s H vs Q E i h=>?_]
 erw[(c,k,rfl,e,g,q)=h,(_,(Ac (Ax 2 Ol.nd (AE Bu (AE Ec (AE AO (AE AO (AE Bu pv0 Ae) (AE Ec Ae pv1)) Ae) (AE AO Ae (AE Ec Ae pv1))) Ae)) (Ag (Av (AE CU (AE Bu (AE Ec (AE AO (AE CU pv2 Ae) pv1) Ae) Ae) Ae)))),?_),xwb Z Z Z ((by show(0:Int)<998244353;decide),(xwb Z Z Z (.inl (by decide,by decide),(xq2 Z Z (xq2 Z Z (xwb Z Z Z (.inl (by decide,by decide),(xq2 Z Z (xq2 Z Z (.inr (by lia,by lia),(xq2 Z Z ((by show(0:Int)<2147483647;decide),?_)))))))))))),xwb Z Z Z ((by decide,by decide),(xwb Z Z Z (xq2 Z Z (.inr (by decide,by decide),(xq2 Z Z ((by show(0:Int)<2147483629;decide),(xq2 Z Z ((by decide,by decide),?_)))))))),q _ A3]
inductive aGN(vs:List V)(H:Hp)(Q:VK):Prop
|mk (m:R_) (x y v:Int) (_:vs=[.ref m,.int v]) (_:H m=n8 (.tup [.int x,.int y])) (_:GK x) (_:GK y) (_:∀d:Int,GK d->Q (.int d) H):aGN vs H Q
def ZU:Sp:=λvs H Q _=>aGN vs H Q
theorem aHB(F:Fun K "_law_state_by" "_law_state_by" Fz f fd):AJ P w K mg n6 CX0 1 f fd OB ZU:=by
 erw[F.ok Nn D_9 λd A b s H vs Q E n h=>?_]
 erw[(m,x,y,v,rfl,c,k,l,q)=h,(_,(Ac (AS (Ay IC (AE Bu pv1 Ae) Ae (AF _)) (Ag (Av (Aj Ao pv0 (AE Bu pv1 Ae) R_9))) Az) (Ag (Av (AE Bu (AE CU pv1 Ae) Ae)))),?_),xwb Z Z Z (B7,(xq2 Z Z (xq1 Z ?_))),LL (λg=>?_) (λ_=>?_)]
 .erw[i=A4f g];rcases(show v%3=0\/v%3=1 by lia)with e|e
  .erw[xw2 Z Z (xq2 Z Z (B7,(xq4 Z Z (SqT.of c) (by erw[[e],Ai (j:=0) Z]) (q x k))))]
  .erw[xw2 Z Z (xq2 Z Z (B7,(xq4 Z Z (SqT.of c) (by erw[[e],Ai (j:=1) Z]) (q y l))))]
 .erw[xwb Z Z Z ((by decide,by decide),(xq2 Z Z (B6,q _ (T4 _ A6,R9 _ A6))))]
def Wb(H:Hp)(m:R_):Prop:=∃x y:Int,H m=n8 (.tup [.int x,.int y])/\GK x/\GK y
theorem Wb.same(s:As H b)(h:Wb H m):Wb b m:=by
 erw[BM h λx y c d=>(x,y,s _ _ c,d)]
inductive aF9(vs:List V)(H:Hp)(Q:VK):Prop
|mk (m:R_) (sd j:Int) (_:vs=[.ref m,.int sd,.int j]) (_:Wb H m) (_:0<=j) (_:j<=900000) (_:∀(q:R_)(d:Bl)(H':Hp),As H H'->CV H' q d->d.ok->Q (.ref q) H'):aF9 vs H Q
def aHU:Sp:=λvs H Q _=>aF9 vs H Q
theorem aGx(F:Fun K "_law_condition_by" "_law_condition_by" CJ f fd)(T:Top K mg a)(W:Cal P w K mg n6 CX0 1 "_law_mix" EQ Rc)(aA:Cal P w K mg n6 CX0 1 "_law_state_by" OB ZU) :
 AJ P w K mg n6 CX0 2 f fd DK aHU:=by
 erw[F.ok BR D_9 λai A ac s H vs Q E G h=>?_]
 erw[(m,C,j,rfl,(mx,my,hm,I,Y),h0,h1,k)=h,(_,(Ac (AS (Ay DR (AE Bu (AB W G (Aa pv1 (Aa pv2 Ab))) Ae) Ae (AF _)) (Ac (Ax 3 BR.nd (BO Ab)) (Ac (BN A3g Z (Ce Z T.V_ (AN Ab)) (AV (i:=4) BR.nd Z O_9) (Ac (Ax 5 BR.nd (AB W G (Aa pv1 (AY AO (AE AO pv2 Ae) pv4 Ab)))) (Ag (AS (Ay DR (AE Bu (AE CU pv5 Ae) Ae) Ae (AF _)) (Ag (Bq (Dm A4a A4b A4c BI pv3 (Aa (AB aA G (Aa pv0 (Aa pv5 Ab))) Ab)))) (Ag (Bq (Dm A4a A4b A4c BI pv3 (AN Ab)))))))) (Ag (Av (Dv (PH (Aa pv3 Ab))))))) Az) (Ac (Px (i:=6) BR.nd Z (Or.inr Z) (AE AO (AE Bu (AB W G (Aa pv1 (AY AO pv2 Ae Ab))) Ae) Ae)) (Ag (Av (Dv (PH (Aa (AB aA G (Aa pv0 (Aa (AB W G (Aa pv1 (AY AO pv2 Ae Ab))) Ab))) (Aa (Cc Z (Bd.of (So:=Ah CJ) (No:=FH) (N:=["_law_k","_law_mask"]) (k:=1) (cs:=[6]) Z Z A0) (Ce Z T.V_ (AN Ab)) (λ_ _ _=>(AW (i:=0) A0 Z Z)) (λ_ _ _=>(aDC (Ay DR (AE aFR (AE aFT pv1 pv0) Ae) Ae (AF _)))) (λ_ _ _=>pv0)) Ab)))))))),?_),xw2 Z Z (C,j,Z,h0,by lia,λv hv=>(xq2 Z Z (B7,Z,(xq1 Z ?_)))),LL (λ_=>?_) (λ_=>?_)]
 .erw[(S_0,λl X=>?_),(8,Z,by decide,by decide,BX (n:=8) (λi σ p=>∃(c:List (Option Int))(u5 L M:Option V),σ=[n8 (.ref m),n8 (.int C),n8 (.int j),n8 (.ref l),u5,L,M]/\p=upd H l (.lst (c.map λw=>V.int (unO w)))/\c.length=i/\∀x∈c,wOk x) ([],n9,n9,n9,Z,Z,Z,λx I=>by simp at I) ?_ ?_)]
  .erw[?i σ p hi S,xe4 S λc u5 L M g=>xa3 g λt u B hw=>?_,-g,-S,<-t,<-u,(lt:(c.map λw=>V.int (unO w)).length<sizeLine)=by erw[[C0,B],D8 hi A6]]
   erw[(aa:upd H l (.lst (c.map λw=>V.int (unO w))) m=n8 (.tup [.int mx,.int my]))=An X _ _ hm,xq1 Z (xq1 Z (xq2 Z Z (xq1 Z (xq2 Z Z (C,_,Z,by lia,by lia,λb ab=>?_)))))];have app:∀x:Option Int,wOk x->∀L M,∃(D:List (Option Int))(ad ae af:Option V),([n8 (.ref m),n8 (.int C),n8 (.int j),n8 (.ref l),n8 (.int (0+(i:Int))),L,M]:St)=[n8 (.ref m),n8 (.int C),n8 (.int j),n8 (.ref l),ad,ae,af] /\ upd (upd H l (.lst (c.map λw=>V.int (unO w)))) l (.lst ((c.map λw=>V.int (unO w))++[V.int (unO x)]))=upd H l (.lst (D.map λw=>V.int (unO w)))/\D.length=i+1/\∀x∈D,wOk x:=λx I L M =>
    (c++[x],_,_,_,Z,by rw[FK,D4];rfl,by rw[D3,B];rfl,λy Y=>by
     rcases J9.mp Y with q|q
     .erw[hw y q]
     .rw[C5.mp q];exact I)
   erw[xwb Z Z Z ((by decide,by decide),(xq2 Z Z (B7,Z,(xq1 Z ?_)))),LL (λ_=>?_) (λ_=>?_)]
   .erw[xq1 Z (.inl (Z,_,SqL.of Af),(xw2 Z Z (m,mx,my,b,Z,aa,I,Y,λd hd=>(l,(xq2 Z Z (Af,lt,app (n8 d) hd _ _))))))]
   .erw[xq1 Z (.inl (Z,_,SqL.of Af),l,(xq2 Z Z (Af,lt,app n9 trivial _ _)))]
  .erw[?σ p U,xe4 U λc u5 L M g=>xa3 g λt u B hw=>?_,-g,-U,<-t,<-u,xq1 Z (S_2,λq R=>?_),k q (.pl c) _ ((An (o:=.lst (c.map λw=>V.int (unO w))) X).trans (An (o:=.tup [.str plT,.ref l]) R)) (.pl Af (An R _ _ Af)) (B,hw)]
 .erw[xq1 Z (xq1 Z (xq2 Z Z (C,_,Z,by lia,by lia,λb ab=>(xq2 Z Z ((by show(0:Int)<511;decide),_,_,Z,Z,?_)))))];have z:∃n:Nat,n<511/\b%511+1=(n:Int)+1:=by
   erw[(n,B)=L6 (show 0<=b%511 by lia),(n,by lia,by lia)]
  erw[xq1 Z (xq1 Z (xq1 Z (xq2 Z Z (C,_,Z,by lia,by lia,λv3 aj=>(m,mx,my,v3,Z,hm,I,Y,λd hd=>?_))))),(9,Z,by decide,by decide,?_),RD (n:=9) (λi r p=>H=p/\r=(((List.range i).filter (LT (b%511+1))).map λ(k:Nat)=>V.int (k:Int))) (Z,Z) ?_ ?_]
  .erw[?i r p hi ag,(rfl,rfl)=ag];have lt:(((List.range i).filter (LT (b%511+1))).map λ(k:Nat)=>V.int (k:Int)).length<sizeLine:=by
    rw[C0];have:=List.length_filter_le (LT (b%511+1)) (List.range i);rw[P3]at this;erw[F3 (C9 this (M0 hi)) A6]
   erw[(([n8 (.int (0+(i:Int)))],Z,Z),lt,?_),xw2 Z Z (xq2 Z Z ((by show(0:Int)<=0+(i:Int);lia),(xq2 Z Z (Z,(xq1 Z ?_))))),(ei:(0+(i:Int)).toNat=i)=by lia]
   have e:(List.range (i+1)).filter (LT (b%511+1))=(List.range i).filter (LT (b%511+1))++if LT (b%511+1) i=o0 then [i]else []:=by
    rw[Q7,List.filter_append,List.filter_cons,List.filter_nil]
   erw[[ei],(_:if LT (b%511+1) i=o0 then _ else _),LL (λhb=>?_) (λhb=>?_)]
   .erw[xq1 Z (Z,?_),[e,A2h hb,D4],(_:_++[V.int (0+(i:Int))]=_++[V.int (i:Int)])]
    rw[U6]
   .erw[(Z,?_),[e,A2f hb,T3]]
  .erw[?r p ah l X,(rfl,rfl)=ah];have O:(((List.range 9).filter (LT (b%511+1))).map λ(k:Nat)=>V.int (k:Int))=(Le (b%511+1)).map V.int:=by
    erw[¬Le,[N5]];rfl
   erw[[O],(S_3,λq R=>?_),k q (.am d (Le (b%511+1))) _ ((An (o:=.lst ((Le (b%511+1)).map V.int)) X).trans (An (o:=.tup [.str amT,.int d,.ref l]) R)) (.am Af (An R _ _ Af)) (hd,?_,aCp _,aBn _),xea z λn B e=>?_,[e],aCq n B]
end
theorem aD2:decide (V.str amT=V.str (Str.ofString "places"))=o3:=by decide +kernel
theorem aD4:decide (V.str plT=V.str (Str.ofString "places"))=o0:=by decide +kernel
section
variable{P:N_}{w:Q_}{K:O_}{mg:C_}{n6:T_}{a:Ad}
inductive aGR(vs:List V)(H:Hp)(Q:VK):Prop
|mk (q:R_) (d:Bl) (_:vs=[.ref q]) (_:CV H q d) (_:d.ok) (_:∀H',As H H'->Q (.str (AX d)) H'):aGR vs H Q
def aHg:Sp:=λvs H Q _=>aGR vs H Q
theorem aHD(F:Fun K "_law_word" "_law_word" Fn f fd)(T:Top K mg a):AJ P w K mg n6 CX0 1 f fd Lf aHg:=by
 erw[F.ok RY D_9 λab A R s H vs Q E hr h=>?_]
 erw[(q,d,rfl,hd,I,k)=h,(l0:(Str.ofString "").length=0)=by decide +kernel]
 erw[(_,(Ac (AS (Ay DR (Aj Ao pv0 Ae R_9) FC (AF _)) (Ag (Av (Dm A6b B0a B0b OR FC (Aa (Cc Z (Bd.of (So:=Ah Fn) (No:=Lf) (N:=["_law_state"]) (k:=1) (cs:=[]) Z Z A0) (BH (Aj Ao pv0 Ae R_9)) (λ_ _ _=>(AW (i:=0) A0 Z Z)) (λ_ _ _=>Be) (λ_ _ _=>(Aj aBJ FC pv0 R_9))) Ab)))) Az) (Ag (Av (AE PL (AE PL (BW Jt Z T.aAS A7g (Aa (Aj Ao pv0 Ae R_9) Ab)) FC) (Dm A6b B0a B0b OR FC (Aa (Cc Z (Bd.of (So:=Ah Fn) (No:=Lf) (N:=["_law_k"]) (k:=1) (cs:=[]) Z Z A0) (BH (Aj Ao pv0 Ae R_9)) (λ_ _ _=>(AW (i:=0) A0 Z Z)) (λ_ _ _=>Be) (λ_ _ _=>(BW Jt Z T.aAS A7g (Aa pv0 Ab)))) Ab)))))),?_)];cases hd with
 |@pl l S h C =>
  erw[xwi Z Z Z (SqT.of h) (Ai (j:=0) Z) (Z,(xq1 Z ?_)),[aD4],Cy (Z,(xwi Z Z Z (SqT.of h) (Ai (j:=1) Z) (l,Z,(_,SqL.of C),?_))),Ca (xs:=S.map λw=>V.int (unO w)) (λi b r=>H=r/\b=((S.take i).map λx=>(⟨#[wC x]⟩:Str)).map V.str) (Z,Z) (λi b r _ z=>z.1▸SqL.of C) ?_ ?_]
  .erw[?i x b r G U,(rfl,rfl)=U];rw[C3]at G;erw[xea (D7.mp G) λn y c=>?_,<-c,v=I.2 n (D0 y),(([n8 (.int (unO n))],Z,Z),?_,EF (xq1 Z (Tr,_,wC n,Z,Z,A0,ZQ v,Z,?_)))]
   .erw[[C0,C0,J8,I.1],F3 (R5 _ _) A6]
   .rw[F9,y,D4,D4];rfl
  .erw[?b r W p M,(rfl,rfl)=W,[C0,J7]];have g:JoinOk (Str.ofString "") (S.map λx=>(⟨#[wC x]⟩:Str))=o0:=by
    erw[Tx.OU 1 (λt O=>?_) ?_]
    .erw[xea (F0.mp O) λn v c=>?_,<-c,C1 1]
    .rw[C0,l0,I.1];decide
   erw[(_,p,(xq1 Z (Z,SqL.of Af,g,?_))),[aEl],k _ (An M)]
 |@am l st ns h C =>
  erw[xa3 I λm _ v B=>?_,aa=OZ ns 0 A6 v B,(u:st<=9)=by have:=m.2;lia]
  erw[xwi Z Z Z (SqT.of h) (Ai (j:=0) Z) (Z,(xq1 Z ?_)),[aD2],Bj (xwi Z Z Z (SqT.of h) (Ai (j:=1) Z) (st,Z,Nl m.1 u,(xq2 Z Z (Jn (by erw [SU m.1 u];decide),Z,(xwi Z Z Z (SqT.of h) (Ai (j:=2) Z) (l,Z,(_,SqL.of C),?_)))))),Ca (xs:=ns.map V.int) (λi b r=>H=r/\b=((ns.take i).map λn=>Str.ofString (toString n)).map V.str) (Z,Z) (λi b r _ z=>z.1▸SqL.of C) ?_ ?_]
  .erw[?i x b r G X,(rfl,rfl)=X];rw[C3]at G;erw[xea (D7.mp G) λn y c=>?_,<-c,D=v n (D0 y),(([n8 (.int n)],Z,Z),?_,EF (xq1 Z (n,Z,Nl D.1 (Int.le_trans D.2 A6),Z,?_)))]
   .erw[[C0,C0,J8],F3 (R5 _ _) (F3 (show _<=9 by lia) A6)]
   .rw[F9,y,D4,D4];rfl
  .erw[?b r Y p M,(rfl,rfl)=Y,[C0,J7]];have g:JoinOk (Str.ofString "") (ns.map λn=>Str.ofString (toString n))=o0:=by
    erw[Tx.OU 1 (λt O=>?_) ?_]
    .erw[xea (F0.mp O) λn L c=>?_,<-c];have:=v n L;rw[SU this.1 (Int.le_trans this.2 A6)];decide
    .rw[C0,l0];lia
   erw[(_,p,(xq1 Z (Z,SqL.of Af,g,(xq2 Z Z (Jn ?_,?_)))))]
   .rw[aBO v];have e1:(DS ns).length=ns.length:=by rw[Nu.len];show(ns.map _).length=_;rw[C0]
    have e2:(Str.ofString "=").length=1:=by decide +kernel
    rw[Tx.app_len,e1,e2]
    erw [SU m.1 u]
    lia
   .have e:Str.ofString (toString st)++Str.ofString "=" ++ Str.join (Str.ofString "") (ns.map λn=>Str.ofString (toString n))=AX (.am st ns):=by
     rw[aBO v,Tx.Na m.1 u,show Str.ofString "=" = (⟨#[61]⟩:Str) by decide +kernel];rfl
    have:=k _ (An (o:=.lst ((ns.map λn=>Str.ofString (toString n)).map V.str)) M);rw[<-e]at this;erw[this]
inductive aGO(vs:List V)(H:Hp)(Q:VK):Prop
|mk (q:R_) (r:Aw) (_:vs=[.ref q]) (_:LU H q r) (_:EC r) (_:∀H',As H H'->Q (.str (AZ r)) H'):aGO vs H Q
def aHd:Sp:=λvs H Q _=>aGO vs H Q
theorem aHC(F:Fun K "_law_text" "_law_text" GQ f fd)(T:Top K mg a)(cL:Cal P w K mg n6 CX0 1 "_law_word" Lf aHg):AJ P w K mg n6 CX0 2 f fd La aHd:=by
 erw[F.ok FM D_9 λaq A am s H vs Q E hr h=>?_]
 erw[(q,r,rfl,hR,ho,k)=h,xea hR.ex λcs hq U=>?_,ag=ho.few,(_,(Ac (Ax 1 FM.nd (BO Ab)) (Ac (BN A3g Z (BH pv0) (AV (i:=2) FM.nd Z O_9) (Ac (Ax 3 FM.nd (AE Vn (BO (Aa (Aj aBJ FC (Aj Ao pv2 Ae R_9) R_9) Ab)) (Cc Z (Bd.of (So:=Ah GQ) (No:=Oq) (N:=["_law_condition"]) (k:=1) (cs:=[]) Z Z A0) (BH (Aj Ao pv2 Ae R_9)) (λ_ _ _=>(AW (i:=0) A0 Z Z)) (λ_ _ _=>Be) (λ_ _ _=>(AB cL hr (Aa pv0 Ab)))))) (Ag (Bq (Dm A4a A4b A4c BI pv1 (Aa (Dm A6b B0a B0b OR FC (AY Vn pv3 (BO (Aa (BW Jt Z T.aAS A7g (Aa (Aj Ao pv2 Ae R_9) Ab)) Ab)) Ab)) Ab)))))) (Ag (Av (Dm A6b B0a B0b OR FC (Aa pv1 Ab)))))),?_),(S_0,λpt L=>?_),(ah:∀o,upd H pt o q=n8 (.lst (cs.map V.ref)))=λo=>An L _ _ hq,xq1 Z (q,Z,(_,SqL.of (ah _)),MY (xs:=cs.map V.ref) (λi σ n=>∃u2 u3:Option V,σ=[n8 (.ref q),n8 (.ref pt),u2,u3]/\As H n/\n pt=n8 (.lst ((r.take i).map λc=>V.str (BD c)))) (n9,n9,Z,An L,Af) (λi σ n _ ⟨_,_,_,S,_⟩=>SqL.of (S _ _ hq)) ?_ ?_)]
 .erw[?i x σ n Y ab,AK ab λu2 u3 g S m=>?_,-ab,<-g];rw[C3]at Y;erw[xea (D7.mp Y) λcq ae g=>?_,<-g,xea (Paired.get U ae) λc ec hc=>?_,I=ho.ok c (D0 ec),ad=I.few,AK ((hc.same S).ex) λcl ds h1 h2 h3=>?_,(aa:c.makes<=9)=by have:=I.makes.2;lia]
  erw[un=aFx I.cell,xwi Z Z Z (SqT.of h1) (Ai (j:=0) Z) (Tr,_,wC c.cell,Z,Z,A0,ZQ I.cell,S_1,λw1 ai=>?_),R=An (o:=.lst [.str ⟨#[wC c.cell]⟩]) ai,xwi Z Z Z (SqT.of (R _ _ h1)) (Ai (j:=1) Z) (cl,Z,(_,SqL.of (R _ _ h2)),?_),(v:upd n w1 (.lst [.str ⟨#[wC c.cell]⟩]) w1=n8 (.lst [.str ⟨#[wC c.cell]⟩]))=Af];generalize upd n w1 (.lst [.str ⟨#[wC c.cell]⟩])=H3 at R v⊢;erw[Ca (xs:=ds.map V.ref) (λj p O=>As H3 O/\p=((c.conds.take j).map AX).map V.str) (As.refl H3,Z) (λj p O _ z=>SqL.of (z.1 _ _ (R _ _ h2))) ?_ ?_]
  .erw[?j x p O Y an,(s4,rfl)=an];rw[C3]at Y;erw[xea (D7.mp Y) λdq af g=>?_,<-g,xea (Paired.get h3 af) λd ed hd=>(([n8 (.ref dq)],Z,Z),?_,EF (xq1 Z (dq,d,Z,(hd.same R).same s4,I.conds d (D0 ed),λH5 s5=>(s4.trans s5,?_))))]
   .erw[[C0,C0,J8],F3 (R5 _ _) (F3 ad A6)]
   .rw[F9,ed,D4,D4];rfl
  .erw[?p O ao w2 aj,(s4,rfl)=ao,[C0,(A3e h3),J7],s5=s4.trans (An (o:=.lst ((c.conds.map AX).map V.str)) aj),(y:upd O w2 (.lst ((c.conds.map AX).map V.str)) w2=n8 (.lst ((c.conds.map AX).map V.str)))=Af];generalize upd O w2 (.lst ((c.conds.map AX).map V.str))=H5 at s5 y⊢;erw[(w1,w2,(xq2 Z Z (s5 _ _ v,y,Jn (by simp only[F2,T0,C0];lia),λw3 ak=>?_))),s6=s5.trans (An (o:=.lst ([.str ⟨#[wC c.cell]⟩]++(c.conds.map AX).map V.str)) ak),(B:upd H5 w3 (.lst ([.str ⟨#[wC c.cell]⟩]++(c.conds.map AX).map V.str)) w3=n8 (.lst ([.str ⟨#[wC c.cell]⟩]++(c.conds.map AX).map V.str)))=Af];generalize upd H5 w3 (.lst ([.str ⟨#[wC c.cell]⟩]++(c.conds.map AX).map V.str))=H6 at s6 B⊢;erw[M=R.trans s6,xq1 Z (.inl (Z,_,SqL.of (M _ _ m)),Z,(xwj Z Z Z Z (SqT.of (M _ _ h1)) (Ai (j:=2) Z) (c.makes,Z,Nl I.makes.1 aa,S_1,λw4 X=>?_))),s7=M.trans (An (o:=.lst [.str (Str.ofString (toString c.makes))]) X),(D:upd H6 w4 (.lst [.str (Str.ofString (toString c.makes))]) w4=n8 (.lst [.str (Str.ofString (toString c.makes))]))=Af,C=An (o:=.lst [.str (Str.ofString (toString c.makes))]) X _ _ B];generalize upd H6 w4 (.lst [.str (Str.ofString (toString c.makes))])=H7 at s7 D C⊢;erw[(w3,w4,(xq2 Z Z (C,D,Jn (by simp only[D3,F2,T0,C0];lia),λw5 al=>?_)))];have eL:([.str ⟨#[wC c.cell]⟩]++(c.conds.map AX).map V.str)++[.str (Str.ofString (toString c.makes))]=(wS c.cell::(c.conds.map AX++[sgD c.makes])).map V.str:=by
    rw[Tx.Na I.makes.1 aa,J0,D4];rfl
   erw[[eL],s8=s7.trans (An (o:=.lst ((wS c.cell::(c.conds.map AX++[sgD c.makes])).map V.str)) al),(G:upd H7 w5 (.lst ((wS c.cell::(c.conds.map AX++[sgD c.makes])).map V.str)) w5=n8 (.lst ((wS c.cell::(c.conds.map AX++[sgD c.makes])).map V.str)))=Af];generalize upd H7 w5 (.lst ((wS c.cell::(c.conds.map AX++[sgD c.makes])).map V.str))=H8 at s8 G⊢;have lb:(Str.ofString " ").length=1:=by decide +kernel
   have l:JoinOk (Str.ofString " ") (wS c.cell::(c.conds.map AX++[sgD c.makes]))=o0:=by
    erw[Tx.OU 11 (λt u=>?_) ?_]
    .rcases C4.mp u with rfl|u
     .show 1<=11;decide
     .rcases J9.mp u with u|u
      .erw[xea (F0.mp u) λd hd g=>?_,<-g,Nc (I.conds d hd)]
      .rw[C5.mp u];show 1<=11;decide
    .rw[lb,F2,D3,C0,F2,T0];lia
   erw[(_,w5,(xq1 Z (Z,SqL.of G,l,?_)))];have eC:Str.join (Str.ofString " ") (wS c.cell::(c.conds.map AX++[sgD c.makes]))=BD c:=by
    rw[show Str.ofString " " = (⟨#[32]⟩:Str) by decide +kernel];rfl
   erw[[eC],(pt,(xq2 Z Z (s8 _ _ m,?_,?_)))]
   .erw[[C0,J8],F3 (R5 _ _) (F3 ag A6)]
   .erw[(_,_,Z,λb o e=>?_,?_)]
    .erw[ne=Am e L,[Aq ne],s8 _ _ (S _ _ e)]
    .rw[Af,F9,ec,D4];rfl
 .erw[?σ n ac,AK ac λu2 u3 g S m=>?_,-ac,<-g];rw[C0,(A3e U),J7]at m;have W:n pt=n8 (.lst ((r.map BD).map V.str)):=by rw[m,N5];rfl
  have em:Str.ofString "; " = Rl:=by decide +kernel
  have l:JoinOk (Str.ofString "; ") (r.map BD)=o0:=by
   erw[Tx.OU 1000 (λt u=>?_) ?_]
   .erw[xea (F0.mp u) λc hc g=>?_,<-g,Mp (ho.ok c hc)]
   .rw[C0,em,show Rl.length=2 from rfl];lia
  erw[(Z,(xq1 Z (_,pt,(xq1 Z (Z,SqL.of W,l,?_))))),[em],k n S]
inductive aGD(vs:List V)(H:Hp)(Q:VK):Prop
|mk (q m:R_) (d:Bl) (ar:I_) (_:vs=[.ref q,.ref m]) (_:CV H q d) (_:d.ok) (_:H m=n8 (.lst (ar.map V.int))) (_:ar.length=8) (_:Q (.bl (d.holds ar)) H):aGD vs H Q
def aHX:Sp:=λvs H Q _=>aGD vs H Q
theorem aG1(F:Fun K "_law_holds" "_law_holds" IU f fd)(T:Top K mg a):AJ P w K mg n6 CX0 1 f fd Jh aHX:=by
 erw[F.ok DN D_9 λY A L s H vs Q E hr h=>?_]
 erw[(q,m,d,b,rfl,hd,ho,G,a8,k)=h,(_,(Ac (AS (Ay DR (Aj Ao pv0 Ae R_9) FC (AF _)) (Ac (BN A3g Z (Ce Z T.V_ (AN Ab)) (AV (i:=2) DN.nd Z O_9) (Ag (AS (PW.pt (NB (Ay IB (Aj Ar (Aj Ao pv0 Ae R_9) pv2 R_9) Ae (AF _)) (Lw (Ay IB (Aj Ar (Aj Ao pv0 Ae R_9) pv2 R_9) (Aj Ar pv1 pv2 R_9) (AF _))))) (Ag (Av JT)) Az))) (Ag (Av JT))) Az) (Ac (Ax 3 DN.nd Ae) (Ac (BN A3g Z (BH pv1) (AV (i:=4) DN.nd Z O_9) (Ag (AS (Ay DR pv4 (Aj Ao pv0 Ae R_9) (AF _)) (Ag (Ax 3 DN.nd (AE AO pv3 Ae))) Az))) (Ag (Av (FO NI pv3 (Aj Ao pv0 Ae R_9) Z)))))),?_)];cases hd with
 |@pl l c h C =>
  erw[(w8,hw)=ho,xwi Z Z Z (SqT.of h) (Ai (j:=0) Z) (Z,(xq1 Z ?_)),[aD4],Cy (8,Z,by decide,by decide,BX (n:=8) (λi σ r=>H=r/\(∃v,σ=[n8 (.ref q),n8 (.ref m),v,n9,n9])/\∀p∈(c.zip b).take i,Dq p.1 p.2=o0) (Z,(n9,Z),λp u=>by simp at u) ?_ ?_)]
  .erw[?i σ r hi M,(rfl,(v,rfl),no)=M,(I:i<c.length)=by lia]
   have X:i<b.length:=by lia
   have O:atI (c.map λw=>V.int (unO w)) (0+(i:Int))=n8 (V.int (unO c[i])):=by erw[[U6],Ai (by rw[C3,C7 I];rfl)]
   have eA:atI (b.map V.int) (0+(i:Int))=n8 (V.int b[i]):=by erw[[U6],Ai (by rw[C3,C7 X];rfl)]
   have R:(c.zip b)[i]?=n8 #[c[i],b[i]]:=by erw[[Z9],(C7 I,C7 X)]
   have tk:=Tl (hw c[i] (P2 I)) b[i];refine xwi Z Z Z (SqT.of h) (Ai (j:=1) Z) (xwi Z Z Z (SqL.of C) O (Z,(xq1 Z ?_)));rw[Jq];have nx:Dq c[i] b[i]=o0->(∃v,([n8 (.ref q),n8 (.ref m),n8 (.int (0+(i:Int))),n9,n9]:St)=[n8 (.ref q),n8 (.ref m),v,n9,n9])/\∀p∈(c.zip b).take (i+1),Dq p.1 p.2=o0:=λh=>((_,Z),λp u=>by
    rw[F9,R]at u;rcases J9.mp u with z|z
    .erw[no p z]
    .have:p=#[c[i],b[i]]:=by simpa using z
     rw[this];exact h)
   erw[(S:unO c[i]=8)]
   .rw[A2g S]at tk⊢;erw[Bj (Bj (Z,nx (by rw[tk];rfl)))]
   .rw[A3a S]at tk⊢;erw[Cy (xwi Z Z Z (SqT.of h) (Ai (j:=1) Z) (xwi Z Z Z (SqL.of C) O (xwj Z Z Z Z (SqL.of G) eA (Z,(xq1 Z ?_))))),[Jq],(U:unO c[i]=b[i])]
    .rw[A2g U]at tk⊢;erw[Bj (Z,nx (by rw[tk];rfl))]
    .rw[A3a U]at tk⊢;erw[Cy ?_];have e:Bl.holds b (.pl c)=o3:=by
      erw[(_:(c.zip b).all _=o3),[List.all_eq_false],(_,D0 R,by erw[[tk],F6])]
     rw[e]at k;erw[k]
  .erw[?σ r N,(rfl,(v,rfl),no)=N];have e:Bl.holds b (.pl c)=o0:=by
    erw[(_:(c.zip b).all _=o0),[U5],?p u,(l8:(c.zip b).length=8)=by rw[A0e];lia]
    rw[<-l8,J7]at no;erw[no p u]
   rw[e]at k;erw[k]
 |@am l st ns h C =>
  erw[xwi Z Z Z (SqT.of h) (Ai (j:=0) Z) (Z,(xq1 Z ?_)),[aD2],Bj (xq1 Z (m,Z,(_,SqL.of G),MY (xs:=b.map V.int) (λi σ r=>H=r/\∃v,σ=[n8 (.ref q),n8 (.ref m),n9,n8 (.int (((b.take i).countP (· == st):Nat):Int)),v]) (Z,n9,Z) (λi σ r _ z=>z.1▸SqL.of G) ?_ ?_))]
  .erw[?i x σ r W y,xa y λt o=>xe o λv g=>?_,-o,-y,<-t,<-g];rw[C3]at W;erw[xea (D7.mp W) λn en g=>?_,<-g];have e:(((b.take (i+1)).countP (· == st):Nat):Int)=(((b.take i).countP (· == st):Nat):Int)+(if n=st then 1 else 0):=by
    rw[F9,en,List.countP_append];by_cases h:n=st<;>simp[h]
   erw[xwj Z Z Z Z (SqT.of h) (Ai (j:=1) Z) (Z,(xq1 Z ?_)),LL (λD=>?_) (λD=>?_)]
   .have:n=st:=by
     have:=A4f D;injection this
    erw[xwb Z Z Z (Z,n8 (.int n),?_),[e,A2h this]];rfl
   .have:¬n=st:=λz=>D (A2g (by rw[z]));erw[(Z,n8 (.int n),?_),[e,A2f this,V9]];rfl
  .erw[?σ r B,xa B λt o=>xe o λv g=>?_,-o,-B,<-t,<-g,[C0,J7],xwj Z Z Z Z (SqT.of h) (Ai (j:=2) Z) (l,(xq1 Z (.inl (SqL.of C),Z,Rv _,?_))),(_:Q (.bl (inV _ _)) H),[SN],k]
inductive aGB(vs:List V)(H:Hp)(Q:VK):Prop
|mk (q m:R_) (r:Aw) (cell:Int) (ar:I_) (_:vs=[.ref q,.int cell,.ref m]) (_:LU H q r) (_:EC r) (_:H m=n8 (.lst (ar.map V.int))) (_:ar.length=8) (_:∀H',As H H'->Q (aGa (JE r cell ar)) H'):aGB vs H Q
def aHW:Sp:=λvs H Q _=>aGB vs H Q
theorem aG0(F:Fun K "_law_decides" "_law_decides" Gf f fd)(T:Top K mg a)(cF:Cal P w K mg n6 CX0 1 "_law_holds" Jh aHX):AJ P w K mg n6 CX0 2 f fd Gw aHW:=by
 erw[F.ok CY D_9 λac A X s H vs Q E hr h=>?_]
 erw[(q,m,r,cell,l,rfl,hR,ho,hm,a8,k)=h,xea hR.ex λcs W D=>?_,ln=A3e D,ad=ho.few,(_,(Ac (BN A3g Z (Ce Z T.V_ (Aa (AH Br Z T.j_ A5c (Aa pv0 Ab)) Ab)) (AV (i:=3) CY.nd Z O_9) (Ac (Ax 4 CY.nd (FO NI (Aj Ao (Aj Ar pv0 pv3 R_9) Ae R_9) (BO (Aa pv1 (AN Ab))) Z)) (Ac (BN A3g Z (BH (Aj Ao (Aj Ar pv0 pv3 R_9) Ae R_9)) (AV (i:=5) CY.nd Z O_9) (Ag (Ax 4 CY.nd (Mj pv4 (NE (AB cF hr (Aa pv5 (Aa pv2 Ab)))))))) (Ag (AS (Dk pv4) (Ag (Av pv3)) Az))))) (Ag (Av Dw))),?_),xq1 Z (q,(xq1 Z (.inl (SqL.of W),(xq1 Z (by rw[C0];lia,by rw[C0];lia,?_)))))];rw[show(((cs.map V.ref).length:Nat):Int).toNat=cs.length by rw[C0,M9]];erw[BX (n:=cs.length) (λi σ B=>As H B/\(∃Y u4 O:Option V,σ=[n8 (.ref q),n8 (.int cell),n8 (.ref m),Y,u4,O])/\∀c∈r.take i,c.fits cell l=o3) (As.refl H,(n9,n9,n9,Z),λc U=>by simp at U) ?_ ?_]
 .erw[?i σ B hi aa,(u,(Y,u4,O,rfl),no)=aa,C=C7 hi,xea (Paired.get D C) λc M U=>?_,oc=ho.ok c (D0 M),AK ((U.same u).ex) λcl ds h1 h2 h3=>?_,(eI:atI (cs.map V.ref) (0+(i:Int))=n8 (.ref cs[i]))=by erw[[U6],Ai (by rw[C3,C];rfl)]]
  erw[xwj Z Z Z Z (SqL.of (u _ _ W)) eI (xq4 Z Z (SqT.of h1) (Ai (j:=0) Z) (xq1 Z (S_2,λt ht=>(t,(xq1 Z (.inl (SqL.of Af),Z,Z,?_)))))),p=An (o:=.lst [.int cell,.int 8]) ht];have eb:inV (.int (unO c.cell)) [.int cell,.int 8]=Dq c.cell cell:=by
   have:=SN (unO c.cell) [cell,8];rw[show([cell,8]:I_).map V.int=[V.int cell,V.int 8]from rfl]at this;rw[this,Tl oc.cell];simp only[W6,List.any_nil,Bool.or_false];rw[show decide (cell=unO c.cell)=decide (unO c.cell=cell)from decide_eq_decide.mpr eq_comm,show decide (8=unO c.cell)=decide (unO c.cell=8)from decide_eq_decide.mpr eq_comm,Bool.or_comm]
  show(YD _ _) _ _ _;rw[eb];generalize upd B t (.lst [.int cell,.int 8])=R at p⊢;erw[xwj Z Z Z Z (SqL.of (p _ _ (u _ _ W))) eI (xq4 Z Z (SqT.of (p _ _ h1)) (Ai (j:=1) Z) (cl,Z,(_,SqL.of (p _ _ h2)),?_)),MY (xs:=ds.map V.ref) (λj σ L=>R=L/\∃v,σ=[n8 (.ref q),n8 (.int cell),n8 (.ref m),n8 (.int (0+(i:Int))),n8 (.bl (Dq c.cell cell && (c.conds.take j).all (Bl.holds l))),v]) (Z,O,by rw[List.take_zero,List.all_nil,Bool.and_true];rfl) (λj σ L _ z=>z.1▸SqL.of (p _ _ h2)) ?_ ?_]
  .erw[?j x σ L hx G,xa G λy g=>xe g λv b=>?_,-g,-G,<-y,<-b];rw[C3]at hx;erw[xea (D7.mp hx) λdq S b=>?_,<-b,xea (Paired.get h3 S) λd ed N=>xq1 Z (Pa (b2:=Bl.holds l d) (λ_ Q' q'=>(xw2 Z Z (dq,m,d,l,Z,N.same p,oc.conds d (D0 ed),p _ _ (u _ _ hm),a8,q'))) ?_),(Z,n8 (.ref dq),?_),[F9,ed,List.all_append,Bool.and_assoc],(_:_=[_,_,_,_,n8 (V.bl (Dq c.cell cell && ((c.conds.take j).all (Bl.holds l) && (Bl.holds l d && o0)))),_])]
   rw[Bool.and_true];rfl
  .erw[?σ L I,xa I λy g=>xe g λv b=>?_,-g,-I,<-y,<-b,ld=A3e h3,[C0,ld,J7],xw2 Z Z ?_,(_:if c.fits cell l=o0 then _ else _)];cases ef:c.fits cell l with
   |true =>
    erw[Cy (xq1 Z ?_)];have e:JE r cell l=n8 i:=by
     erw[¬JE,[V3],hi=(C2.mp M).1,(hi,?_,λj hj=>?_)]
     .erw[[(C2.mp M).2],ef]
     .have:=no r[j] (List.mem_take_iff_getElem.mpr (j,by lia,Z));erw[[this],F6]
    have:=k R (u.trans p);rw[e]at this;erw[(_:Q (.int (0+(i:Int))) R),[U6],this]
   |false =>
    erw[Bj (u.trans p,(_,_,_,Z),λd N=>?_)];rw[F9,M]at N;rcases J9.mp N with z|z
    .erw[no d z]
    .have:d=c:=by simpa using z
     erw[[this],ef]
 .erw[?σ B ab,(u,(Y,u4,O,rfl),no)=ab];rw[ln,J7]at no;have e:JE r cell l=n9:=by
   erw[¬JE,[X4],no]
  have:=k B u;rw[e]at this;erw[this]
inductive aF5(vs:List V)(H:Hp)(Q:VK):Prop
|mk (q m:R_) (r:Aw) (cell:Int) (ar:I_) (_:vs=[.ref q,.int cell,.ref m]) (_:LU H q r) (_:EC r) (_:H m=n8 (.lst (ar.map V.int))) (_:ar.length=8) (_:∀H',As H H'->Q (.int (CF r cell ar)) H'):aF5 vs H Q
def aFg:Sp:=λvs H Q _=>aF5 vs H Q
theorem aGu(F:Fun K "_law_becomes" "_law_becomes" Gh f fd)(T:Top K mg a)(y:Cal P w K mg n6 CX0 2 "_law_decides" Gw aHW):AJ P w K mg n6 CX0 3 f fd Gw aFg:=by
 erw[F.ok Jx D_9 λz A l s H vs Q E M h=>?_]
 erw[(q,m,r,cell,p,rfl,v,I,G,x,k)=h,(_,(Ac (Ax 3 Jx.nd (AB y M (Aa pv0 (Aa pv1 (Aa pv2 Ab))))) (Ac (AS (Ay Jl pv3 Dw (AF _)) (Ag (Av pv1)) Az) (Ag (Av (Aj Ao (Aj Ar pv0 pv3 R_9) Ae R_9))))),?_),xw3 Z Z Z (q,m,r,cell,p,Z,v,I,G,x,λo n=>?_),xq1 Z (Z,(xq1 Z ?_))];cases e:JE r cell p with
 |none =>
  erw[Cy (xq1 Z ?_)];have:=k o n;rw[Ng e]at this;erw[this]
 |some i =>
  erw[xea (Nf e) λc u B=>xea ((v.same n).ex) λcs L g=>?_];obtain⟨t,d⟩:∃t,cs[i]?=n8 t:=by
   erw[N=A3e g];have:i<cs.length:=by erw[[N],(C2.mp u).1]
   exact(_,C7 this)
  erw[xea (Paired.get g d) λO b D=>?_];rw[u]at b;erw[!b,BM D.ex λR ds C _=>Bj (xwj Z Z Z Z (SqL.of L) (Ai (by rw[C3,d];rfl)) (xq4 Z Z (SqT.of C) (Ai (j:=2) Z) ?_))];have:=k o n;rw[B]at this;erw[this]
end
theorem WD{ds:H_}{vs:I_}(h:vs≠[]):ds.map V.ref≠vs.map V.int:=λz=>by
 cases vs with
 |nil=>erw[h Z]
 |cons v r =>
  cases ds with
  |nil=>simp at z
  |cons d q=>simp at z
theorem CV.put{H:Hp}{l q:R_}{ds:H_}{o:HO}{d:Bl}(i:H l=n8 (.lst (ds.map V.ref)))(h:CV H q d)(ok:d.ok):CV (upd H l o) q d:=by
 have a:∀{b v},H b=n8 v->v≠.lst (ds.map V.ref)->upd H l o b=n8 v:=λ{b v} e n=>by erw[[Aq (AC e i n)],e]
 cases h with
 |@am j s ns h c=>erw[.am (a h A4) (a c λz=>WD ok.2.1 (HO.lst.inj z).symm)]
 |@pl j f h c =>
  erw[.pl (a h A4) (a c λz=>?_),g=(HO.lst.inj z).symm];rw[show(f.map λw=>V.int (unO w))=(f.map unO).map V.int by rw[N5];rfl]at g;erw[WD (ds:=ds) (λq=>?_) g];have:=A4e List.length q;rw[C0,ok.1]at this;cases this
theorem Paired.impMem{α β:Type}{F G:α->β->Prop}:∀{l:List α}{m:List β},(∀x y,y∈m->F x y->G x y)->Paired F l m->Paired G l m
|_,_,_,.nil=>.nil
|_,_,h,.cons r t=>.cons (h _ _ D5 r) (Paired.impMem (λx y a=>h x y (D6 _ a)) t)
theorem aBl{H a:Hp}{b:R_}(s:As H a)(h:a b=n9):H b=n9:=by
 cases e:H b with
 |none=>rfl
 |some o=>rw[s b o e]at h;cases h
def Mr(N:Addr->Prop)(H:Hp)(q:R_)(c:Ba):Prop:=∃(l:R_)(ds:H_),N l/\H q=n8 (.tup [.int (unO c.cell),.ref l,.int c.makes])/\H l=n8 (.lst (ds.map V.ref))/\Paired (CV H) ds c.conds
theorem Mr.at{q:R_}{c:Ba}(h:Mr N H q c):UX H q c:=by
 erw[BM h λl ds _ r=>(l,ds,r)]
theorem Mr.imp{N M:Addr->Prop}(nm:∀l,N l->M l){H:Hp}{q:R_}{c:Ba}(h:Mr N H q c):Mr M H q c:=by
 erw[BM h λl ds n r=>(l,ds,nm l n,r)]
theorem Mr.same{q:R_}{c:Ba}(s:As H a)(h:Mr N H q c):Mr N a q c:=by
 erw[CG h λl ds n b d e=>(l,ds,n,s _ _ b,s _ _ d,Paired.imp (λ_ _ z=>z.same s) e)]
theorem Mr.put{N:Addr->Prop}{a:R_}(i:¬N a){H:Hp}{q:R_}{c:Ba}{cs:H_}{o:HO}(d:H a=n8 (.lst (cs.map V.ref)))(h:Mr N H q c)(ok:c.ok):Mr N (upd H a o) q c:=by
 erw[CG h λl ds n b e f=>(l,ds,n,?_,?_,Paired.impMem (λx y g z=>z.put d (ok.conds y g)) f)]
 .erw[[Aq (AC b d A4)],b]
 .erw[[Aq (show l≠a from λz=>i (z▸n))],e]
def LM(N:Addr->Prop)(H:Hp)(q:R_)(r:Aw):Prop:=∃cs:List Addr,N q/\H q=n8 (.lst (cs.map V.ref))/\Paired (Mr N H) cs r
theorem LM.at{N:Addr->Prop}{H:Hp}{q:R_}{r:Aw}(h:LM N H q r):LU H q r:=by
 erw[AI h λcs _ a b=>(cs,a,Paired.imp (λ_ _ z=>z.at) b)]
theorem LM.imp{N M:Addr->Prop}(nm:∀l,N l->M l){H:Hp}{q:R_}{r:Aw}(h:LM N H q r):LM M H q r:=by
 erw[AI h λcs n a b=>(cs,nm _ n,a,Paired.imp (λ_ _ z=>z.imp nm) b)]
theorem LM.same{N:Addr->Prop}{H a:Hp}{q:R_}{r:Aw}(s:As H a)(h:LM N H q r):LM N a q r:=by
 erw[AI h λcs n b c=>(cs,n,s _ _ b,Paired.imp (λ_ _ z=>z.same s) c)]
theorem LM.put{N:Addr->Prop}{a:R_}(b:¬N a){H:Hp}{q:R_}{r:Aw}{cs:H_}{o:HO}(f:H a=n8 (.lst (cs.map V.ref)))(h:LM N H q r)(ok:∀c∈r,c.ok):LM N (upd H a o) q r:=by
 erw[AI h λcs n d e=>(cs,n,by erw[[Aq (show q≠a from λz=>b (z▸n))],d],Paired.impMem (λx y g z=>z.put b f (ok y g)) e)]
noncomputable def c00:Ba:=(n8 0,[.am 0 [8]],0)
theorem aEV:c00.ok where
 cell:=(by decide,by decide)
 makes:=(by decide,by decide)
 few:=by show 1<=50;decide
 conds:=λd a=>by
  erw[[C5.mp a],((by decide,by decide),by simp,λn b=>by erw[[C5.mp b],(by decide,by decide)],List.pairwise_singleton _ _)]
theorem aAy(r:Aw):CF (c00::r) 0 BE=0:=by
 erw[¬CF,[T1]];have:c00.fits 0 BE=o0:=by decide
 rw[this];rfl
section
variable{P:N_}{w:Q_}{K:O_}{mg:C_}{n6:T_}{a:Ad}
inductive aF8(vs:List V)(H:Hp)(Q:VK):Prop
|mk (m:R_) (sd j:Int) (_:vs=[.ref m,.int sd,.int j]) (_:Wb H m) (_:0<=j) (_:j<=800000) (_:∀(q l:R_)(ds:H_)(c:Ba)(H':Hp),As H H'->H l=n9->H' q=n8 (.tup [.int (unO c.cell),.ref l,.int c.makes])->H' l=n8 (.lst (ds.map V.ref))->Paired (CV H') ds c.conds->c.ok->Q (.ref q) H'):aF8 vs H Q
def aHT:Sp:=λvs H Q _=>aF8 vs H Q
theorem aGw(F:Fun K "_law_clause_by" "_law_clause_by" EI f fd)(T:Top K mg a)(R:Cal P w K mg n6 CX0 1 "_law_mix" EQ Rc)(aA:Cal P w K mg n6 CX0 1 "_law_state_by" OB ZU)(b6:Cal P w K mg n6 CX0 2 "_law_condition_by" DK aHU) :
 AJ P w K mg n6 CX0 3 f fd DK aHT:=by
 erw[F.ok Cu D_9 λac A ab s H vs Q E D h=>?_]
 erw[(m,G,j,rfl,(mx,my,X,hx,I),h0,h1,k)=h];let J1:St->Hp->Prop:=fun σ u=>∃x:Option Int,σ=[n8 (.ref m),n8 (.int G),n8 (.int j),n8 (.int (unO x)),n9,n9]/\wOk x/\H=u;erw[(_,(Ac (Ax 3 Cu.nd Ae) (Ac (aFZ J1 (Ay Ua (AE Bu (AB R D (Aa pv1 (Aa pv2 Ab))) Ae) Ae (AF _)) (Ag (Ax 3 Cu.nd (AB aA D (Aa pv0 (Aa (AB R D (Aa pv1 (AY AO pv2 Ae Ab))) Ab))))) Az) (Ac (Ax 4 Cu.nd (BO Ab)) (Ac (BN A3g Z (Ce Z T.V_ (AY Bu (AB R D (Aa pv1 (AY AO pv2 Ae Ab))) Ae Ab)) (AV (i:=5) Cu.nd Z O_9) (Ag (Bq (Dm A4a A4b A4c BI pv4 (Aa (AB b6 D (Aa pv0 (Aa pv1 (AY AO pv2 (AE Ec Ae (AE AO pv5 Ae)) Ab)))) Ab))))) (Ag (Av (Dv (Aa pv3 (Aa pv4 (Aa (AB aA D (Aa pv0 (Aa (AB R D (Aa pv1 (AY AO pv2 Ae Ab))) Ab))) Ab)))))))))),?_),((xw2 Z Z (G,j,Z,h0,by lia,λv hv=>(xq2 Z Z (B4,(xq2 Z Z (xq1 Z ?_)))))),?_)]
 .erw[LL (λ_=>?_) (λ_=>?_)]
  .erw[xq1 Z (xq1 Z (xq1 Z (xq2 Z Z (G,_,Z,by lia,by lia,λv2 aa=>(m,mx,my,v2,Z,X,hx,I,λd C=>(n8 d,Z,C,Z))))))]
  .exact(n9,Z,trivial,Z)
 .erw[?σ u M,AI M λx U ox g=>?_,-M,<-U,<-g,(S_0,λl W=>?_),xq1 Z (xq1 Z (xq2 Z Z (G,_,Z,by lia,by lia,λv hv=>?_))),xe (L6 (show 0<=v%4 by lia)) λn ad=>xq2 Z Z (B4,(xq1 Z (by lia,by lia,?_)))];rw[show(v%4).toNat=n by lia];erw[BX (n:=n) (λi σ u=>∃(ds:H_)(B:List Bl)(u7:Option V),σ=[n8 (.ref m),n8 (.int G),n8 (.int j),n8 (.int (unO x)),n8 (.ref l),u7]/\As H u/\u l=n8 (.lst (ds.map V.ref))/\Paired (CV u) ds B/\B.length=i/\∀d∈B,d.ok) ([],[],n9,Z,An W,Af,.nil,Z,λd C=>by simp at C) ?_ ?_]
  .erw[?i σ u hi N,Ch N λds B u7 g L c S p=>xa p λY r=>?_,-p,-N,<-g,xq1 Z (.inl (Z,_,SqL.of c),_,Z,_,Z,_,Z,_,Z,_,_,Z,Z,_,_,Z,Z,.inl (by decide,by decide),_,_,Z,Z,m,G,_,Z,(mx,my,L _ _ X,hx,I),by lia,by lia,λq d H3 t C od=>?_),(l,_,_,Z,Z,t _ _ c,by erw[[C0,(A3e S),Y],D8 hi (Jn A3)],?_),(ds++[q],B++[d],(xq1 Z (λb o e=>?_,?_,?_,by rw[D3,Y];rfl,λe he=>?_)))]
   .erw[[Aq (Am e W)],t _ _ (L _ _ e)]
   .rw[Af,D4];rfl
   .erw[A5d (Paired.impMem (λx' y I z=>(z.same t).put (t _ _ c) (r y I)) S) (C.put (t _ _ c) od)]
   .rcases J9.mp he with z|z
    .erw[r e z]
    .erw[[C5.mp z],od]
  .erw[?σ u O,Ch O λds B u7 g L c S p=>xa p λY r=>?_,-p,-O,<-g,xq1 Z (xq1 Z (xq1 Z (xq1 Z (xq1 Z (xq2 Z Z (G,_,Z,by lia,by lia,λv2 aa=>(m,mx,my,v2,Z,L _ _ X,hx,I,λd C=>(S_3,λq hq=>?_)))))))),t=An (o:=.tup [.int (unO x),.ref l,.int d]) hq,k q l ds (x,B,d) _ (L.trans t) W Af (t _ _ c) (Paired.imp (λ_ _ z=>z.same t) S) (ox,C,(by show B.length<=50;lia),r)]
inductive aGA(K:O_)(vs:List V)(H:Hp)(Q:VK):Prop
|mk (l:R_) (ns:I_) (ft mn:Int) (_:vs=[.ref l,.int ft,.int mn]) (_:SqL K H l (ns.map V.int)) (_:0<=ft) (_:0<=mn) (_:mn<=40) (_:∀(q:R_)(r:Aw)(H':Hp),As H H'->LM (λl=>H l=n9) H' q r->EC r->CF r 0 BE=0->mn<=r.length->r.length<=mn+1->Q (.ref q) H'):aGA K vs H Q
def aHV(K:O_):Sp:=λvs H Q _=>aGA K vs H Q
theorem aGy(F:Fun K "_law_clauses_by" "_law_clauses_by" Er f fd)(T:Top K mg a)(aF:Cal P w K mg n6 CX0 1 "_law_at" Za (aDH K))(bF:Cal P w K mg n6 CX0 3 "_law_clause_by" DK aHT)(aR:Cal P w K mg n6 CX0 3 "_law_becomes" Gw aFg) :
 AJ P w K mg n6 CX0 4 f fd Ex (aHV K):=by
 erw[F.ok Cj D_9 λak A aj s H vs Q E hr h=>?_]
 erw[(l,ns,B,mn,rfl,hS,h0,m0,ah,k)=h,(_,(Ac (Ax 3 Cj.nd (Dv (AY Bu (AB aF hr (Aa pv0 (Aa pv1 Ab))) Ae (AY Bu (AB aF hr (Aa pv0 (AY AO pv1 Ae Ab))) Ae Ab)))) (Ac (Ax 4 Cj.nd (BO Ab)) (Ac (BN A3g Z (Ce Z T.V_ (Aa pv2 Ab)) (AV (i:=5) Cj.nd Z O_9) (Ag (Bq (Dm A4a A4b A4c BI pv4 (Aa (AB bF hr (Aa pv3 (Aa (AB aF hr (Aa pv0 (AY AO (AE AO pv1 Ae) pv5 Ab))) (AY Ec Ae pv5 Ab)))) Ab))))) (Ac (AS (Ay IB (AB aR hr (Aa pv4 (AN (Vk (AN (AN (AN (AN (AN (AN (AN (AN Ab)))))))) Ab)))) Ae (AF _)) (Ag (Ax 4 Cj.nd (AE Vn (BO (Bb (AN (Vk (Bb (PH (AN (Vk (AN Ab) Ab))) Ab) (AN Ab))) Ab)) pv4))) Az) (Ag (Av pv4)))))),?_),xw2 Z Z (l,ns,B,Z,hS,h0,?_),xq2 Z Z (B6,(xq1 Z ?_)),xq1 Z (xq2 Z Z (l,ns,_,Z,hS,by lia,?_)),(_,_,Z,Z,B6,S_2,λm hm=>?_),s1=An (o:=.tup [.int (atN ns B%8),.int (atN ns (B+1)%8)]) hm,(hM:Wb (upd H m (.tup [.int (atN ns B%8),.int (atN ns (B+1)%8)])) m)=(_,_,Af,(T4 _ A6,R9 _ A6),(T4 _ A6,R9 _ A6))]
 erw[v=s1,(_:(YD _ _) _ _ (upd H m (.tup [.int (atN ns B%8),.int (atN ns (B+1)%8)])))];generalize upd H m (.tup [.int (atN ns B%8),.int (atN ns (B+1)%8)])=H1 at s1 v hM⊢;erw[(S_0,λp R=>?_),xe (L6 m0) λn af=>?_,<-af,xw2 Z Z (by lia,Int.lt_of_le_of_lt ah A6,?_),[M9],BX (n:=n) (λi σ S=>∃(cs:H_)(r:Aw)(u5:Option V),σ=[n8 (.ref l),n8 (.int B),n8 (.int n),n8 (.ref m),n8 (.ref p),u5]/\As H1 S/\S p=n8 (.lst (cs.map V.ref))/\Paired (Mr (λl=>l≠p/\H l=n9) S) cs r/\r.length=i/\∀c∈r,c.ok) ([],[],n9,Z,An R,Af,.nil,Z,λd hd=>by simp at hd) ?_ ?_]
 .erw[?i σ S hi ad,Ch ad λcs r u5 N W g pr x=>xa x λhn u=>?_,-x,-ad,<-N,xq1 Z (.inl (Z,_,SqL.of g),_,Z,_,Z,_,Z,_,_,Z,Z,_,Z,_,_,Z,Z,l,ns,_,Z,((v.trans W).seq hS),by lia,_,Z,_,_,Z,Z,.inl (by decide,by decide),m,_,_,Z,hM.same W,by lia,by lia,λq l' ds c H3 I nl e1 e2 e3 oc=>?_),(p,_,_,Z,Z,I _ _ g,by erw[[C0,(A3e pr),hn],D8 hi (Jn A3)],?_),(ai:l'≠p/\H l'=n9)=((λz=>by rw[z,g]at nl;cases nl),aBl (v.trans W) nl)]
  erw[(nc:¬(p≠p/\H p=n9))=λz=>z.1 Z,(cs++[q],r++[c],(xq1 Z (λb o e=>?_,?_,?_,by rw[D3,hn];rfl,λe he=>?_)))]
  .erw[[Aq (Am e R)],I _ _ (W _ _ e)]
  .rw[Af,D4];rfl
  .erw[A5d (Paired.impMem (λx' y hy z=>(z.same I).put nc (I _ _ g) (u y hy)) pr) (Mr.put nc (I _ _ g) (l',ds,ai,e1,e2,e3) oc)]
  .rcases J9.mp he with z|z
   .erw[u e z]
   .erw[[C5.mp z],oc]
 .erw[?σ S ae,Ch ae λcs r u5 N W g pr x=>xa x λhn u=>?_,-x,-ae,<-N,(hR:LM (λl=>H l=n9) S p r)=(cs,aBl v R,g,Paired.imp (λ_ _ z=>z.imp λ_ z=>z.2) pr)]
  have rk:EC r:=(by lia,u)
  erw[xq1 Z ((by show 8<=sizeLine;decide),λz8 ag=>?_),I=An (o:=.lst (BE.map V.int)) ag,(p,z8,r,0,BE,Z,hR.at.same I,rk,Af,Z,λH4 s4=>?_),G=((v.trans W).trans I).trans s4,Y=(hR.same I).same s4,(Z,(xq1 Z ?_)),[Jq],(hz:CF r 0 BE=0)]
  .erw[[A2g hz],Bj (xq1 Z (k p r H4 G Y rk hz A3 A3))]
  .erw[[A3a hz],Cy ?_,(S_1,λb1 aa=>(S_3,λb2 O=>(S_1,λU C=>(S_3,λM D=>(S_1,λb5 t=>?_)))))];generalize j:upd (upd (upd (upd (upd H4 b1 (.lst [.int 8])) b2 (.tup [.str (Str.ofString "amount"),.int 0,.ref b1])) U (.lst [.ref b2])) M (.tup [.int 0,.ref U,.int 0])) b5 (.lst [.ref M])=L;have s5:As H4 L:=by erw[[-j],(((An aa).trans (An O)).trans (An C)).trans ((An D).trans (An t))]
   have e1:L b1=n8 (.lst [.int 8]):=by erw[[-j],An t _ _ (An D _ _ (An C _ _ (An O _ _ Af)))]
   have e2:L b2=n8 (.tup [.str (Str.ofString "amount"),.int 0,.ref b1]):=by erw[[-j],An t _ _ (An D _ _ (An C _ _ Af))]
   have e3:L U=n8 (.lst [.ref b2]):=by erw[[-j],An t _ _ (An D _ _ Af)]
   have e4:L M=n8 (.tup [.int 0,.ref U,.int 0]):=by erw[[-j],An t _ _ Af]
   have e5:L b5=n8 (.lst [.ref M]):=by erw[[-j],Af]
   erw[AI (Y.same s5) λX _ ab ac=>?_,al=A3e ac,xq1 Z (b5,p,(xq2 Z Z (e5,ab,Jn (by simp only[F2,T0,C0];lia),λq hq=>?_))),s6=An (o:=.lst ([V.ref M]++X.map V.ref)) hq,(n3:H U=n9)=aBl G (aBl ((An aa).trans (An O)) C),(c0:Mr (λl=>H l=n9) L M c00)=(U,[b2],n3,e4,e3,.cons (.am (ns:=[8]) e2 e1) .nil)]
   erw[xq1 Z (k q (c00::r) _ ((G.trans s5).trans s6) (M::X,aBl (G.trans s5) hq,Af,.cons (c0.same s6) (Paired.imp (λ_ _ z=>z.same s6) ac)) (by rw[F2];lia,λc hc=>?_) (aAy r) (by rw[F2];lia) (by rw[F2];lia))];rcases C4.mp hc with z|z
   .erw[[z],aEV]
   .erw[u c z]
end
theorem As.noneN(s:As H a)(n:a x=n9):H x=n9:=by
 cases e:H x with
 |none=>rfl
 |some o=>rw[s _ _ e]at n;cases n
theorem WQ{T:St->Hp->Prop}{C:Prop}(P:St->Hp->Prop)(h:(∀σ H,P σ H->T σ H)->C)(k:∀σ H,P σ H->T σ H):C:=h k
structure MA where
tp:Addr
l:Addr
kc:Addr
ds:List Addr
noncomputable def jf2(gp mem:R_):List (Str×V):=AU "memories" (.ref mem) (AU "grove" (.ref gp) [])
noncomputable def jf5(gp mem pr l kc:R_):List (Str×V):=AU "known_cells" (.ref kc) (AU "known_squares" (.ref l) (AU "rule" (.ref pr) (jf2 gp mem)))
theorem aCZ(a mem:R_):(jf2 a mem).lookup ("memories" : Str)=n8 (V.ref mem):=by
 erw[¬jf2,[Ak,A2h rfl]]
theorem aBL(a mem:R_)(b:¬m=("memories" : Str))(c:¬m=("grove" : Str)):(jf2 a mem).lookup m=n9:=by
 erw[¬jf2,[Ak,A2f b,Ak,A2f c]];rfl
section
variable(gp mem pr l kc:R_)
theorem aBM:(jf5 gp mem pr l kc).lookup ("known_cells" : Str)=n8 (V.ref kc):=by
 erw[¬jf5,[Ak,A2h rfl]]
theorem aBN:(jf5 gp mem pr l kc).lookup ("known_squares" : Str)=n8 (V.ref l):=by
 erw[¬jf5,[Ak,A2f A0,Ak,A2h rfl]]
theorem aEk:(jf5 gp mem pr l kc).lookup ("rule" : Str)=n8 (V.ref pr):=by
 erw[¬jf5,[Ak,A2f A0,Ak,A2f A0,Ak,A2h rfl]]
theorem aCa:(jf5 gp mem pr l kc).lookup ("memories" : Str)=n8 (V.ref mem):=by
 erw[¬jf5 jf2,[Ak,A2f A0,Ak,A2f A0,Ak,A2f A0,Ak,A2h rfl]]
theorem EA:(jf5 gp mem pr l kc).lookup ("grove" : Str)=n8 (V.ref gp):=by
 erw[¬jf5 jf2,[Ak,A2f A0,Ak,A2f A0,Ak,A2f A0,Ak,A2f A0,Ak,A2h rfl]]
theorem Jo(a:¬m=("known_cells" : Str))(b:¬m=("known_squares" : Str))(c:¬m=("rule" : Str))(d:¬m=("memories" : Str))(e:¬m=("grove" : Str)):(jf5 gp mem pr l kc).lookup m=n9:=by
 erw[¬jf5,[Ak,A2f a,Ak,A2f b,Ak,A2f c,aBL _ _ d e]]
theorem Vq:(jf5 gp mem pr l kc).lookup ("change" : Str)=n9:=Jo _ _ _ _ _ A0 A0 A0 A0 A0
theorem YU:(jf5 gp mem pr l kc).lookup ("after" : Str)=n9:=Jo _ _ _ _ _ A0 A0 A0 A0 A0
theorem YT:(jf5 gp mem pr l kc).lookup ("check_jump" : Str)=n9:=Jo _ _ _ _ _ A0 A0 A0 A0 A0
theorem MP:(jf5 gp mem pr l kc).lookup ("reckoned" : Str)=n9:=Jo _ _ _ _ _ A0 A0 A0 A0 A0
theorem YS:(jf5 gp mem pr l kc).lookup ("fresh" : Str)=n9:=Jo _ _ _ _ _ A0 A0 A0 A0 A0
theorem aBk:(jf5 gp mem pr l kc).lookup ("four_halfway" : Str)=n9:=Jo _ _ _ _ _ A0 A0 A0 A0 A0
theorem aCn:(jf5 gp mem pr l kc).lookup ("middle_after" : Str)=n9:=Jo _ _ _ _ _ A0 A0 A0 A0 A0
theorem aBj:(jf5 gp mem pr l kc).lookup ("cell_after" : Str)=n9:=Jo _ _ _ _ _ A0 A0 A0 A0 A0
theorem aHI(h:¬g=f):AU f v (#[g,x]::r)=#[g,x]::AU f v r:=A2f h
theorem aHH:AU f v (#[f,x]::r)=#[f,v]::r:=A2h Z
theorem aHJ:AU f v []=[#[f,v]]:=rfl
theorem SM:jf5 gp mem pr l kc=[#[("grove" : Str),V.ref gp],#[("memories" : Str),V.ref mem],#[("rule" : Str),V.ref pr],#[("known_squares" : Str),V.ref l],#[("known_cells" : Str),V.ref kc]]:=by
 unfold jf5 jf2
 repeat first|rw[aHI A0]|rw[aHH]|rw[aHJ]
theorem aCb(b c a:R_):AU "known_cells" (.ref a) (AU "known_squares" (.ref c) (AU "rule" (.ref b) (jf5 gp mem pr l kc)))=jf5 gp mem b c a:=by
 rw[SM,SM]
 repeat first|rw[aHI A0]|rw[aHH]|rw[aHJ]
end
inductive Nv:HO->Prop
|tup {xs:List V}:Nv (.tup xs)
|ins {C dx:R_} {fs:List (Str×V)} (h1:1<=fs.length) (h2:fs.length<=3):Nv (.ins C dx fs)
theorem ON(f:Str)(v:V):∀fs:List (Str×V),1<=(AU f v fs).length
|[]=>C1 1
| (g,x)::r=>by
 unfold AU;split
 .erw[[F2],P4 _ _]
 .erw[[F2],P4 _ _]
theorem DM.kp{c:Bl}(k:∀b o,H b=n8 o->Nv o->e b=n8 o)(h:DM a H p c):DM a e p c:=by
 cases h with
 |am h d=>erw[.am (k _ _ h (.ins (ON _ _ _) (C9 (BK _ _ _) (R3 (C9 (BK _ _ _) (by show 0+1<=2;decide)))))) (k _ _ d .tup)]
 |pl h d=>erw[.pl (k _ _ h (.ins (ON _ _ _) (C9 (BK _ _ _) (by show 0+1<=3;decide)))) (k _ _ d .tup)]
theorem Cm.kp{c:Ba}(k:∀b o,H b=n8 o->Nv o->d b=n8 o)(h:Cm a H p c):Cm a d p c:=by
 erw[Dl h.ex λe t cs f g i=>(e,t,cs,k _ _ f (.ins (ON _ _ _) (C9 (BK _ _ _) (R3 (C9 (BK _ _ _) (R3 (C9 (BK _ _ _) (by show 0+1<=1;decide))))))),k _ _ g .tup,Paired.imp (λ_ _ z=>z.kp k) i)]
theorem BL.kp{H c:Hp}(k:∀b o,H b=n8 o->Nv o->c b=n8 o)(h:BL a H p x r):BL a c p x r:=by
 erw[Dl h.ex λd t cs e f g=>(d,t,cs,k _ _ e (.ins (ON _ _ _) (C9 (BK _ _ _) (R3 (C9 (BK _ _ _) (by show 0+1<=2;decide))))),k _ _ f .tup,Paired.imp (λ_ _ z=>z.kp k) g)]
noncomputable def mK(ms:List (Str×MA)):List (Key×V):=ms.map λe=>#[Sum.inr e.1,V.ref e.2.tp]
theorem WP(t:Str):∀a:List (Str×MA),(∃m,#[t,m]∈a/\BQ (mK a) (Sum.inr t)=n8 (.ref m.tp))\/(BQ (mK a) (Sum.inr t)=n9/\∀e∈a,e.1≠t)
|[]=>.inr (Z,λe d=>nomatch d)
|e::r=>by
 erw[(h:e.1=t)]
 .erw[.inl (e.2,?_,?_)]
  .erw[[-h],D5]
  .erw[BZ (p:=#[Sum.inr e.1,V.ref e.2.tp]) (r:=mK r) (by rw[h])]
 .erw[n=BF (p:=#[Sum.inr e.1,V.ref e.2.tp]) (r:=mK r) λz=>h (Sum.inr.inj z)];rcases WP t r with ⟨m,b,c⟩|⟨b,c⟩
  .erw[.inl (m,D6 _ b,n.trans c)]
  .erw[.inr (n.trans b,λx f=>?_)];rcases C4.mp f with z|z
   .erw[[z],h]
   .erw[c x z]
inductive ZA(H H':Hp)(t:Str)(ms ms':List (Str×MA))(m:MA):Prop
|old (_:#[t,m]∈ms) (_:ms'=ms):ZA H H' t ms ms' m
|new (_:ms'=ms++[#[t,m]]) (_:∀e∈ms,e.1≠t) (_:H m.tp=n9/\H m.l=n9/\H m.kc=n9/\∀d∈m.ds,H d=n9) (_:H' m.tp=n8 (.tup [.ref m.l,.ref m.kc])) (_:H' m.l=n8 (.lst (m.ds.map V.ref))) (_:H' m.kc=n8 (.dT [])) (_:∀d∈m.ds,H' d=n8 (.dK [])) (_:m.ds.length=47) (_:m.ds.Nodup):ZA H H' t ms ms' m
section
variable{P:N_}{w:Q_}{K:O_}{mg:C_}{n6:T_}{a:Ad}
inductive aAk(a:Ad)(vs:List V)(H:Hp)(Q:VK):Prop
|mk (p:R_) (t:Str) (r:Aw) (_:vs=[.ref p]) (_:BL a H p t r) (_:Q (.str t) H):aAk a vs H Q
def Vc(a:Ad):Sp:=λvs H Q _=>aAk a vs H Q
theorem aC3(F:Fun K "shown_rule" "shown_rule" IO f fd)(T:Top K mg a):AJ P w K mg n6 CX0 1 f fd Sr (Vc a):=by
 erw[F.ok QD D_9 λc A b s H vs Q E l h=>?_]
 erw[(p,t,r,rfl,e,k)=h,Dl e.ex λg m cs d i j=>(_,(Ag (Av (AA pv0 Z))),?_)]
 erw[xwf Z Z d T.aAG T.aAI (aA8 A0) k]
inductive Yr(a:Ad)(vs:List V)(H:Hp)(Q:VK):Prop
|mk (p dx mem pr:R_) (fs:List (Str×V)) (t:Str) (r:Aw) (ms:List (Str×MA)) (_:vs=[.ref p,.ref pr]) (_:H p=n8 (.ins a.J5 dx fs)) (_:fs.lookup ("memories" : Str)=n8 (.ref mem)) (_:fs.length<=10) (_:H mem=n8 (.dK (mK ms))) (_:ms.length<=1000) (_:∀e∈ms,H e.2.tp=n8 (.tup [.ref e.2.l,.ref e.2.kc])) (_:BL a H pr t r) (_:∀(H':Hp)(m:MA)(ms':List (Str×MA)),(∀b o,H b=n8 o->b≠p->b≠mem->H' b=n8 o)->H' p=n8 (.ins a.J5 dx (AU "known_cells" (.ref m.kc) (AU "known_squares" (.ref m.l) (AU "rule" (.ref pr) fs))))->H' mem=n8 (.dK (mK ms'))->ZA H H' t ms ms' m->Q .non H'):Yr a vs H Q
def Wu(a:Ad):Sp:=λvs H Q _=>Yr a vs H Q
theorem aE1(F:Fun K "change" "Jumps.change" Eu f fd)(T:Top K mg a)(cC:Cal P w K mg n6 CX0 1 "shown_rule" Sr (Vc a)):AJ P w K mg n6 CX0 2 f fd Ez (Wu a):=by
 erw[F.ok Jy D_9 λa1 A az s H vs Q E hr h=>?_]
 erw[(p,L,mem,B,fs,t,r,M,rfl,hp,C,au,hm,few,ae,hR,k)=h,(_,(Ac (Ax 2 Jy.nd (AB cC hr (Aa pv1 Ab))) (Ac (AS (aFa (YJ (Ei hr) pv2 (AA pv0 Z))) (Ag (FN (Ei hr) (AA pv0 Z) pv2 (Dv (Aa (Cc Z (Bd.of (So:=Ah Eu) (No:=Li) (N:=["e"]) (k:=1) (cs:=[]) Z Z A0) (Ce Z T.V_ (AY Cs (Co Z T.aAC) Ae Ab)) (λ_ _ _=>(AW (i:=0) A0 Z Z)) (λ_ _ _=>Be) (λ_ _ _=>ML)) (Aa MK Ab))) Z)) Az) (Ac (CT pv0 pv1 Z) (Ac (CT pv0 (Aj Ao (Sh (Ei hr) (AA pv0 Z) pv2 R_9) Ae R_9) Z) (Ag (CT pv0 (Aj Ao (Sh (Ei hr) (AA pv0 Z) pv2 R_9) Ae R_9) Z)))))),?_),S=AC hp hm A4,xq1 Z (B,t,r,Z,hR,?_)];apply WQ (fun σ W=>σ=[n8 (.ref p),n8 (.ref B),n8 (.str t)]/\∃(m:MA)(G:List (Str×MA)),(∀b o,H b=n8 o->b≠mem->W b=n8 o)/\W mem=n8 (.dK (mK G))/\BQ (mK G) (Sum.inr t)=n8 (.ref m.tp)/\W m.tp=n8 (.tup [.ref m.l,.ref m.kc])/\ZA H W t M G m/\m.tp≠p/\(H m.tp=n9->m.l≠p/\m.kc≠p/\∀d∈m.ds,d≠p))
 .erw[?U,xw2 Z Z (xq5 hp T.L4 T.W_ C (mem,(xq1 Z (GL.k (k:=Sum.inr t) hm,(xq1 Z ?_)))))];rcases WP t M with ⟨m,m1,m2⟩|⟨no,nk⟩
  .erw[[m2],Bj (U _ _ (Z,m,M,λb o e _=>e,hm,m2,ae _ m1,.old m1 Z,AC (ae _ m1) hp A4,λz=>?_))];rw[ae _ m1]at z;cases z
  .erw[[no],Cy (xq2 Z Z (xq1 Z (by decide,by decide,?_))),RD (n:=47) (λi Y X=>As H X/\∃ds:List Addr,Y=ds.map V.ref/\ds.length=i/\(∀d∈ds,X d=n8 (.dK []))/\(∀d∈ds,H d=n9)/\ds.Nodup) (As.refl H,[],Z,Z,λd c=>(nomatch c),λd c=>(nomatch c),.nil) ?_ ?_]
   .erw[?i Y X hi ar,JC ar λsm ds aa I=>xa3 I λln c1 c2 nd=>?_,-I,-ar,<-aa,(([n8 (.int (0+(i:Int)))],Z,Z),?_,EF λd c=>(sm.trans (An c),ds++[d],by rw[D4];rfl,by rw[D3,ln];rfl,λx hx=>?_,λx hx=>?_,?_))]
    .erw[[C0,ln],D8 hi A6]
    .rcases J9.mp hx with z|z
     .erw[An c _ _ (c1 x z)]
     .erw[[C5.mp z],Af]
    .rcases J9.mp hx with z|z
     .erw[c2 x z]
     .erw[[C5.mp z],As.noneN sm c]
    .erw[[Q6],(nd,by simp,λx hx y hy z=>?_)];rw[C5.mp hy]at z;rw[<-z,c1 x hx]at c;cases c
   .erw[?Y X as l hl,JC as λsm ds aa I=>xa3 I λln c1 c2 nd=>?_,-I,-as,<-aa];generalize af:upd X l _=H3;erw[(s3,aw)=alc hl af,?v ah];generalize ag:upd H3 v _=H4;erw[(s4,av)=alc ah ag,(S_2,λg ao=>?_),(_:∃_,_)];generalize dQ:upd H4 g _=H5;erw[(s5,an)=alc ao dQ,n1=As.noneN sm hl,n2=As.noneN (sm.trans s3) ah,n3=As.noneN ((sm.trans s3).trans s4) ao,ad=((sm.trans s3).trans s4).trans s5,xwf Z Z (ad _ _ hp) T.L4 T.W_ C (xq1 Z (mem,(xq1 Z (Mt.k (k:=Sum.inr t) (ad _ _ hm) ?_,?_))))]
    .erw[¬mK,[C0],F3 few A6]
    .erw[[MG _ no],(e6:mK M++[#[Sum.inr t,V.ref g]]=mK (M++[#[t,(g,l,v,ds)]]))=by erw[¬mK,[D4]];rfl]
     erw[[e6],(k6:∀b o,H5 b=n8 o->b≠mem->upd H5 mem (.dK (mK (M++[#[t,(g,l,v,ds)]]))) b=n8 o)=λb o e n=>by erw[[Aq n],e]]
     have ak:upd H5 mem (.dK (mK (M++[#[t,(g,l,v,ds)]]))) mem=n8 (.dK (mK (M++[#[t,(g,l,v,ds)]]))):=Af;generalize upd H5 mem (.dK (mK (M++[#[t,(g,l,v,ds)]])))=H6 at k6 ak⊢;have nm:∀{x:R_},H x=n9->x≠mem:=λz y=>by rw[y,hm]at z;cases z
     have np:∀{x:R_},H x=n9->x≠p:=λz y=>by rw[y,hp]at z;cases z
     erw[U _ _ (Z,(g,l,v,ds),M++[#[t,(g,l,v,ds)]],λb o e n=>k6 _ _ (ad _ _ e) n,ak,?_,k6 _ _ an (nm n3),.new Z nk (n3,n1,n2,c2) (k6 _ _ an (nm n3)) (k6 _ _ (s5 _ _ (s4 _ _ aw)) (nm n1)) (k6 _ _ (s5 _ _ av) (nm n2)) (λd c=>k6 _ _ (s5 _ _ (s4 _ _ (s3 _ _ (c1 d c)))) (nm (c2 d c))) ln nd,np n3,λ_=>(np n1,np n2,λd c=>np (c2 d c))),[-e6],[RL no],BZ Z]
 erw[?σ W a0,(rfl,m,G,k1,ai,vv,ay,chg,ac,aq)=a0,al=k1 _ _ hp S,(lf:fs.length<1000)=F3 au A6,(put:∀{Hk:Hp}{fs':List (Str×V)}(q:List (Str×V)),Hk p=n8 (.ins a.J5 L fs')->(∀b o,Hk b=n8 o->b≠p->upd Hk p (.ins a.J5 L q) b=n8 o)/\upd Hk p (.ins a.J5 L q) p=n8 (.ins a.J5 L q))=λ{Hk fs'} q e=>(λb o e n=>by erw[[Aq n],e],Af)]
 erw[xw2 Z Z (p,_,L,fs,Z,al,T.L4,T.aAF,lf,?_),(k2,O)=put (AU "rule" (.ref B) fs) al];generalize upd W p (.ins a.J5 L (AU "rule" (.ref B) fs))=X at k2 O⊢;erw[l2=BK ("rule" : Str) (.ref B) fs,(D:(AU "rule" (.ref B) fs).lookup ("memories" : Str)=n8 (.ref mem))=by erw[[Ak,A2f A0],C]]
 erw[aj=k2 _ _ ai (A3f S),am=k2 _ _ ay ac,xwf Z Z O T.L4 T.W_ D (xq1 Z (mem,.ref m.tp,Z,vv▸GL.k (k:=Sum.inr t) aj,(xq4 Z Z (SqT.of am) (Ai (j:=0) Z) (xq1 Z (p,_,L,(xq1 Z (O,T.L4,T.X_,by lia,?_))))))),(k3,R)=put (AU "known_squares" (.ref m.l) (AU "rule" (.ref B) fs)) O];generalize upd X p (.ins a.J5 L (AU "known_squares" (.ref m.l) (AU "rule" (.ref B) fs)))=H3 at k3 R⊢;erw[l3=BK ("known_squares" : Str) (.ref m.l) (AU "rule" (.ref B) fs),(ab:(AU "known_squares" (.ref m.l) (AU "rule" (.ref B) fs)).lookup ("memories" : Str)=n8 (.ref mem))=by erw[[Ak,A2f A0],D]]
 erw[xwf Z Z R T.L4 T.W_ ab (xq1 Z (mem,.ref m.tp,Z,vv▸GL.k (k:=Sum.inr t) (k3 _ _ aj (A3f S)),(xq4 Z Z (SqT.of (k3 _ _ am ac)) (Ai (j:=1) Z) (xq1 Z (p,_,L,(xq1 Z (R,T.L4,T.Z_,by lia,?_))))))),(k4,ax)=put (AU "known_cells" (.ref m.kc) (AU "known_squares" (.ref m.l) (AU "rule" (.ref B) fs))) R,(u:∀b o,W b=n8 o->b≠p->upd H3 p (.ins a.J5 L (AU "known_cells" (.ref m.kc) (AU "known_squares" (.ref m.l) (AU "rule" (.ref B) fs)))) b=n8 o)=λb o e n=>k4 _ _ (k3 _ _ (k2 _ _ e n) n) n,k _ m G (λb o e n1 n2=>u _ _ (k1 _ _ e n2) n1) ax (u _ _ ai (A3f S)) ?_];cases chg with
 |old h1 h2=>erw[.old h1 h2]
 |new h1 h2 h3 h4 h5 h6 h7 h8 h9 =>
  erw[xa2 (aq h3.1) λy1 y2 y3=>.new h1 h2 h3 (u _ _ h4 ac) (u _ _ h5 y1) (u _ _ h6 y2) (λd c=>u _ _ (h7 d c) (y3 d c)) h8 h9]
inductive Td(a:Ad)(vs:List V)(H:Hp)(Q:VK):Prop
|mk (p dx gp pr:R_) (t:Str) (r:Aw) (_:vs=[.ref p,.ref gp,.ref pr]) (_:H p=n8 (.ins a.J5 dx [])) (_:BL a H pr t r) (_:∀(H':Hp)(mem:R_)(m:MA),(∀b o,H b=n8 o->b≠p->H' b=n8 o)->H mem=n9->H' p=n8 (.ins a.J5 dx (jf5 gp mem pr m.l m.kc))->H' mem=n8 (.dK (mK [#[t,m]]))->(H m.tp=n9/\H m.l=n9/\H m.kc=n9/\∀d∈m.ds,H d=n9)->H' m.tp=n8 (.tup [.ref m.l,.ref m.kc])->H' m.l=n8 (.lst (m.ds.map V.ref))->H' m.kc=n8 (.dT [])->(∀d∈m.ds,H' d=n8 (.dK []))->m.ds.length=47->m.ds.Nodup->(∀d∈m.ds,d≠mem)->Q .non H'):Td a vs H Q
def RT(a:Ad):Sp:=λvs H Q _=>Td a vs H Q
theorem aBw(F:Fun K "__init__" "Jumps.__init__" IV f fd)(T:Top K mg a)(aQ:BY P w K mg n6 CX0 2 a.J5 "change" Ez (Wu a)):AJ P w K mg n6 CX0 3 f fd SD (RT a):=by
 erw[F.ok QG D_9 λaa A R s H vs Q E hr h=>?_]
 erw[(p,i,g,Y,t,r,rfl,W,hR,k)=h,(_,(Ac (CT pv0 pv1 Z) (Ac (CT pv0 ML Z) (Ag (Bq (AD pv0 aQ (rm hr) AQ (Aa pv2 Ab)))))),?_),xw2 Z Z (p,_,i,[],Z,W,T.L4,T.M3,B5,?_),(X:∀b o,H b=n8 o->b≠p->upd H p (.ins a.J5 i (AU "grove" (.ref g) [])) b=n8 o)=λb o e n=>by erw[[Aq n],e]]
 have l:upd H p (.ins a.J5 i (AU "grove" (.ref g) [])) p=n8 (.ins a.J5 i (AU "grove" (.ref g) [])):=Af;have D:∀b,upd H p (.ins a.J5 i (AU "grove" (.ref g) [])) b=n9->H b=n9:=λb e=>by
  erw[(z:b=p)]
  .rw[z,l]at e;cases e
  .rw[Aq z]at e;erw[e]
 generalize upd H p (.ins a.J5 i (AU "grove" (.ref g) []))=H1 at X l D⊢;intro mem c;generalize dX:upd H1 mem _=u;erw[(S,L)=alc c dX,(O:mem≠p)=λz=>by rw[z,l]at c;cases c]
 erw[xq1 Z (p,_,i,(xq1 Z (S _ _ l,T.L4,T.W_,B9,?_))),(N:∀b o,u b=n8 o->b≠p->upd u p (.ins a.J5 i (jf2 g mem)) b=n8 o)=λb o e n=>by erw[[Aq n],e]]
 have q:upd u p (.ins a.J5 i (jf2 g mem)) p=n8 (.ins a.J5 i (jf2 g mem)):=Af;have j:∀b,upd u p (.ins a.J5 i (jf2 g mem)) b=n9->H b=n9:=λb e=>by
  erw[(z:b=p)]
  .rw[z,q]at e;cases e
  .rw[Aq z]at e;erw[D _ (As.noneN S e)]
 rw[show AU ("memories" : Str) (V.ref mem) (AU ("grove" : Str) (V.ref g) [])=jf2 g mem from rfl];generalize upd u p (.ins a.J5 i (jf2 g mem))=U at N q j⊢;erw[(C:∀b o,H b=n8 o->b≠p->U b=n8 o)=λb o e n=>N _ _ (S _ _ (X _ _ e n)) n,B=N _ _ L O];have G:BL a U Y t r:=by
  erw[hR.kp λb o e n=>C _ _ e λz=>?_];rw[z,W]at e;cases e;cases n with
  |ins v _=>cases v
 erw[xwn Z Z q (aBL _ _ A0 A0) Z (p,i,mem,Y,jf2 g mem,t,r,[],Z,q,aCZ _ _,by rw[show(jf2 g mem).length=2 from rfl];decide,B,L7 _,λe he=>(nomatch he),G,λH' m ab fr M y chg=>?_)];cases chg with
 |old v _=>cases v
 |new v h2 x h4 h5 h6 h7 h8 h9 =>
  rw[v]at y;erw[k H' mem m (λb o e n=>fr _ _ (C _ _ e n) n ?_) (D _ c) M y (j _ x.1,j _ x.2.1,j _ x.2.2.1,λd I=>j _ (x.2.2.2 d I)) h4 h5 h6 h7 h8 h9 λd I z=>?_]
  .intro z;rw[z]at e;rw[D _ c]at e;cases e
  .have:=x.2.2.2 d I;rw[z,B]at this;cases this
end
noncomputable def qO(G:Gv)(n k:Nat):Nat:=match G[n]? with
|some q=>(q.parts.getD k 0).toNat
|none=>0
noncomputable def cel(G:Gv):Nat->Nat->Nat->Nat->Nat
|0,n,_,_=>n
|l+1,n,x,y=>cel G l (qO G n ((x/2^l)%2+2*((y/2^l)%2))) x y
noncomputable def stp(r:Aw)(c:Nat->Nat->Int):Nat->Nat->Int:=λx y=>CF r (c x y) [c (x-1) (y-1),c x (y-1),c (x+1) (y-1),c (x-1) y,c (x+1) y,c (x-1) (y+1),c x (y+1),c (x+1) (y+1)]
noncomputable def Bv(r:Aw):Nat->(Nat->Nat->Int)->Nat->Nat->Int
|0,c=>c
|n+1,c=>stp r (Bv r n c)
noncomputable def CM(G:Gv)(l n:Nat):Nat->Nat->Int:=λx y=>(cel G l n x y:Int)
def JR(r:Aw)(G:Gv)(e n m:Nat):Prop:=∃l:Nat,Al G n ((l+2:Nat):Int)/\e<=l/\Al G m ((l+1:Nat):Int)/\∀x y,x<2^(l+1)->y<2^(l+1)->CM G (l+1) m x y=Bv r (2^e) (CM G (l+2) n) (x+2^l) (y+2^l)
theorem GOk.four(ok:GOk G)(h:Al G n ((l+1:Nat):Int)):∃x y z w:Nat,G[n]?=n8 ([(x:Int),(y:Int),(z:Int),(w:Int)],((l+1:Nat):Int))/\Al G x (l:Int)/\Al G y (l:Int)/\Al G z (l:Int)/\Al G w (l:Int):=by
 erw[xea h λq e a=>?_];have i:8<=n:=by
  erw[M4 λz=>?_];rw[ok.leaf n z]at e;cases e;have:(0:Int)=((l+1:Nat):Int):=a;lia
 erw[(x,y,z,w,p,(b,c,d,f),_)=ok.node n q e i,(g:q.lev-1=(l:Int))=by lia]
 rw[g]at b c d f;erw[(x,y,z,w,?_,b,c,d,f),[e]];cases q with
 |mk k j=>erw[!p,!a];rfl
theorem GOk.cell(ok:GOk G)(h:Al G n 0):n<8:=by
 erw[xea h λq e b=>K1 λz=>xe4 (ok.node n q e z) λ_ _ _ _ a=>xa3 a λ_ _ c _=>?_];lia
theorem EE{n x y z w:Nat}(e:G[n]?=n8 ([(x:Int),(y:Int),(z:Int),(w:Int)],l)):qO G n 0=x/\qO G n 1=y/\qO G n 2=z/\qO G n 3=w:=by
 erw[¬qO,[e],(Z,Z,Z,Z)]
theorem Mh(ok:GOk G)(h:Al G n ((l+1:Nat):Int)){k:Nat}(f:k<4):Al G (qO G n k) (l:Int):=by
 erw[Cd (ok.four h) λx y z w e a b c d=>xa3 (EE e) λg i j m=>?_]
 match k,f with
 |0,_=>erw[[g],a]
 |1,_=>erw[[i],b]
 |2,_=>erw[[j],c]
 |3,_=>erw[[m],d]
theorem UL(ok:GOk G)(b:AG G a i):∀(l n:Nat),Al G n (l:Int)->∀x y,cel a l n x y=cel G l n x y
|0,n,_,x,y=>rfl
|l+1,n,h,x,y=>by
 have e:∀k,qO a n k=qO G n k:=λk=>by
  erw[xea h λq e _=>?_,¬qO,[b.get e,e]]
 erw[(_:cel a l (qO a n _) x y=cel G l (qO G n _) x y),[e],UL ok b l _ (Mh ok h A3) x y]
theorem Di{G a:Gv}{i:Nat}(ok:GOk G)(b:AG G a i){l n:Nat}(h:Al G n (l:Int)):CM a l n=CM G l n:=by
 funext x y
 erw[¬CM,[UL ok b l n h]]
theorem JR.goes(ok:GOk G)(a:AG G b i)(h:JR r G e n m):JR r b e n m:=by
 erw[CP h λl c f d g=>(l,a.lev c,f,a.lev d,λx y j k=>?_)]
 erw[[Di ok a c,Di ok a d],g x y j k]
def Bs(G:Gv):Prop:=∀j:Nat,j<48->G[8+j]?=n8 ([(bareN j:Int),(bareN j:Int),(bareN j:Int),(bareN j:Int)],(j:Int)+1)
theorem Bs.goes(h:Bs G)(b:AG G a i):Bs a:=λj c=>b.get (h j c)
theorem Bs.zero(h:Bs G):∀(l:Nat),l<=48->∀x y,cel G l (bareN l) x y=0
|0,_,x,y=>rfl
|l+1,hl,x,y=>by
 erw[xa3 (EE (h l (T9 hl))) λb c d f=>?_];have e:∀k,k<4->qO G (8+l) k=bareN l:=λk a=>by
  match k,a with
  |0,_=>erw[b]
  |1,_=>erw[c]
  |2,_=>erw[d]
  |3,_=>erw[f]
 erw[(_:cel G l (qO G (8+l) _) x y=0),[e _ A3],h.zero l A3 x y]
theorem Tn(h:CF r 0 BE=0):∀k,Bv r k (λ_ _=>0)=λ_ _=>0
|0=>rfl
|k+1=>by
 show stp r (Bv r k _)=_;rw[Tn h k]
 funext x y
 erw[h]
theorem Bs.lev(ok:GOk G)(h:Bs G):∀l:Nat,l<=48->Al G (bareN l) (l:Int)
|0,_=>(_,ok.leaf 0 A6,Z)
|l+1,hl=>(_,h l A3,by show(l:Int)+1=((l+1:Nat):Int);lia)
theorem JR.bare(ok:GOk G)(h:Bs G)(d:CF r 0 BE=0)(a:l+2<=48)(b:e<=l):JR r G e (bareN (l+2)) (bareN (l+1)):=by
 erw[(l,h.lev ok _ a,b,h.lev ok _ A3,λx y _ _=>?_)];have z:∀k,k<=48->CM G k (bareN k)=λ_ _=>0:=λk c=>by
  funext x y
  erw[¬CM,[h.zero k c x y]];rfl
 rw[z _ a,z _ A3,Tn d]
theorem aAw(h:EC r){cell:Int}(f:GK cell)(a:I_):GK (CF r cell a):=by
 cases e:JE r cell a with
 |none=>erw[[Ng e],f]
 |some i =>
  erw[xea (Nf e) λc b d=>?_,[d],(h.ok c (D0 b)).makes]
theorem q9x{α:Type}(n:Nat)(xs:List α)(z:α)(h:xs.length=n):xs=(List.range n).map (xs.getD · z):=by
 subst h;exact List.ext_getElem (by simp) (by intro i h _;simp[h])
theorem aA5(xs:List Int)(h:xs.length=8):∃a b c d e f g h,xs=[a,b,c,d,e,f,g,h]:=(_,_,_,_,_,_,_,_,q9x 8 xs 0 h)
structure Jv(H:Hp)(g:GA)(G:Gv)(N M:Nat)(r:Aw)(m:MA):Prop where
tp:H m.tp=n8 (.tup [.ref m.l,.ref m.kc])
l:H m.l=n8 (.lst (m.ds.map V.ref))
ap:m.l≠g.lv/\m.l≠g.pt/\m.kc≠g.nm
len:m.ds.length=47
nd:m.ds.Nodup
sq:∀(e:Nat) d,m.ds[e]?=n8 d->∃kv,H d=n8 (.dK kv)/\kv.length<=N/\(∀p∈kv,∃i,p.1=Sum.inl i)/\∀(n:Nat) v,BQ kv (Sum.inl (n:Int))=n8 v->∃k:Nat,v=.int (k:Int)/\JR r G e n k
ce:∃kc,H m.kc=n8 (.dT kc)/\kc.length<=M/\∀(ks:I_) v,BQ kc (kOf ks)=n8 v->∃c ar,ks=c::ar/\v=.int (CF r c ar)
theorem Jv.mono(h:Jv H g G N M r m)(j:N<=i)(k:M<=f):Jv H g G i f r m:=by
 erw[(h.tp,h.l,h.ap,h.len,h.nd,λe d n=>?_,?_)]
 .erw[CP (h.sq e d n) λq a b c o=>(q,a,C9 b j,c,o)]
 .erw[AI h.ce λp a b c=>(p,a,C9 b k,c)]
theorem Jv.kp{G j:Gv}(h:Jv H g G N M r m)(ok:GOk G)(w:AG G j i)(k:∀b o,H b=n8 o->b=m.tp\/b=m.l\/b∈m.ds\/b=m.kc->p b=n8 o):Jv p g j N M r m:=by
 erw[(k _ _ h.tp (.inl Z),k _ _ h.l (.inr (.inl Z)),h.ap,h.len,h.nd,λe d q=>?_,?_)]
 .erw[CP (h.sq e d q) λA a c f y=>(A,k _ _ a (.inr (.inr (.inl (D0 q)))),c,f,λn v z=>?_)]
  erw[xea (y n v z) λx t u=>(x,t,u.goes ok w)]
 .erw[AI h.ce λs a c f=>(s,k _ _ a (.inr (.inr (.inr Z))),c,f)]
structure JW(a:Ad)(H:Hp)(g:GA)(G:Gv)(N M:Nat)(p dx mem pr:R_)(r:Aw)(m:MA):Prop where
gr:AL a H g G
ok:GOk G
bs:Bs G
br:H g.br=n8 (.lst ((Dn 48).map V.int))
nbr:g.br≠g.lv/\g.br≠g.pt
hp:H p=n8 (.ins a.J5 dx (jf5 g.p mem pr m.l m.kc))
ru:BL a H pr (AZ r) r
rok:EC r
rest:CF r 0 BE=0
me:Jv H g G N M r m
theorem JW.same{H c:Hp}{p d mem f:R_}(s:As H c)(h:JW a H g G N M p d mem f r m):JW a c g G N M p d mem f r m :=
 (h.gr.same s,h.ok,h.bs,s _ _ h.br,h.nbr,s _ _ h.hp,h.ru.same s,h.rok,h.rest,h.me.kp h.ok (AG.refl h.ok) λb o e _=>s _ _ e)
theorem JW.mono{N M c b:Nat}{p d mem e:R_}(h:JW a H g G N M p d mem e r m)(f:N<=c)(i:M<=b):JW a H g G c b p d mem e r m :=
 (h.gr,h.ok,h.bs,h.br,h.nbr,h.hp,h.ru,h.rok,h.rest,h.me.mono f i)
theorem Jv.fr(h:Jv H g G N M r m)(d:AL a H g G)(ok:GOk G)(f:Fr g H p)(q:AG G n i):Jv p g n N M r m:=by
 erw[xea d.pt λts k _=>h.kp ok q λb o e w=>?_];rcases w with z|z|z|z
 .erw[c=h.tp];rw[<-z,e]at c;erw[!c,f _ _ e (AC e d.lv A4) (AC e k A4) (AC e d.nm A4)]
 .erw[c=h.l];rw[z]at e⊢;rw[e]at c;erw[!c,f _ _ e h.ap.1 h.ap.2.1 (AC e d.nm A4)]
 .erw[(j,s)=J6 z,xea (h.sq j b s) λu c _=>?_];rw[e]at c;erw[!c,f _ _ e (AC e d.lv A4) (AC e k A4) (AC e d.nm A4)]
 .erw[xea h.ce λt c _=>?_];rw[z]at e⊢;rw[e]at c;erw[!c,f _ _ e (AC e d.lv A4) (AC e k A4) h.ap.2.2]
theorem BL.fr(h:BL a H p x r)(c:AL a H g G)(f:Fr g H d):BL a d p x r:=by
 erw[xea c.pt λts i _=>h.kp λb o e n=>f _ _ e (AC e c.lv (by intro z;rw[z]at n;cases n)) (AC e i (by intro z;rw[z]at n;cases n)) (AC e c.nm (by intro z;rw[z]at n;cases n))]
theorem JW.fr{H c:Hp}{p j mem k:R_}(h:JW a H g G N M p j mem k r m)(f:Fr g H c)(e:AL a c g b)(d:AG G b i):JW a c g b N M p j mem k r m:=by
 erw[xea h.gr.pt λts l _=>(e,d.ok,h.bs.goes d,f _ _ h.br h.nbr.1 h.nbr.2 (AC h.br h.gr.nm A4),h.nbr,f _ _ h.hp (AC h.hp h.gr.lv A4) (AC h.hp l A4) (AC h.hp h.gr.nm A4),h.ru.fr h.gr f,h.rok,h.rest,h.me.fr h.gr h.ok f d)]
def FrJ(g:GA)(m:MA)(H H':Hp):Prop:=∀b o,H b=n8 o->b≠g.lv->b≠g.pt->b≠g.nm->b≠m.kc->b∉m.ds->H' b=n8 o
theorem FrJ.trans{a c d:Hp}(h:FrJ g m a c)(k:FrJ g m c d):FrJ g m a d:=λb o e f i j l n=>k _ _ (h _ _ e f i j l n) f i j l n
theorem Fr.j{a c:Hp}(h:Fr g a c):FrJ g m a c:=λb o e d f i _ _=>h _ _ e d f i
theorem As.j{a c:Hp}(h:As a c):FrJ g m a c:=λb o e _ _ _ _ _=>h _ _ e
theorem JW.putC{a:Ad}{H:Hp}{g:GA}{G:Gv}{N M:Nat}{p s mem u:R_}{r:Aw}{m:MA}{i:List (List Key×V)}(h:JW a H g G N M p s mem u r m)(len:i.length<=M+1)(j:∀(ks:I_) v,BQ i (kOf ks)=n8 v->∃c k,ks=c::k/\v=.int (CF r c k)):JW a (upd H m.kc (.dT i)) g G N (M+1) p s mem u r m:=by
 erw[xea h.me.ce λB A _=>?_,(f:∀{b v},H b=n8 v->(∀kk,v≠.dT kk)->upd H m.kc (.dT i) b=n8 v)=λ{b v} e n=>by erw[[Aq (AC e A (n _))],e]]
 erw[xea h.gr.pt λts x y=>((f h.gr.hp B1,f h.gr.lv B1,(ts,f x B1,PairedM.imp (λt q z=>f z B1) y),by erw[[Aq (A3f h.me.ap.2.2)],h.gr.nm],h.gr.ne),h.ok,h.bs,f h.br B1,h.nbr,f h.hp B1,h.ru.kp λb o e n=>f e λkk z=>(by rw[z]at n;cases n),h.rok,h.rest,(f h.me.tp B1,f h.me.l B1,h.me.ap,h.me.len,h.me.nd,λe d w=>?_,(i,Af,len,j)))]
 erw[CP (h.me.sq e d w) λC D E F I=>(C,f D B1,E,F,I)]
theorem JW.putS{p C mem L:R_}{n k:Nat}(h:JW a H g G N M p C mem L r m)(E:m.ds[e]?=n8 d)(I:H d=n8 (.dK w))(jr:JR r G e n k):JW a (upd H d (.dK (EL w (Sum.inl (n:Int)) (.int (k:Int))))) g G (N+1) M p C mem L r m:=by
 have c:∀{b v},H b=n8 v->(∀kk,v≠.dK kk)->upd H d (.dK (EL w (Sum.inl (n:Int)) (.int (k:Int)))) b=n8 v:=λ{b v} e n=>by erw[[Aq (AC e I (n _))],e]
 erw[xea h.gr.pt λts U W=>AI h.me.ce λX R S T=>((c h.gr.hp B1,c h.gr.lv B1,(ts,c U B1,PairedM.imp (λt q z=>c z B1) W),c h.gr.nm B1,h.gr.ne),h.ok,h.bs,c h.br B1,h.nbr,c h.hp B1,h.ru.kp λb o e n=>c e λkk z=>(by rw[z]at n;cases n),h.rok,h.rest,(c h.me.tp B1,c h.me.l B1,h.me.ap,h.me.len,h.me.nd,λD d' f=>?_,(X,c R B1,S,T)))]
 erw[CP (h.me.sq D d' f) λx B P s Q=>?_,(z:D=e)]
 .rw[z,E]at f;cases f;rw[I]at B;erw[!B,<-z,(_,Af,C9 (GW _ _ _) (U3 P A6),λq i=>?_,λK v j=>?_)]
  .unfold EL at i;split at i
   .erw[xea (F0.mp i) λO F u=>?_,<-u];split
    .erw[s O F]
    .erw[s O F]
   .rcases J9.mp i with y|y
    .erw[s q y]
    .erw[[C5.mp y],(_,Z)]
  .rw[Iy]at j;split at j
   .rename_i y;have:K=n:=by have:=Sum.inl.inj y;lia
    erw[[this],!j,(k,Z,jr)]
   .erw[Q K v j]
 .have A:d'≠d:=λy=>z (by
   rw[y]at f;exact(List.getElem?_inj (C2.mp f).1 h.me.nd).mp (f.trans E.symm))
  exact(x,by erw[[Aq A],B],C9 P (F5 _ _),s,Q)
section
variable{P:N_}{w:Q_}{K:O_}{mg:C_}{n6:T_}{a:Ad}
inductive aAa(a:Ad)(vs:List V)(H:Hp)(Q:VK):Prop
|mk (p dx mem pr t:R_) (g:GA) (G:Gv) (N M:Nat) (r:Aw) (m:MA) (c:Int) (ar:I_) (_:vs=[.ref p,.ref t]) (_:JW a H g G N M p dx mem pr r m) (_:H t=n8 (.tup ((c::ar).map V.int))) (_:ar.length=8) (_:∀x∈c::ar,GK x) (_:M<9000000) (_:∀H',(∀b o,H b=n8 o->b≠m.kc->H' b=n8 o)->JW a H' g G N (M+1) p dx mem pr r m->Q (.int (CF r c ar)) H'):aAa a vs H Q
def Wv(a:Ad):Sp:=λvs H Q _=>aAa a vs H Q
theorem aE0(F:Fun K "cell_after" "Jumps.cell_after" CS f fd)(T:Top K mg a)(aI:BY P w K mg n6 CX0 4 a.L0 "state_of" Lj (Wo a))(aS:BY P w K mg n6 CX0 3 a.L0 "leaf" SF (RQ a))(bJ:Cal P w K mg n6 CX0 5 "becomes" Mm (Ww a)):AJ P w K mg n6 CX0 6 f fd Eb (Wv a):=by
 erw[F.ok CI D_9 λai A ae s H vs Q E X h=>?_]
 erw[(p,dx,mem,pr,t,g,G,N,M,r,m,c,d,rfl,q,ht,h8,aa,few,k)=h,AI q.me.ce λkc c1 c2 c3=>?_,(Y:H t=n8 (.tup ((kOf (c::d)).map kV)))=by erw[[aBP],ht]]
 erw[(_,(Ac (Ax 2 CI.nd (JS (Ei X) (AA pv0 Z) pv1 (Z,Z,Z,Z))) (Ac (AS (Ay Jl pv2 Dw (AF _)) (Ac (CB (i:=3) Z CI.nd Z Z (Bd.of (So:=Ah CS) (No:=GD) (N:=["one","self"]) (k:=1) (cs:=[0]) Z Z A0) (Py pv1) (λ_ _ _=>(AW (i:=0) A0 Z Z)) (λ_ _ _=>Be) (λ_ _ _=>(AD (Sg (K:=K) Z pv1 Z) aI (rm X) AQ (Aa pv0 Ab)))) (Ac (Ax 2 CI.nd (AD (AA pv0 Z) aS (rm X) AQ (Aa (AB bJ X (Aa (AA pv0 Z) (Aa (Aj Ar pv3 Ae R_9) (Aa (TY Wx pv3 (Se Ae) aDB) Ab)))) Ab))) (Ag (FN (Ei X) (AA pv0 Z) pv1 pv2 Z)))) Az) (Ag (Av pv2)))),?_),xwf Z Z q.hp T.L4 T.Z_ (aBM _ _ _ _ _) (m.kc,Z,.inr (_,.inl c1),(xq1 Z (_,GL.t (k:=kOf (c::d)) c1 Y,?_)))];cases ev:BQ kc (kOf (c::d))with
 |some v =>
  erw[BM (c3 _ v ev) λc' ah e1 e2=>?_,!e1,[e2],xq1 Z (Z,(xq1 Z (Bj (xq1 Z (k H (λb o e _=>e) (q.mono (C1 _) (S4 _)))))))]
 |none =>
  erw[xq1 Z (Z,(xq1 Z (Cy ?_))),xq1 Z (t,Z,(_,SqT.of ht),?_),OX (xs:=(c::d).map V.int) (λi l D=>H=D/\l=((c::d).take i).map V.int) (Z,Z) (λi l D _ z=>z.1▸SqT.of ht) ?_ ?_]
  .erw[?i v l D S af,(rfl,rfl)=af];rw[C3]at S;erw[xea (D7.mp S) λx ex ab=>?_,<-ab,(x0,x8)=aa x (D0 ex),(n,rfl)=L6 x0,(([n8 (.int (n:Int))],Z,Z),?_,EF (xq1 Z (xq5 q.hp T.L4 T.M3 (EA _ _ _ _ _) (xq3 Z q.gr.hp (PM g) (xq1 Z (g,G,n,_,Z,q.gr,q.ok.leaf n A3,Z,Z,?_))))))]
   .erw[[C0,J8],F3 (R5 _ _) (by rw[F2,h8];decide)]
   .rw[F9,ex,R7,D4];rfl
  .erw[?l D ag L hL,(rfl,rfl)=ag,[C0,J7]];generalize O:upd H L _=H1;erw[(s1,U)=alc hL O,u=q.same s1,xwf Z Z u.hp T.L4 T.M3 (EA _ _ _ _ _) (xq3 Z u.gr.hp (WK g) (xwf Z Z u.hp T.L4 T.aAF (aEk _ _ _ _ _) (xwi Z Z Z (SqL.of U) (Ai (j:=0) Z) ?_))),xq1 Z (1,Z,L,(xq1 Z (SqL.of U,λSL ad=>?_)))];have R:VW ((c::d).map V.int) (n8 1) n9=d.map V.int:=by
    erw[(x1,x2,x3,x4,x5,x6,x7,x8,rfl)=aA5 d h8];rfl
   rw[R];generalize dX:upd H1 SL _=D;erw[(s2,ac)=alc ad dX,B=u.same s2,(pr,SL,_,r,c,d,Z,B.ru,B.rok.rok,ac,λH3 s3=>?_),W=B.same s3,C=(s1.trans s2).trans s3,I=aAw q.rok (aa c D5) d,(g.p,_,Z,I.1,I.2,?_),xq1 Z (xq1 Z (xq5 W.hp T.L4 T.Z_ (aBM _ _ _ _ _) (xq1 Z (m.kc,(xq1 Z (Mt.t (k:=kOf (c::d)) (C _ _ c1) (C _ _ Y) (F3 (show kc.length<=9000000 by lia) A6),?_)))))),xq1 Z (k _ (λb o e n=>by erw[[Aq n],C _ _ e]) (W.putC (C9 (GW _ _ _) (U3 c2 A6)) λks v hv=>?_))];rw[Iy]at hv;split at hv
   .rename_i y;erw[[LD y],!hv,(c,d,Z,Z)]
   .erw[c3 ks v hv]
end
def FrC(g:GA)(m:MA)(H H':Hp):Prop:=∀b o,H b=n8 o->b≠g.lv->b≠g.pt->b≠g.nm->b≠m.kc->H' b=n8 o
theorem FrC.trans{a c d:Hp}(h:FrC g m a c)(k:FrC g m c d):FrC g m a d:=λb o e f i j l=>k _ _ (h _ _ e f i j l) f i j l
theorem FrC.j{a c:Hp}(h:FrC g m a c):FrJ g m a c:=λb o e d f i k _=>h _ _ e d f i k
theorem Fr.c(h:Fr g a d):FrC g m a d:=λb o e f i j _=>h _ _ e f i j
def spNo:Sp:=λ_ _ _ _=>False
theorem AJ.no{K:O_}{mg:C_}{k:Nat}{fd:E_}:AJ P w K mg a CX k f fd b spNo :=
 (λ_ _ _ _ h=>h.elim,λ_ _ _ _ _ _ _ _ _ _ _ _ _ h=>h.elim)
theorem aDr(h:l<=48):((Dn 48).map V.int)[l]?=n8 (.int (bareN l:Int)):=by
 erw[¬Dn,[C3,C3,S7 (F3 h A6)]];rfl
section
variable{P:N_}{w:Q_}{K:O_}{mg:C_}{n6:T_}{a:Ad}
theorem aHq     (h:ts σ H λxs b=>xs.length<=sizeLine/\∀p,b p=n9->D.rt (.ref p) (upd b p (.lst xs))):aHo (aDM ts) D σ H:=h
theorem GN  {c:TA}    (h:b σ H λx d=>c σ d λxs e=>Q (x::xs) e):CH b c σ H Q:=h
theorem ixt{K:O_}{t:R_}{j:Int}(r:σ[i]?=n8 (n8 (.ref t)))(h:H t=n8 (.tup xs))(e:atI xs j=n8 v)(k:Q v H):tOp (JO K) (DX i) (tC (V.int j)) σ H Q:=(_,r,t,xs,j,v,Z,Z,SqT.of h,e,k)
theorem ixp{K:O_}{H:Hp}{p t:R_}{ts:H_}{n:Nat}{Q:VK}(h:H p=n8 (.lst (ts.map V.ref)))(e:ts[n]?=n8 t)(k:Q (.ref t) H):aFc K (.ref p) (.int n) H Q:=(p,_,n,_,Z,Z,SqL.of h,Ai (by rw[C3,e];rfl),k)
structure Ln(a:Ad)(g:GA)(H0:Hp)(G0:Gv)(j:Nat)(H:Hp)(G:Gv):Prop where
fr:Fr g H0 H
kt:∀{b:R_}{xs:List V},H0 b=n8 (.tup xs)->H b=n8 (.tup xs)
gr:AL a H g G
go:AG G0 G j
theorem lnk{a:Ad}{t H:Hp}{g:GA}{G0 G:Gv}{j:Nat}{u:R_}{x y z w:Nat}{l:Int}{Q:VK}(s:Ln a g t G0 j H G)(B:H u=n9)(f:Al G0 x l/\Al G0 y l/\Al G0 z l/\Al G0 w l)(q:l<=47)(few:G0.length+j<9000000)
  (k:∀(n:Nat)(d:Gv)(h:Hp),Ln a g t G0 (j+1) h d->AG G d 1->d[n]?=n8 ([(x:Int),(y:Int),(z:Int),(w:Int)],l+1)->Q (.int n) h):VZ a [.ref g.p,.ref u] (upd H u (.tup [.int x,.int y,.int z,.int w])) Q:=by
 generalize o:upd H u _=E;erw[(r,v)=alc B o,m=s.gr.same r,C=s.go.few,(g,G,u,x,y,z,w,l,Z,m,s.go.ok,v,(s.go.lev f.1,s.go.lev f.2.1,s.go.lev f.2.2.1,s.go.lev f.2.2.2),q,F3 C few,λn d h fr A c e=>k n d h (s.fr.trans ((As.fr r).trans fr),λ{b xs} e=>?_,A,s.go.trans c) c e),xea m.pt λus D _=>?_,i=r _ _ (s.kt e),fr _ _ i (AC i m.lv A4) (AC i D A4) (AC i m.nm A4)]
theorem ttup     (h:ts σ H λxs b=>xs.length<=sizeLine/\∀p,b p=n9->Q (.ref p) (upd b p (.tup xs))):YC ts σ H Q:=h
theorem al9{P:Int->Prop}{a b c d e f g h i:Int}(k:P a)(l:P b)(m:P c)(n:P d)(o:P e)(p:P f)(q:P g)(r:P h)(hi:P i):∀x∈[a,b,c,d,e,f,g,h,i],P x:=by
 intro x j;simp only[C4,F7,A5a]at j;rcases j with rfl|rfl|rfl|rfl|rfl|rfl|rfl|rfl|rfl<;>assumption
structure Lc(g:GA)(m:MA)(H0 H:Hp):Prop where
fr:FrC g m H0 H
kt:∀{b:R_}{xs:List V},H0 b=n8 (.tup xs)->H b=n8 (.tup xs)
theorem celT{a:Ad}{t H:Hp}{p j mem q u:R_}{c:Int}(v:JW a H g G N M p j mem q r m)(y:Lc g m t H)(C:H u=n9)(f:∀x∈c::d,GK x)(B:d.length=8)(A:M<9000000)
  (h:∀(k:Nat)(Y:Hp),CF r c d=k->k<8->Lc g m t Y->JW a Y g G N (M+1) p j mem q r m->Q (.int k) Y):aAa a [.ref p,.ref u] (upd H u (.tup ((c::d).map V.int))) Q:=by
 generalize l:upd H u _=X;erw[(s,D)=alc C l,i=v.same s,(p,j,mem,q,u,g,G,N,M,r,m,c,d,Z,i,D,B,f,A,λY fr n=>?_),(F,L)=aAw v.rok (f c (.head ..)) d,(k,e)=L6 F,[e],h k Y e A3 (y.fr.trans λb o e _ _ _ E=>fr _ _ (s _ _ e) E,λ{b xs} e=>?_) n,xea i.me.ce λI z _=>?_,e=s _ _ (y.kt e),fr _ _ e (AC e z A4)]
theorem aCR{K:O_}{a:Ad}{p F mem pr:R_}{f h i j l n o q s:List V}{j1 j2 j3 j4 j5 j6 j7 j8 j9 t u v y z A B C D:Int}(I:JW a H g G N M p F mem pr r m)(c:Lc g m b H)(h1:b t1=n8 (.tup f))(h2:b t2=n8 (.tup h))(h3:b t3=n8 (.tup i))(h4:b t4=n8 (.tup j))(h5:b t5=n8 (.tup l))(h6:b t6=n8 (.tup n))(h7:b t7=n8 (.tup o))(h8:b t8=n8 (.tup q))(h9:b t9=n8 (.tup s))(E:∀x∈[t,u,v,y,z,A,B,C,D],GK x)(hM:M<9000000)
  (k:∀(k:Nat)(Y:Hp),CF r t [u,v,y,z,A,B,C,D]=k->k<8->Lc g m b Y->JW a Y g G N (M+1) p F mem pr r m->Q (.int k) Y) (e:σ[0]?=n8 (n8 (.ref p))/\(σ[L]?=n8 (n8 (.ref t1))/\atI f j1=n8 (.int t))/\(σ[O]?=n8 (n8 (.ref t2))/\atI h j2=n8 (.int u))/\(σ[R]?=n8 (n8 (.ref t3))/\atI i j3=n8 (.int v))/\(σ[S]?=n8 (n8 (.ref t4))/\atI j j4=n8 (.int y))/\(σ[T]?=n8 (n8 (.ref t5))/\atI l j5=n8 (.int z))/\(σ[U]?=n8 (n8 (.ref t6))/\atI n j6=n8 (.int A))/\(σ[X]?=n8 (n8 (.ref t7))/\atI o j7=n8 (.int B))/\(σ[i8]?=n8 (n8 (.ref t8))/\atI q j8=n8 (.int C))/\(σ[i9]?=n8 (n8 (.ref t9))/\atI s j9=n8 (.int D)):=by exact(Z,(Z,Z),(Z,Z),(Z,Z),(Z,Z),(Z,Z),(Z,Z),(Z,Z),(Z,Z),(Z,Z))) :
  Wh a.J5 "cell_after" (Wv a) [] E0 (DX 0) (CH (YC (CH (tOp (JO K) (DX L) (tC (V.int j1))) (CH (tOp (JO K) (DX O) (tC (V.int j2))) (CH (tOp (JO K) (DX R) (tC (V.int j3))) (CH (tOp (JO K) (DX S) (tC (V.int j4))) (CH (tOp (JO K) (DX T) (tC (V.int j5))) (CH (tOp (JO K) (DX U) (tC (V.int j6))) (CH (tOp (JO K) (DX X) (tC (V.int j7))) (CH (tOp (JO K) (DX i8) (tC (V.int j8))) (CH (tOp (JO K) (DX i9) (tC (V.int j9))) Pd)))))))))) Pd) σ H Q:=by
 apply Cr;erw[?G_ d,(r0,(r1,e1),(r2,e2),(r3,e3),(r4,e4),(r5,e5),(r6,e6),(r7,e7),(r8,e8),(r9,e9))=e];apply d;erw[-d G_,(_,r0,(xq3 Z I.hp (aBj _ _ _ _ _) (ixt r1 (c.kt h1) e1 (ixt r2 (c.kt h2) e2 (ixt r3 (c.kt h3) e3 (ixt r4 (c.kt h4) e4 (ixt r5 (c.kt h5) e5 (ixt r6 (c.kt h6) e6 (ixt r7 (c.kt h7) e7 (ixt r8 (c.kt h8) e8 (ixt r9 (c.kt h9) e9 ((by show 9<=sizeLine;decide),λ_ hu=>celT I c hu E Z hM k))))))))))))]
inductive aAh(a:Ad)(vs:List V)(H:Hp)(Q:VK):Prop
|mk (p dx mem pr:R_) (g:GA) (G:Gv) (N M:Nat) (r:Aw) (m:MA) (n:Nat) (_:vs=[.ref p,.int n]) (_:JW a H g G N M p dx mem pr r m) (_:Al G n ((1+1:Nat):Int)) (_:M<8500000) (_:G.length<8000000) (_:∀(k:Nat)(G':Gv)(H':Hp),FrC g m H H'->JW a H' g G' N (M+4) p dx mem pr r m->AG G G' 1->JR r G' 0 n k->Q (.int k) H'):aAh a vs H Q
def RP(a:Ad):Sp:=λvs H Q _=>aAh a vs H Q
theorem aCz(F:Fun K "middle_after" "Jumps.middle_after" Dt f fd)(T:Top K mg a)(a6:BY P w K mg n6 CX0 2 a.L0 "linked" Bh (Fu a))(aH:BY P w K mg n6 CX0 6 a.J5 "cell_after" Eb (Wv a)):AJ P w K mg n6 CX0 7 f fd Lj (RP a):=by
 erw[F.ok Bm (λvs H Q E h=>?_) (λbj A ay s H vs Q E W h=>?_)]
 .apply Cr;erw[?G_ B,(p,dx,mem,pr,g,G,N,M,r,m,n,rfl,_)=h];apply B;clear B G_;rfl
 .apply Cr;erw[?G_ B,(p,dx,mem,pr,g,G,N,M,r,m,n,rfl,o,hl,S,few,k)=h,Cd (o.ok.four hl) λqa qb qc qd en la lb lc ld=>Cd (o.ok.four (l:=0) la) λa0 a1 a2 a3 ea au X Y D=>Cd (o.ok.four (l:=0) lb) λb0 b1 b2 b3 eb aa av I ab=>Cd (o.ok.four (l:=0) lc) λc0 c1 c2 c3 ec ac L aw ad=>Cd (o.ok.four (l:=0) ld) λd0 d1 d2 d3 ed O ae af ax=>xea o.gr.pt λts U V=>xea (PairedM.get V en) λt et ht=>xea (PairedM.get V ea) λta ak q=>xea (PairedM.get V eb) λtb al v=>xea (PairedM.get V ec) λtc am y=>xea (PairedM.get V ed) λtd an z=>?_];apply B;erw[-B G_,(_,(Ac (Ax 2 Bm.nd (Aj Ar (AA (AA pv0 Z) Z) pv1 R_9)) (Ac (Ax 3 Bm.nd (Aj Ar (AA (AA pv0 Z) Z) (Aj Ao pv2 Ae R_9) R_9)) (Ac (Ax 4 Bm.nd (Aj Ar (AA (AA pv0 Z) Z) (Aj Ao pv2 Ae R_9) R_9)) (Ac (Ax 5 Bm.nd (Aj Ar (AA (AA pv0 Z) Z) (Aj Ao pv2 Ae R_9) R_9)) (Ac (Ax 6 Bm.nd (Aj Ar (AA (AA pv0 Z) Z) (Aj Ao pv2 Ae R_9) R_9)) (Ag (Av (AD (AA pv0 Z) a6 (rm W) AQ (Bb (Aa (AD pv0 aH (rm W) AQ (Bb (Aa (Aj Ao pv3 Ae R_9) (Aa (Aj Ao pv3 Ae R_9) (Aa (Aj Ao pv3 Ae R_9) (Aa (Aj Ao pv4 Ae R_9) (Aa (Aj Ao pv3 Ae R_9) (Aa (Aj Ao pv4 Ae R_9) (Aa (Aj Ao pv5 Ae R_9) (Aa (Aj Ao pv5 Ae R_9) (Aa (Aj Ao pv6 Ae R_9) Ab))))))))) Ab)) (Aa (AD pv0 aH (rm W) AQ (Bb (Aa (Aj Ao pv4 Ae R_9) (Aa (Aj Ao pv3 Ae R_9) (Aa (Aj Ao pv4 Ae R_9) (Aa (Aj Ao pv4 Ae R_9) (Aa (Aj Ao pv3 Ae R_9) (Aa (Aj Ao pv4 Ae R_9) (Aa (Aj Ao pv5 Ae R_9) (Aa (Aj Ao pv6 Ae R_9) (Aa (Aj Ao pv6 Ae R_9) Ab))))))))) Ab)) (Aa (AD pv0 aH (rm W) AQ (Bb (Aa (Aj Ao pv5 Ae R_9) (Aa (Aj Ao pv3 Ae R_9) (Aa (Aj Ao pv3 Ae R_9) (Aa (Aj Ao pv4 Ae R_9) (Aa (Aj Ao pv5 Ae R_9) (Aa (Aj Ao pv6 Ae R_9) (Aa (Aj Ao pv5 Ae R_9) (Aa (Aj Ao pv5 Ae R_9) (Aa (Aj Ao pv6 Ae R_9) Ab))))))))) Ab)) (Aa (AD pv0 aH (rm W) AQ (Bb (Aa (Aj Ao pv6 Ae R_9) (Aa (Aj Ao pv3 Ae R_9) (Aa (Aj Ao pv4 Ae R_9) (Aa (Aj Ao pv4 Ae R_9) (Aa (Aj Ao pv5 Ae R_9) (Aa (Aj Ao pv6 Ae R_9) (Aa (Aj Ao pv5 Ae R_9) (Aa (Aj Ao pv6 Ae R_9) (Aa (Aj Ao pv6 Ae R_9) Ab))))))))) Ab)) Ab)))) Ab))))))))),?_),Bn ?_,?a9 be k0 C az,xwf Z Z o.hp T.L4 T.M3 (EA _ _ _ _ _) (xq5 o.gr.hp T.J4 T.L3 (CC g) (xq1 Z (ixp U et ?_))),C (Bn ?_),?ba bf k1 C a4,xwf Z Z o.hp T.L4 T.M3 (EA _ _ _ _ _) (xq5 o.gr.hp T.J4 T.L3 (CC g) (ixt Z ht Z (ixp U ak ?_))),C (Bn ?_),?bb bg k2 C a5,xwf Z Z o.hp T.L4 T.M3 (EA _ _ _ _ _) (xq5 o.gr.hp T.J4 T.L3 (CC g) (ixt Z ht Z (ixp U al ?_))),C (Bn ?_),?bc bh k3 C a7,xwf Z Z o.hp T.L4 T.M3 (EA _ _ _ _ _) (xq5 o.gr.hp T.J4 T.L3 (CC g) (ixt Z ht Z (ixp U am ?_))),C (Bn ?_),?bd bi k4 C a8,xwf Z Z o.hp T.L4 T.M3 (EA _ _ _ _ _) (xq5 o.gr.hp T.J4 T.L3 (CC g) (ixt Z ht Z (ixp U an ?_))),C ?_];have st:∀{x:Nat},Al G x ((0:Nat):Int)->GK (x:Int):=λ{x} h=>by
   have:=o.ok.cell h;exact(O4 _,by lia)
  have c_:Lc g m H H:=(λ_ _ e _ _ _ _=>e,λe=>e)
  erw[xwf Z Z o.hp T.L4 T.M3 (EA _ _ _ _ _) (xq3 Z o.gr.hp (Cf g) ?_),GN (ttup (GN (aCR o c_ q q q v q v y y z (al9 (st D) (st au) (st X) (st aa) (st Y) (st I) (st ac) (st L) (st O)) (D8 S A6) λk0 Y0 ag ao x0 j0=>?_))),GN (aCR j0 x0 v q v v q v y z z (al9 (st I) (st X) (st aa) (st av) (st D) (st ab) (st L) (st O) (st ae)) A3 λk1 Y1 ah aq x1 j1=>?_),GN (aCR j1 x1 y q q v y z y y z (al9 (st L) (st Y) (st D) (st I) (st ac) (st O) (st aw) (st ad) (st af)) A3 λk2 Y2 ai ar x2 j2=>?_),GN (aCR j2 x2 z q v v y z y z z (al9 (st O) (st D) (st I) (st ab) (st L) (st ae) (st ad) (st af) (st ax)) A3 λk3 Y3 aj as x3 j3=>?_),(lf:∀{k:Nat},k<8->Al G k ((0:Nat):Int))=λ{k} h=>(_,o.ok.leaf k h,Z)]
  erw[(S_4,λu hu=>lnk ((.refl _ _,λe=>e,j3.gr,.refl o.ok):Ln a g Y3 G 0 Y3 G) hu (lf ao,lf aq,lf ar,lf as) A6 (D8 few A6) λx G' H' s R e=>?_),k x G' H' (x3.fr.trans (Fr.c s.fr)) (j3.fr s.fr s.gr R) R (0,R.lev hl,C1 0,(_,e,Z),?_),xa3 (EE (R.get ea)) λb d i j=>?_,<-b,<-d,<-i,<-j,xa3 (EE (R.get eb)) λb d i j=>?_,<-b,<-d,<-i,<-j,xa3 (EE (R.get ec)) λb d i j=>?_,<-b,<-d,<-i,<-j,xa3 (EE (R.get ed)) λb d i j=>?_,<-b,<-d,<-i,<-j,xa3 (EE (R.get en)) λb d i j=>?_,<-b,<-d,<-i,<-j,xa3 (EE e) λb d i j=>?_,<-b,<-d,<-i,<-j,?x' y' hx hy]
  match x',hx,y',hy with
  |0,_,0,_=>erw[ag.symm]
  |1,_,0,_=>erw[ah.symm]
  |0,_,1,_=>erw[ai.symm]
  |1,_,1,_=>erw[aj.symm]
inductive aF7(a:Ad)(vs:List V)(H:Hp)(Q:VK):Prop
|mk (p dx gp mem pr l kc:R_) (g:GA) (G:Gv) (n e:Nat) (q:Sq) (_:vs=[.ref p,.int n,.int e]) (_:H p=n8 (.ins a.J5 dx (jf5 g.p mem pr l kc))) (_:AL a H g G) (_:G[n]?=n8 q) (_:2+(e:Int)<=q.lev) (_:Q .non H):aF7 a vs H Q
def aHS(a:Ad):Sp:=λvs H Q _=>aF7 a vs H Q
theorem aGv(F:Fun K "check_jump" "Jumps.check_jump" DY f fd)(T:Top K mg a)(o:BY P w K mg n6 CX0 3 a.L0 "level_of" Lj (Oh a))(r:Cal P w K mg n6 CX0 1 "is_whole" Vv YE):AJ P w K mg n6 CX0 4 f fd QP (aHS a):=by
 erw[F.ok FF (λvs H Q E h=>?_) (λt A d s H vs Q E m h=>?_)]
 .apply Cr;erw[?c b,(p,u,x,mem,z,l,y,g,G,n,e,q,rfl,_)=h];apply b;clear b c;rfl
 .apply Cr;erw[?c b,(p,u,x,mem,z,l,y,g,G,n,e,q,rfl,j,i,v,B,k)=h];apply b;erw[-b c,(_,(Ac (Ax 3 FF.nd (AD (AA pv0 Z) o (rm m) AQ (Aa pv1 Ab))) (Ac (AS (Ay IC pv3 (Co Z T.d_) (AF _)) (Ag Bo) Az) (Ag (AS (PW.pt (MF (DJ (Dk (AB r m (Aa pv2 Ab)))) (JP (DJ (TV MO MO Ae pv2 (AE Cs pv3 (Co Z T.d_))))))) (Ag Bo) Az)))),?_),xwf Z Z j T.L4 T.M3 (EA _ _ _ _ _) (xq3 Z i.hp (ES g) (xq1 Z (g,G,n,q,Z,i,v,?_))),xwb Z Z Z (xq1 Z ?_),[A3a (by lia:¬q.lev<2)],Bj (_,Z,_,Z,o0,Z,Bj (_,Z,_,_,Z,Z,_,Z,?_)),[A2g (O4 _:(0:Int)<=(e:Int))],Cy (xwb Z Z Z (xq2 Z Z (xq1 Z ?_))),[A2g (by lia:(e:Int)<=q.lev-2)],Bj k]
end
end J
namespace J
open PySem L2
theorem SW(G:Gv):∀(l n x y i j:Nat),cel G l n (x+2^l*i) (y+2^l*j)=cel G l n x y
|0,n,x,y,i,j=>rfl
|l+1,n,x,y,i,j=>by
 erw[(_:cel G l (qO G n (((x+2^(l+1)*i)/2^l)%2+2*(((y+2^(l+1)*j)/2^l)%2))) (x+2^(l+1)*i) (y+2^(l+1)*j)=cel G l (qO G n ((x/2^l)%2+2*((y/2^l)%2))) x y),(p:0<2^l)=X6 A6,(e:∀i:Nat,2^(l+1)*i=2^l*(2*i))=λi=>by rw[M6,Nat.mul_assoc]]
 erw[[e i,e j,P9 _ _ p,P9 _ _ p,S2,S2],SW G l _ x y (2*i) (2*j)]
theorem Qv(G:Gv)(l n:Nat){x y i j:Nat}(b:x<2^l)(c:y<2^l)(hi:i<2)(a:j<2):CM G (l+1) n (x+2^l*i) (y+2^l*j)=CM G l (qO G n (i+2*j)) x y:=by
 erw[¬CM,(_:((cel G l (qO G n (((x+2^l*i)/2^l)%2+2*(((y+2^l*j)/2^l)%2))) (x+2^l*i) (y+2^l*j):Nat):Int)=_),(p:0<2^l)=X6 A6,[P9 _ _ p,P9 _ _ p,P6 b,P6 c,P0,P0,R4 hi,R4 a,SW]]
theorem Tp(r:Aw)(c:Nat->Nat->Int)(n:Nat):∀m,Bv r (m+n) c=Bv r m (Bv r n c)
|0=>by rw[P0];rfl
|m+1=>by
 rw[show m+1+n=(m+n)+1 by lia];show stp r (Bv r (m+n) c)=stp r (Bv r m (Bv r n c));rw[Tp r c n m]
theorem To(r:Aw){c d:Nat->Nat->Int}{X Y:Nat}:∀(k x y:Nat),k<=x->k<=y->(∀u v,x-k<=u->u<=x+k->y-k<=v->v<=y+k->c u v=d (u+X) (v+Y))->Bv r k c x y=Bv r k d (x+X) (y+Y)
|0,x,y,_,_,h=>h x y A3 A3 A3 A3
|k+1,x,y,hx,hy,h=>by
 erw[(e:∀u v,x-1<=u->u<=x+1->y-1<=v->v<=y+1->Bv r k c u v=Bv r k d (u+X) (v+Y))=λu v f g i j=>To r k u v A3 A3 λa b l m n o=>h a b A3 A3 A3 A3,(_:CF r (Bv r k c x y) [Bv r k c (x-1) (y-1),Bv r k c x (y-1),Bv r k c (x+1) (y-1),Bv r k c (x-1) y,Bv r k c (x+1) y,Bv r k c (x-1) (y+1),Bv r k c x (y+1),Bv r k c (x+1) (y+1)]=CF r (Bv r k d (x+X) (y+Y)) [Bv r k d (x+X-1) (y+Y-1),Bv r k d (x+X) (y+Y-1),Bv r k d (x+X+1) (y+Y-1),Bv r k d (x+X-1) (y+Y),Bv r k d (x+X+1) (y+Y),Bv r k d (x+X-1) (y+Y+1),Bv r k d (x+X) (y+Y+1),Bv r k d (x+X+1) (y+Y+1)]),[e x y (R8 _ _) (F5 _ _) (R8 _ _) (F5 _ _),e (x-1) (y-1) (C1 _) A3 (C1 _) A3,e x (y-1) (R8 _ _) (F5 _ _) (C1 _) A3,e (x+1) (y-1) A3 (C1 _) (C1 _) A3,e (x-1) y (C1 _) A3 (R8 _ _) (F5 _ _),e (x+1) y A3 (C1 _) (R8 _ _) (F5 _ _),e (x-1) (y+1) (C1 _) A3 A3 (C1 _),e x (y+1) (R8 _ _) (F5 _ _) A3 (C1 _),e (x+1) (y+1) A3 (C1 _) A3 (C1 _)]];rw[show x-1+X=x+X-1 by lia,show y-1+Y=y+Y-1 by lia,show x+1+X=x+X+1 by lia,show y+1+Y=y+Y+1 by lia]
def Vw(G:Gv)(c:Nat->Nat->Int)(l m X Y:Nat):Prop:=∀x y,x<2^l->y<2^l->CM G l m x y=c (x+X) (y+Y)
theorem Vw.q{G:Gv}{c:Nat->Nat->Int}{l m X Y i j:Nat}(h:Vw G c (l+1) m X Y)(hi:i<2)(a:j<2):Vw G c l (qO G m (i+2*j)) (X+2^l*i) (Y+2^l*j):=λx y b d=>by
 rw[<-Qv G l m b d hi a,h _ _ ?_ ?_]
 .rw[show x+2^l*i+X=x+(X+2^l*i) by lia,show y+2^l*j+Y=y+(Y+2^l*j) by lia]
 .rw[M6];have:2^l*i<=2^l*1:=N7 _ (O8 hi);lia
 .rw[M6];have:2^l*j<=2^l*1:=N7 _ (O8 a);lia
theorem Vw.of{G:Gv}{c:Nat->Nat->Int}{l m X Y:Nat}(d:Vw G c l (qO G m 0) X Y)(e:Vw G c l (qO G m 1) (X+2^l) Y)(f:Vw G c l (qO G m 2) X (Y+2^l))(g:Vw G c l (qO G m 3) (X+2^l) (Y+2^l)):Vw G c (l+1) m X Y:=λx y h k=>by
 rw[M6]at h k;erw[(b:x<2^l)]
 .erw[(a:y<2^l)]
  .have:=Qv G l m b a (i:=0) (j:=0) A6 A6;rw[show x+2^l*0=x by lia,show y+2^l*0=y by lia]at this;erw[[this],d x y b a]
  .have:=Qv G l m b (y:=y-2^l) A3 (i:=0) (j:=1) A6 A6;rw[show x+2^l*0=x by lia,show y-2^l+2^l*1=y by lia]at this;rw[this,f x (y-2^l) b A3,show y-2^l+(Y+2^l)=y+Y by lia]
 .erw[(a:y<2^l)]
  .have:=Qv G l m (x:=x-2^l) A3 a (i:=1) (j:=0) A6 A6;rw[show y+2^l*0=y by lia,show x-2^l+2^l*1=x by lia]at this;rw[this,e (x-2^l) y A3 a,show x-2^l+(X+2^l)=x+X by lia]
  .have:=Qv G l m (x:=x-2^l) (y:=y-2^l) A3 A3 (i:=1) (j:=1) A6 A6;rw[show x-2^l+2^l*1=x by lia,show y-2^l+2^l*1=y by lia]at this;rw[this,g (x-2^l) (y-2^l) A3 A3,show x-2^l+(X+2^l)=x+X by lia,show y-2^l+(Y+2^l)=y+Y by lia]
theorem Vw.jump{c:Nat->Nat->Int}{l e m k X Y:Nat}(h:Vw G c (l+2) m X Y)(a:e<=l)(j:∀x y,x<2^(l+1)->y<2^(l+1)->CM G (l+1) k x y=Bv r (2^e) (CM G (l+2) m) (x+2^l) (y+2^l)):Vw G (Bv r (2^e) c) (l+1) k (X+2^l) (Y+2^l):=λx y b d=>by
 erw[(p:2^e<=2^l)=P8 A6 a,(o:2^(l+1)=2^l*2)=M6 ..,(q:2^(l+2)=2^l*2*2)=by rw[M6,M6]]
 rw[j x y b d,To r (X:=X) (Y:=Y) (2^e) (x+2^l) (y+2^l) A3 A3 λu v f g i n=>h u v A3 A3];rw[show x+2^l+X=x+(X+2^l) by lia,show y+2^l+Y=y+(Y+2^l) by lia]
seal L2.PA L2.PE L2.PS L2.PSs L2.PT L2.PW
theorem Vw.at'{c:Nat->Nat->Int}(h:Vw G c l m X Y)(a:X=X')(b:Y=Y'):Vw G c l m X' Y':=by
 erw[<-a,<-b,h]
theorem Vw.goes{c:Nat->Nat->Int}(h:Vw G c l m X Y)(ok:GOk G)(b:AG G a i)(f:Al G m (l:Int)):Vw a c l m X Y:=λx y d e=>by
 erw[[Di ok b f],h x y d e]
section
variable{P:N_}{w:Q_}{K:O_}{mg:C_}{n6:T_}{a:Ad}
inductive aAi(a:Ad)(vs:List V)(H:Hp)(Q:VK):Prop
|mk (g:GA) (G:Gv) (n l:Nat) (_:vs=[.ref g.p,.int n]) (_:AL a H g G) (_:GOk G) (_:Al G n ((l+1+1:Nat):Int)) (_:l<=46) (_:G.length<8000000) (_:∀(L:R_)(ks:J_)(G':Gv)(H':Hp),Fr g H H'->AL a H' g G'->AG G G' 5->H' L=n8 (.lst (ks.map λ(k:Nat)=>V.int (k:Int)))->ks.length=9->(∀i j,i<3->j<3->∃k,ks[i+3*j]?=n8 k/\Al G' k ((l+1:Nat):Int)/\Vw G' (CM G (l+2) n) (l+1) k (2^l*i) (2^l*j))->Q (.ref L) H'):aAi a vs H Q
def Pg(a:Ad):Sp:=λvs H Q _=>aAi a vs H Q
theorem aBW{K:O_}{a:Ad}{b H:Hp}{g:GA}{G0 G:Gv}{j:Nat}{σ:St}{q t u v:Nat}{E F I L:R_}{d f h i:List V}{A B C D:Int}{x y z w:Nat}{l:Int}{Q:VK}(s:Ln a g b G0 j H G)(T:b E=n8 (.tup d))(U:b F=n8 (.tup f))(X:b I=n8 (.tup h))(Y:b L=n8 (.tup i))(lv:Al G0 x l/\Al G0 y l/\Al G0 z l/\Al G0 w l)(few:l<=47/\G0.length+j<9000000)
  (k:∀(n:Nat)(m:Gv)(o:Hp),Ln a g b G0 (j+1) o m->AG G m 1->m[n]?=n8 ([(x:Int),(y:Int),(z:Int),(w:Int)],l+1)->Q (.int n) o) (e:(σ[0]?=n8 (n8 (.ref g.p))/\σ[q]?=n8 (n8 (.ref E))/\σ[t]?=n8 (n8 (.ref F))/\σ[u]?=n8 (n8 (.ref I))/\σ[v]?=n8 (n8 (.ref L)))/\atI d A=n8 (.int x)/\atI f B=n8 (.int y)/\atI h C=n8 (.int z)/\atI i D=n8 (.int w):=by exact((Z,Z,Z,Z,Z),Z,Z,Z,Z)):Wh a.L0 "linked" (Fu a) [] E0 (DX 0) (CH (YC (CH (tOp (JO K) (DX q) (tC (V.int A))) (CH (tOp (JO K) (DX t) (tC (V.int B))) (CH (tOp (JO K) (DX u) (tC (V.int C))) (CH (tOp (JO K) (DX v) (tC (V.int D))) Pd))))) Pd) σ H Q:=by
 apply Cr;erw[?M c,((r,r1,r2,r3,r4),N,O,R,S)=e];apply c;erw[-c M,(_,r,(xq3 Z s.gr.hp (Cf g) (ixt r1 (s.kt T) N (ixt r2 (s.kt U) O (ixt r3 (s.kt X) R (ixt r4 (s.kt Y) S (S_4,λ_ hu=>lnk s hu lv few.1 few.2 k)))))))]
theorem vw4{G:Gv}{c:Nat->Nat->Int}{l m x y z w X Y:Nat}{n:Int}(e:G[m]?=n8 ([(x:Int),(y:Int),(z:Int),(w:Int)],n))(h:Vw G c l x (2^l*X) (2^l*Y))(i:Vw G c l y (2^l*(X+1)) (2^l*Y))(j:Vw G c l z (2^l*X) (2^l*(Y+1)))(k:Vw G c l w (2^l*(X+1)) (2^l*(Y+1))):Vw G c (l+1) m (2^l*X) (2^l*Y):=by
 erw[xa3 (EE e) λb d f g=>?_,<-b,<-d,<-f,<-g,.of h i j k]
theorem vwQ{G:Gv}{c:Nat->Nat->Int}{l m x y z w X Y:Nat}{h:Int}(e:G[m]?=n8 ([(x:Int),(y:Int),(z:Int),(w:Int)],h))(v:Vw G c (l+1) m (2^l*X) (2^l*Y)):Vw G c l x (2^l*X) (2^l*Y)/\Vw G c l y (2^l*(X+1)) (2^l*Y)/\Vw G c l z (2^l*X) (2^l*(Y+1))/\Vw G c l w (2^l*(X+1)) (2^l*(Y+1)):=by
 erw[xa3 (EE e) λb d f g=>?_,<-b,<-d,<-f,<-g,(v.q (i:=0) (j:=0) A6 A6,(v.q (i:=1) (j:=0) A6 A6).at' A3 Z,(v.q (i:=0) (j:=1) A6 A6).at' Z A3,(v.q (i:=1) (j:=1) A6 A6).at' A3 A3)]
theorem aC0(F:Fun K "nine_parts" "nine_parts" IQ f fd)(T:Top K mg a)(U:BY P w K mg n6 CX0 2 a.L0 "linked" Bh (Fu a)):AJ P w K mg n6 CX0 3 f fd Ew (Pg a):=by
 erw[F.ok Df (λvs H Q E h=>?_) (λbi A an s H vs Q E hr h=>?_)]
 .apply Cr;erw[?G_ c,(g,G,n,l,rfl,_)=h];apply c;clear c G_;rfl
 .apply Cr;erw[?G_ c,(g,G,n,l,rfl,B,ok,hl,bl,few,k)=h,Cd (ok.four hl) λqa qb qc qd en la lb lc ld=>Cd (ok.four la) λa0 a1 a2 a3 ea bm af ag C=>Cd (ok.four lb) λb0 b1 b2 b3 eb ah bn D ai=>Cd (ok.four lc) λc0 c1 c2 c3 ec aj I bo ak=>Cd (ok.four ld) λd0 d1 d2 d3 ed M al am bp=>xea B.pt λts X Y=>xea (PairedM.get Y en) λt et v=>xea (PairedM.get Y ea) λta aa d=>xea (PairedM.get Y eb) λtb ab m=>xea (PairedM.get Y ec) λtc ac p=>xea (PairedM.get Y ed) λtd ad q=>?_];apply c;erw[-c G_,(s0:Ln a g H G 0 H G)=(.refl _ _,λe=>e,B,.refl ok)]
  erw[(_,(Ac (Ax 2 Df.nd (Aj Ar (AA pv0 Z) pv1 R_9)) (Ac (Ax 3 Df.nd (Aj Ar (AA pv0 Z) (Aj Ao pv2 Ae R_9) R_9)) (Ac (Ax 4 Df.nd (Aj Ar (AA pv0 Z) (Aj Ao pv2 Ae R_9) R_9)) (Ac (Ax 5 Df.nd (Aj Ar (AA pv0 Z) (Aj Ao pv2 Ae R_9) R_9)) (Ac (Ax 6 Df.nd (Aj Ar (AA pv0 Z) (Aj Ao pv2 Ae R_9) R_9)) (Ag (Av (BO (Aa (Aj Ao pv2 Ae R_9) (Aa (AD pv0 U (rm hr) AQ (Bb (Aa (Aj Ao pv3 Ae R_9) (Aa (Aj Ao pv4 Ae R_9) (Aa (Aj Ao pv3 Ae R_9) (Aa (Aj Ao pv4 Ae R_9) Ab)))) Ab)) (Aa (Aj Ao pv2 Ae R_9) (Aa (AD pv0 U (rm hr) AQ (Bb (Aa (Aj Ao pv3 Ae R_9) (Aa (Aj Ao pv3 Ae R_9) (Aa (Aj Ao pv5 Ae R_9) (Aa (Aj Ao pv5 Ae R_9) Ab)))) Ab)) (Aa (AD pv0 U (rm hr) AQ (Bb (Aa (Aj Ao pv3 Ae R_9) (Aa (Aj Ao pv4 Ae R_9) (Aa (Aj Ao pv5 Ae R_9) (Aa (Aj Ao pv6 Ae R_9) Ab)))) Ab)) (Aa (AD pv0 U (rm hr) AQ (Bb (Aa (Aj Ao pv4 Ae R_9) (Aa (Aj Ao pv4 Ae R_9) (Aa (Aj Ao pv6 Ae R_9) (Aa (Aj Ao pv6 Ae R_9) Ab)))) Ab)) (Aa (Aj Ao pv2 Ae R_9) (Aa (AD pv0 U (rm hr) AQ (Bb (Aa (Aj Ao pv5 Ae R_9) (Aa (Aj Ao pv6 Ae R_9) (Aa (Aj Ao pv5 Ae R_9) (Aa (Aj Ao pv6 Ae R_9) Ab)))) Ab)) (Aa (Aj Ao pv2 Ae R_9) Ab))))))))))))))))),?_),Bn ?_,?a8 bd k0 u ay,xwf Z Z B.hp T.J4 T.L3 (CC g) (xq1 Z (ixp X et ?_)),u (Bn ?_),?a9 be k1 u az,xwf Z Z B.hp T.J4 T.L3 (CC g) (ixt Z v Z (ixp X aa ?_)),u (Bn ?_),?ba bf k2 u a4,xwf Z Z B.hp T.J4 T.L3 (CC g) (ixt Z v Z (ixp X ab ?_)),u (Bn ?_),?bb bg k3 u a5,xwf Z Z B.hp T.J4 T.L3 (CC g) (ixt Z v Z (ixp X ac ?_)),u (Bn ?_),?bc bh k4 u a7,xwf Z Z B.hp T.J4 T.L3 (CC g) (ixt Z v Z (ixp X ad ?_)),u (aHq (GN (ixt Z (s0.kt v) Z (GN (aBW s0 d m d m (af,ah,C,D) (by lia,D8 few A6) λm1 G1 H1 s1 bj e1=>?_))))),GN (ixt Z (s1.kt v) Z (GN (aBW s1 d d p p (ag,C,aj,I) (by lia,by lia) λm3 G3 H3 s3 ae e3=>?_))),GN (aBW s3 d m p q (C,D,I,M) (by lia,by lia) λm4 G4 H4 s4 W e4=>?_),GN (aBW s4 m m q q (D,ai,M,al) (by lia,by lia) λm5 G5 H5 s5 z e5=>?_),GN (ixt Z (s5.kt v) Z (GN (aBW s5 p q p q (I,M,ak,am) (by lia,by lia) λm7 G7 H7 s7 r e7=>?_))),GN (ixt Z (s7.kt v) Z ((by show 9<=sizeLine;decide),λL hL=>?_)),b=s7.go,sL=An (o:=.lst (([qa,m1,qb,m3,m4,m5,qc,m7,qd]:J_).map λ(k:Nat)=>V.int (k:Int))) hL,k L [qa,m1,qb,m3,m4,m5,qc,m7,qd] G7 _ (s7.fr.trans (As.fr sL)) (s7.gr.same sL) b Af Z ?_,(v0:Vw G (CM G (l+2) n) (l+1+1) n (2^(l+1)*0) (2^(l+1)*0))=λx y _ _=>Z,(p1:2^(l+1)=2^l*2)=M6 ..,xa3 (vwQ (b.get en) (v0.goes ok b hl)) λva vb vc vd=>?_,va=va.at' (X':=2^l*0) (Y':=2^l*0) A3 A3,vb=vb.at' (X':=2^l*2) (Y':=2^l*0) A3 A3,vc=vc.at' (X':=2^l*0) (Y':=2^l*2) A3 A3,vd=vd.at' (X':=2^l*2) (Y':=2^l*2) A3 A3,xa3 (vwQ (b.get ea) va) λbq ao aq N=>xa3 (vwQ (b.get eb) vb) λar br O as=>xa3 (vwQ (b.get ec) vc) λau R bt av=>xa3 (vwQ (b.get ed) vd) λS aw ax bu=>?_,g5=r.get e5,g4=r.get (z.get e4),g3=r.get (z.get (W.get e3)),g1=r.get (z.get (W.get (ae.get e1))),?i j hi hj]
  match i,hi,j,hj with
  |0,_,0,_=>exact(qa,Z,b.lev la,va)
  |1,_,0,_=>exact(m1,Z,(_,g1,Z),vw4 g1 ao ar N O)
  |2,_,0,_=>exact(qb,Z,b.lev lb,vb)
  |0,_,1,_=>exact(m3,Z,(_,g3,Z),vw4 g3 aq N au R)
  |1,_,1,_=>exact(m4,Z,(_,g4,Z),vw4 g4 N O R S)
  |2,_,1,_=>exact(m5,Z,(_,g5,Z),vw4 g5 O as S aw)
  |0,_,2,_=>exact(qc,Z,b.lev lc,vc)
  |1,_,2,_=>exact(m7,Z,(_,e7,Z),vw4 e7 R S av ax)
  |2,_,2,_=>exact(qd,Z,b.lev ld,vd)
inductive Yp(vs:List V)(H:Hp)(Q:VK):Prop
|mk (L:R_) (k0 k1 k2 k3 k4 k5 k6 k7 k8:Nat) (_:vs=[.ref L]) (_:H L=n8 (.lst [.int k0,.int k1,.int k2,.int k3,.int k4,.int k5,.int k6,.int k7,.int k8])) (_:∀(M t0 t1 t2 t3:R_)(H':Hp),As H H'->H' M=n8 (.lst [.ref t0,.ref t1,.ref t2,.ref t3])->H' t0=n8 (.tup [.int k0,.int k1,.int k3,.int k4])->H' t1=n8 (.tup [.int k1,.int k2,.int k4,.int k5])->H' t2=n8 (.tup [.int k3,.int k4,.int k6,.int k7])->H' t3=n8 (.tup [.int k4,.int k5,.int k7,.int k8])->Q (.ref M) H'):Yp vs H Q
def Mv:Sp:=λvs H Q _=>Yp vs H Q
theorem aBt(F:Fun K "fours_of" "fours_of" Mb f fd)(T:Top K mg a):AJ P w K mg n6 CX0 1 f fd Vy Mv:=by
 erw[F.ok TH (λvs H Q E h=>?_) (λaa A X s H vs Q E hr h=>?_)]
 .apply Cr;erw[?R c,(L,v,i,x,l,b,m,y,n,z,rfl,_)=h];apply c;clear c R;rfl
 .apply Cr;erw[?R c,(L,v,i,x,l,b,m,y,n,z,rfl,hL,k)=h];apply c;erw[-c R,(_,(Ag (Av (BO (Bb (Aa (Aj Ar pv0 Ae R_9) (Aa (Aj Ar pv0 Ae R_9) (Aa (Aj Ar pv0 Ae R_9) (Aa (Aj Ar pv0 Ae R_9) Ab)))) (Bb (Aa (Aj Ar pv0 Ae R_9) (Aa (Aj Ar pv0 Ae R_9) (Aa (Aj Ar pv0 Ae R_9) (Aa (Aj Ar pv0 Ae R_9) Ab)))) (Bb (Aa (Aj Ar pv0 Ae R_9) (Aa (Aj Ar pv0 Ae R_9) (Aa (Aj Ar pv0 Ae R_9) (Aa (Aj Ar pv0 Ae R_9) Ab)))) (Bb (Aa (Aj Ar pv0 Ae R_9) (Aa (Aj Ar pv0 Ae R_9) (Aa (Aj Ar pv0 Ae R_9) (Aa (Aj Ar pv0 Ae R_9) Ab)))) Ab))))))),?_),xwi Z Z Z (SqL.of hL) (Ai (j:=0) Z) (xwi Z Z Z (SqL.of hL) (Ai (j:=1) Z) (xwi Z Z Z (SqL.of hL) (Ai (j:=3) Z) (xwi Z Z Z (SqL.of hL) (Ai (j:=4) Z) (S_4,λD S=>?_)))),Y=An (o:=.tup [.int (v:Int),.int (i:Int),.int (l:Int),.int (b:Int)]) S,(h0:upd H D (.tup [.int (v:Int),.int (i:Int),.int (l:Int),.int (b:Int)]) D=n8 (.tup [.int (v:Int),.int (i:Int),.int (l:Int),.int (b:Int)]))=Af];generalize q:upd H D (.tup [.int (v:Int),.int (i:Int),.int (l:Int),.int (b:Int)])=X0 at Y h0;erw[d=Y _ _ hL]
  first|rw[q]|(show ∃_,_;rw[q])|skip
  erw[xwi Z Z Z (SqL.of d) (Ai (j:=1) Z) (xwi Z Z Z (SqL.of d) (Ai (j:=2) Z) (xwi Z Z Z (SqL.of d) (Ai (j:=4) Z) (xwi Z Z Z (SqL.of d) (Ai (j:=5) Z) (S_4,λG U=>?_)))),O=An (o:=.tup [.int (i:Int),.int (x:Int),.int (b:Int),.int (m:Int)]) U,(h1:upd X0 G (.tup [.int (i:Int),.int (x:Int),.int (b:Int),.int (m:Int)]) G=n8 (.tup [.int (i:Int),.int (x:Int),.int (b:Int),.int (m:Int)]))=Af];generalize r:upd X0 G (.tup [.int (i:Int),.int (x:Int),.int (b:Int),.int (m:Int)])=X1 at O h1;erw[e=O _ _ d]
  first|rw[r]|(show ∃_,_;rw[r])|skip
  erw[xwi Z Z Z (SqL.of e) (Ai (j:=3) Z) (xwi Z Z Z (SqL.of e) (Ai (j:=4) Z) (xwi Z Z Z (SqL.of e) (Ai (j:=6) Z) (xwi Z Z Z (SqL.of e) (Ai (j:=7) Z) (S_4,λI V=>?_)))),B=An (o:=.tup [.int (l:Int),.int (b:Int),.int (y:Int),.int (n:Int)]) V,(h2:upd X1 I (.tup [.int (l:Int),.int (b:Int),.int (y:Int),.int (n:Int)]) I=n8 (.tup [.int (l:Int),.int (b:Int),.int (y:Int),.int (n:Int)]))=Af];generalize t:upd X1 I (.tup [.int (l:Int),.int (b:Int),.int (y:Int),.int (n:Int)])=X2 at B h2;erw[g=B _ _ e]
  first|rw[t]|(show ∃_,_;rw[t])|skip
  erw[xwi Z Z Z (SqL.of g) (Ai (j:=4) Z) (xwi Z Z Z (SqL.of g) (Ai (j:=5) Z) (xwi Z Z Z (SqL.of g) (Ai (j:=7) Z) (xwi Z Z Z (SqL.of g) (Ai (j:=8) Z) (S_4,λN W=>?_)))),p=An (o:=.tup [.int (b:Int),.int (m:Int),.int (n:Int),.int (z:Int)]) W,(h3:upd X2 N (.tup [.int (b:Int),.int (m:Int),.int (n:Int),.int (z:Int)]) N=n8 (.tup [.int (b:Int),.int (m:Int),.int (n:Int),.int (z:Int)]))=Af];generalize u:upd X2 N (.tup [.int (b:Int),.int (m:Int),.int (n:Int),.int (z:Int)])=X3 at p h3;erw[ab=p _ _ g]
  first|rw[u]|(show ∃_,_;rw[u])|skip
  erw[(S_4,λM hM=>?_),C=An (o:=.lst [.ref D,.ref G,.ref I,.ref N]) hM,k M D G I N _ ((((Y.trans O).trans B).trans p).trans C) Af (C _ _ (p _ _ (B _ _ (O _ _ h0)))) (C _ _ (p _ _ (B _ _ h1))) (C _ _ (p _ _ h2)) (C _ _ h3)]
inductive aDe(a:Ad)(vs:List V)(H:Hp)(Q:VK):Prop
|mk (g:GA) (G:Gv) (t:R_) (f0 f1 f2 f3 l:Nat) (_:vs=[.ref g.p,.ref t]) (_:AL a H g G) (_:GOk G) (_:H t=n8 (.tup [.int f0,.int f1,.int f2,.int f3])) (_:Al G f0 ((l+1:Nat):Int)/\Al G f1 ((l+1:Nat):Int)/\Al G f2 ((l+1:Nat):Int)/\Al G f3 ((l+1:Nat):Int)) (_:l<=47) (_:G.length<9000000) (_:∀(k:Nat)(G':Gv)(H':Hp),Fr g H H'->AL a H' g G'->AG G G' 1->G'[k]?=n8 ([((qO G f0 3:Nat):Int),((qO G f1 2:Nat):Int),((qO G f2 1:Nat):Int),((qO G f3 0:Nat):Int)],(l:Int)+1)->Q (.int k) H'):aDe a vs H Q
def Wq(a:Ad):Sp:=λvs H Q _=>aDe a vs H Q
theorem aFE(F:Fun K "met_in_the_middle" "met_in_the_middle" DI f fd)(T:Top K mg a)(a6:BY P w K mg n6 CX0 2 a.L0 "linked" Bh (Fu a)):AJ P w K mg n6 CX0 3 f fd CK (Wq a):=by
 erw[F.ok Fl (λvs H Q E h=>?_) (λab A V s H vs Q E hr h=>?_)]
 .apply Cr;erw[?x b,(g,G,t,f0,f1,f2,f3,l,rfl,_)=h];apply b;clear b x;rfl
 .apply Cr;erw[?x b,(g,G,t,f0,f1,f2,f3,l,rfl,r,ok,v,(l0,l1,l2,l3),ac,few,k)=h,xea r.pt λts p q=>Cd (ok.four l0) λaq ar as c e0 ad ae af O=>xea (PairedM.get q e0) λu0 y I=>xa3 (EE e0) λa3 a4 a5 W=>Cd (ok.four l1) λau av d aw e1 ag ah R ai=>xea (PairedM.get q e1) λu1 z L=>xa3 (EE e1) λa7 a8 X a9=>Cd (ok.four l2) λax i ay az e2 aj S ak al=>xea (PairedM.get q e2) λu2 B M=>xa3 (EE e2) λba Y bb bc=>Cd (ok.four l3) λm a0 a1 a2 e3 U am an ao=>xea (PairedM.get q e3) λu3 C N=>xa3 (EE e3) λaa bd be bf=>?_];apply b;clear b x;rw[W,X,Y,aa]at k;erw[(_,(Ac (Ax 2 Fl.nd (AA pv0 Z)) (Ag (Av (AD pv0 a6 (rm hr) AQ (Bb (Aa (Aj Ao (Aj Ar pv2 (Aj Ao pv1 Ae R_9) R_9) Ae R_9) (Aa (Aj Ao (Aj Ar pv2 (Aj Ao pv1 Ae R_9) R_9) Ae R_9) (Aa (Aj Ao (Aj Ar pv2 (Aj Ao pv1 Ae R_9) R_9) Ae R_9) (Aa (Aj Ao (Aj Ar pv2 (Aj Ao pv1 Ae R_9) R_9) Ae R_9) Ab)))) Ab))))),?_),xwf Z Z r.hp T.J4 T.L3 (CC g) (xwn Z Z r.hp (Cf g) Z (xwi Z Z Z (SqT.of v) (Ai (j:=0) Z) (xq4 Z Z (SqL.of p) (Ai (by rw[C3,y];rfl)) (xq4 Z Z (SqT.of I) (Ai (j:=3) Z) (xwj Z Z Z Z (SqT.of v) (Ai (j:=1) Z) (xq4 Z Z (SqL.of p) (Ai (by rw[C3,z];rfl)) (xq4 Z Z (SqT.of L) (Ai (j:=2) Z) (xwj Z Z Z Z (SqT.of v) (Ai (j:=2) Z) (xq4 Z Z (SqL.of p) (Ai (by rw[C3,B];rfl)) (xq4 Z Z (SqT.of M) (Ai (j:=1) Z) (xwj Z Z Z Z (SqT.of v) (Ai (j:=3) Z) (xq4 Z Z (SqL.of p) (Ai (by rw[C3,C];rfl)) (xq4 Z Z (SqT.of N) (Ai (j:=0) Z) (S_4,λu hu=>?_)))))))))))))),s1=An (o:=.tup [.int (c:Int),.int (d:Int),.int (i:Int),.int (m:Int)]) hu,(g,G,u,c,d,i,m,(l:Int),Z,r.same s1,ok,Af,(O,R,S,U),by lia,few,λn G' H' fr D go e=>k n G' H' ((As.fr s1).trans fr) D go e)]
end
end J
namespace J
open PySem L2
def Sv(o:HO):Prop:=Nv o\/∃xs:List V,o=.lst xs/\xs.length<=50
def KpS(H H':Hp):Prop:=∀b o,H b=n8 o->Sv o->H' b=n8 o
theorem Sv.lst{xs:List V}(h:xs.length<=50):Sv (.lst xs):=.inr (xs,Z,h)
theorem Bs.long(h:Bs G):56<=G.length:=(C2.mp (h 47 A6)).1
theorem Sv.nl{b x:R_}{H:Hp}{o:HO}{xs:List V}(s:Sv o)(e:H b=n8 o)(a:H x=n8 (.lst xs))(d:50<xs.length):b≠x:=λz=>by
 rw[z,a]at e;cases e;rcases s with s|⟨ys,c,f⟩
 .cases s
 .cases c;lia
theorem Sv.nt{b x:R_}{H:Hp}{o:HO}{k:List (List Key×V)}(s:Sv o)(e:H b=n8 o)(a:H x=n8 (.dT k)):b≠x:=λz=>by
 rw[z,a]at e;cases e;rcases s with s|⟨ys,c,d⟩
 .cases s
 .cases c
theorem Sv.nk{b x:R_}{H:Hp}{o:HO}{k:List (Key×V)}(s:Sv o)(e:H b=n8 o)(a:H x=n8 (.dK k)):b≠x:=λz=>by
 rw[z,a]at e;cases e;rcases s with s|⟨ys,c,d⟩
 .cases s
 .cases c
theorem Fr.kps{a:Ad}{H d:Hp}{g:GA}{G:Gv}(f:Fr g H d)(c:AL a H g G)(j:56<=G.length):KpS H d:=by
 erw[?b o e s,xea c.pt λts h i=>?_,lt=A3e i,f _ _ e (s.nl e c.lv (by rw[C0];lia)) (s.nl e h (by rw[C0];lia)) (s.nt e c.nm)]
theorem FrJ.kps{a:Ad}{H d:Hp}{g:GA}{G:Gv}{N M:Nat}{r:Aw}{m:MA}(f:FrJ g m H d)(c:AL a H g G)(q:56<=G.length)(h:Jv H g G N M r m):KpS H d:=by
 erw[?b o e s,xea c.pt λts l n=>xea h.ce λt i _=>?_,lt=A3e n,f _ _ e (s.nl e c.lv (by rw[C0];lia)) (s.nl e l (by rw[C0];lia)) (s.nt e c.nm) (s.nt e i) λz=>?_,(j,p)=J6 z,xea (h.sq j b p) λu k _=>s.nk e k Z]
theorem Yf(ok:GOk G):∀(l:Nat){n m:Nat},Al G n (l:Int)->Al G m (l:Int)->(∀x y,x<2^l->y<2^l->CM G l n x y=CM G l m x y)->n=m
|0,n,m,_,_,h=>A4d (h 0 0 A6 A6)
|l+1,n,m,hn,hm,h=>by
 have a:∀i j,i<2->j<2->qO G n (i+2*j)=qO G m (i+2*j):=λi j hi c=>by
  erw[Yf ok l (Mh ok hn A3) (Mh ok hm A3) λx y f g=>?_,[-Qv G l n f g hi c,-Qv G l m f g hi c],(C:2^l*i<=2^l*1)=N7 _ (O8 hi),(D:2^l*j<=2^l*1)=N7 _ (O8 c),h _ _ (by rw[M6];lia) (by rw[M6];lia)]
 erw[xe4 (ok.four hn) λx y z w b=>xa b λe _=>xe4 (ok.four hm) λF H I E b=>xa b λd _=>xa3 (EE e) λk o p q=>xa3 (EE d) λr s b2 t=>?_,u=a 0 0 A6 A6,v=a 1 0 A6 A6,A=a 0 1 A6 A6,B=a 1 1 A6 A6,ok.one e d ?_,[(k.symm.trans (u.trans r)),(o.symm.trans (v.trans s)),(p.symm.trans (A.trans b2)),(q.symm.trans (B.trans t))]]
abbrev Sht:=Nat->Nat->Int
abbrev KTy:=Nat->Nat->Sht->Prop
def Zy(l:Nat)(φ ψ:Sht):Prop:=∀x y,x<2^(l+2)->y<2^(l+2)->φ x y=ψ x y
noncomputable def s47(f:L_):Nat:=((List.range 47).map f).sum
theorem Wj(f:L_)(e:Nat):∀l:List Nat,l.Nodup->(l.map λi=>if i=e then f i+1 else f i).sum=(l.map f).sum+if e∈l then 1 else 0
|[],_=>by simp
|a::l,h=>by
 rw[N8]at h;erw[[J0,J0,R0,R0,Wj f e l h.2],(z:a=e)]
 .erw[<-z,[A2h rfl,A2f h.1,A2h D5]];lia
 .erw[[A2f z],(y:e∈l)]
  .rw[A2h y,A2h (D6 _ y)];lia
  .rw[A2f y,A2f (λq=>by rcases C4.mp q with rfl|q;erw[z rfl,y q])];lia
theorem WA(f:L_)(h:e<47):s47 (λi=>if i=e then f i+1 else f i)=s47 f+1:=by
 erw[¬s47,[Wj f e _ List.nodup_range,A2h (N9.mpr h)]]
theorem Ya{α β:Type}(R:α->β->Prop)(inj:∀x f y,R x y->R f y->x=f):∀(l:List β)(ks:List α),ks.Nodup->(∀k∈ks,∃y∈l,R k y)->ks.length<=l.length
|[],ks,_,h=>by
 cases ks with
 |nil=>erw[C1 _]
 |cons k ks=>erw[xea (h k D5) λy i _=>?_,!i]
|y::l,ks,nd,h=>by
 classical
 have j:=Ya R inj l (ks.filter λk=>decide (¬R k y)) (nd.sublist List.filter_sublist) λk b=>by
  rw[Y6,decide_eq_true_iff]at b;erw[xea (h k b.1) λz c e=>?_];rcases C4.mp c with rfl|c
  .erw[absurd e b.2]
  .exact(z,c,e)
 have few:∀ks:List α,ks.Nodup->ks.length<=(ks.filter λk=>decide (¬R k y)).length+1:=by
  intro ks;induction ks with
  |nil=>intro _;erw[L7 _]
  |cons k ks d =>
   intro a;rw[N8]at a;erw[(z:R k y)]
   .have:ks.filter (λk=>decide (¬R k y))=ks:=List.filter_eq_self.mpr λx g=>A2g λq=>a.1 (by erw[[inj k x y z q],g]);erw[[List.filter_cons_of_neg (by simp[z]),this,F2],C1 _]
   .rw[List.filter_cons_of_pos (by simp[z]),F2,F2];have:=d a.2;erw[U3 this A6]
 have:=few ks nd;rw[F2];lia
structure Ni(Κ:KTy)(N:Nat):Prop where
ls:∃M:Nat->Nat,s47 M<=N/\∀e,∃Ls:List (Nat×Sht),Ls.length<=M e/\∀l φ,Κ l e φ->∃ψ,#[l,ψ]∈Ls/\Zy l φ ψ
ext:∀{l e φ ψ},Κ l e φ->Zy l φ ψ->Κ l e ψ
theorem Wk(f:L_):∀(l:J_){e:Nat},e∈l->f e<=(l.map f).sum
|a::l,e,h=>by
 rw[J0,R0];rcases C4.mp h with rfl|h
 .erw[F5 _ _]
 .erw[C9 (Wk f l h) (P4 _ _)]
theorem Tm{f g:L_}:∀{l:J_},(∀e∈l,f e<=g e)->(l.map f).sum<=(l.map g).sum
|[],_=>C1 _
|a::l,h=>by
 have:=Tm (l:=l) λe b=>h e (D6 _ b);have:=h a D5;rw[J0,R0,J0,R0];lia
structure Cn(H:Hp)(G:Gv)(m:MA)(Κ:KTy)(b:Nat)(f:L_):Prop where
sq:∀(e:Nat) d,m.ds[e]?=n8 d->∃kv,H d=n8 (.dK kv)/\kv.length=f e/\(kv.map (·.1)).Nodup/\∀k∈kv.map (·.1),∃n l:Nat,k=Sum.inl (n:Int)/\Al G n ((l+2:Nat):Int)/\Κ l e (CM G (l+2) n)
gl:G.length<=b+10*s47 f
ce:∃kc,H m.kc=n8 (.dT kc)/\kc.length<=b+10*s47 f
theorem Cn.few'{H:Hp}{G:Gv}{m:MA}{Κ:KTy}{b:Nat}{f M:L_}(h:Cn H G m Κ b f)(ok:GOk G)(fin:∀e,∃a:List (Nat×Sht),a.length<=M e/\∀l φ,Κ l e φ->∃ψ,#[l,ψ]∈a/\Zy l φ ψ)(len:m.ds.length=47){e:Nat}(z:e<47):f e<=M e:=by
 have i:e<m.ds.length:=by erw[[len],z]
 erw[CP (h.sq e (m.ds[e]'i) (C7 _)) λB _ u v w=>xea (fin e) λa C D=>C9 ?_ C,[-u,-C0 (f:=(·.1)) (as:=B)],Ya (λ(k:Key)(q:Nat×Sht)=>∃n:Nat,k=Sum.inl (n:Int)/\Al G n ((q.1+2:Nat):Int)/\Zy q.1 (CM G (q.1+2) n) q.2) ?_ a _ v λk A=>?_]
 .erw[?x K j o p,(l,ψ)=j,(n,rfl,c,d)=o,(I,rfl,t,b2)=p,[Yf ok _ c t λx y r s=>(d x y r s).trans (b2 x y r s).symm]]
 .erw[AK (w k A) λn l g c d=>?_,<-g,xea (D l _ d) fun ψ E F=>(_,E,n,Z,c,F)]
theorem Cn.sum{H:Hp}{G:Gv}{m:MA}{Κ:KTy}{b N:Nat}{f:L_}(h:Cn H G m Κ b f)(ok:GOk G)(fin:Ni Κ N)(len:m.ds.length=47):s47 f<=N:=by
 erw[xea fin.ls λM a c=>C9 (Tm λe d=>h.few' ok c len (N9.mp d)) a]
theorem Cn.few(h:Cn H G m Κ b f)(ok:GOk G)(fin:Ni Κ N)(len:m.ds.length=47)(a:e<47):f e<=N:=C9 (Wk f _ (N9.mpr a)) (h.sum ok fin len)
theorem Cn.mono(h:Cn H G m Κ b f)(e:b<=a):Cn H G m Κ a f:=by
 erw[xea h.ce λd c g=>?_];have:=h.gl;exact(h.sq,by lia,d,c,by lia)
theorem Cn.kp(h:Cn H G m Κ b f)(ok:GOk G)(j:AG G r i)(z:∀d∈m.ds,∀o,H d=n8 o->g d=n8 o)(A:∀c,H m.kc=n8 (.dT c)->∃a,g m.kc=n8 (.dT a)/\a.length<=c.length+i):Cn g r m Κ (b+i) f:=by
 erw[(λe d t=>?_,?_,?_)]
 .erw[CP (h.sq e d t) λB p u q v=>(B,z d (D0 t) _ p,u,q,λk y=>?_)]
  erw[AK (v k y) λn l w s x=>(n,l,w,j.lev s,by erw[[Di ok j s],x])]
 .have:=h.gl;have:=j.few;lia
 .erw[xea h.ce λc p u=>xea (A c p) λa q v=>(a,q,by lia)]
structure JZ(a:Ad)(H:Hp)(g:GA)(G:Gv)(Κ:KTy)(N b:Nat)(p dx mem pr:R_)(r:Aw)(m:MA):Prop where
jw:JW a H g G N (b+10*N) p dx mem pr r m
cn:∃f,Cn H G m Κ b f
section
variable{a:Ad}{H H':Hp}{g:GA}{G G':Gv}{Κ:KTy}{N b i:Nat}{p dx mem pr:R_}{r:Aw}{m:MA}
theorem JZ.sz(h:JZ a H g G Κ N b p dx mem pr r m)(fin:Ni Κ N):G.length<=b+10*N:=by
 erw[(f,c)=h.cn];have:=c.gl;have:=c.sum h.jw.ok fin h.jw.me.len;lia
theorem JZ.mono(h:JZ a H g G Κ N b p dx mem pr r m)(e:b<=d):JZ a H g G Κ N d p dx mem pr r m:=by
 erw[(f,c)=h.cn,(h.jw.mono (C1 _) A3,f,c.mono e)]
theorem JZ.same(h:JZ a H g G Κ N b p dx mem pr r m)(s:As H H'):JZ a H' g G Κ N b p dx mem pr r m:=by
 erw[(f,c)=h.cn,(JW.same s h.jw,f,c.kp (i:=0) h.jw.ok (AG.refl h.jw.ok) (λd _ o e=>s _ _ e) λj e=>(j,s _ _ e,C1 _))]
theorem JZ.fr(h:JZ a H g G Κ N b p dx mem pr r m)(f:Fr g H H')(k:AL a H' g G')(n:AG G G' i):JZ a H' g G' Κ N (b+i) p dx mem pr r m:=by
 erw[(s,c)=h.cn,xea h.jw.gr.pt λts q _=>((h.jw.fr f k n).mono (C1 _) A3,s,c.kp h.jw.ok n (λd t o e=>?_) λv e=>(v,?_,F5 _ _))]
 .erw[(j,u)=J6 t,xea (c.sq j d u) λw l _=>?_];rw[e]at l;erw[!l,f _ _ e (AC e h.jw.gr.lv A4) (AC e q A4) (AC e h.jw.gr.nm A4)]
 .erw[f _ _ e (AC e h.jw.gr.lv A4) (AC e q A4) h.jw.me.ap.2.2]
def No(H:Hp)(m:MA)(e n:Nat):Prop:=∀d kv,m.ds[e]?=n8 d->H d=n8 (.dK kv)->BQ kv (Sum.inl (n:Int))=n9
def Up(l:Nat)(G:Gv)(H H':Hp)(m:MA):Prop:=∀e n l':Nat,Al G n ((l'+2:Nat):Int)->l<=l'->No H m e n->No H' m e n
theorem Up.refl(l:Nat)(G:Gv)(H:Hp)(m:MA):Up l G H H m:=λ_ _ _ _ _ h=>h
theorem Up.trans{c d f:Hp}(h:Up l G c d m)(k:Up l G' d f m)(t:AG G G' i):Up l G c f m:=λe n q j o s=>k e n q (t.lev j) o (h e n q j o s)
theorem Up.mono{l c:Nat}(h:Up l G H H' m)(e:l<=c):Up c G H H' m:=λk n o d f j=>h k n o d (C9 e f) j
theorem Up.of(l:Nat){N M:Nat}(q:Jv H g G N M r m)(k:∀d∈m.ds,∀o,H d=n8 o->H' d=n8 o):Up l G H H' m:=λe n u _ _ h d t c j=>by
 erw[xea (q.sq e d c) λs f _=>?_];have:=k d (D0 c) _ f;rw[j]at this;erw[!this,h d _ c f]
theorem JZ.upS(l:Nat)(h:JZ a H g G Κ N b p dx mem pr r m)(s:As H H'):Up l G H H' m:=Up.of l h.jw.me λd _ o e=>s _ _ e
theorem JZ.upF(l:Nat)(h:JZ a H g G Κ N b p dx mem pr r m)(f:Fr g H H'):Up l G H H' m:=Up.of l h.jw.me λd n o e=>by
 erw[xea h.jw.gr.pt λts k _=>?_,(j,q)=J6 n,xea (h.jw.me.sq j d q) λs c _=>?_];rw[e]at c;erw[!c,f _ _ e (AC e h.jw.gr.lv A4) (AC e k A4) (AC e h.jw.gr.nm A4)]
theorem JW.tc{c:List (List Key×V)}(h:JW a H g G N M p dx mem pr r m)(e:H m.kc=n8 (.dT c)):JW a H g G N c.length p dx mem pr r m:=by
 erw[AI h.me.ce λj d _ f=>?_];rw[e]at d;erw[!d,(h.gr,h.ok,h.bs,h.br,h.nbr,h.hp,h.ru,h.rok,h.rest,(h.me.tp,h.me.l,h.me.ap,h.me.len,h.me.nd,h.me.sq,_,e,C1 _,f))]
theorem JZ.mid{t:List (List Key×V)}(h:JZ a H g G Κ N b p dx mem pr r m)(c:Cn H G m Κ b f)(s:H m.kc=n8 (.dT t))(fr:FrC g m H H')(k:JW a H' g G' N (t.length+4) p dx mem pr r m)(B:AG G G' 1):JZ a H' g G' Κ N (b+4) p dx mem pr r m/\∀l,Up l G H H' m:=by
 erw[xea h.jw.gr.pt λts C _=>?_];have y:∀d∈m.ds,∀o,H d=n8 o->H' d=n8 o:=λd D o e=>by
  erw[(j,k)=J6 D,xea (h.jw.me.sq j d k) λF x _=>?_];rw[e]at x;erw[!x,fr _ _ e (AC e h.jw.gr.lv A4) (AC e C A4) (AC e h.jw.gr.nm A4) (AC e s A4)]
 erw[AI k.me.ce λq v z A=>AI h.jw.me.ce λu w E _=>?_];rw[s]at w;erw[!w,n=k.me,(((k.gr,k.ok,k.bs,k.br,k.nbr,k.hp,k.ru,k.rok,k.rest,(n.tp,n.l,n.ap,n.len,n.nd,n.sq,q,v,by lia,A)),f,c.kp (i:=4) h.jw.ok (B.mono A6) y λu e=>(q,v,by rw[s]at e;erw[!e,z])),λl=>Up.of l h.jw.me y)]
theorem JZ.put{e n k l:Nat}{d:R_}{t:List (Key×V)}(h:JZ a H g G Κ N (b+10) p dx mem pr r m)(fin:Ni Κ N)(B:m.ds[e]?=n8 d)(F:H d=n8 (.dK t))(no:BQ t (Sum.inl (n:Int))=n9)(S:Al G n ((l+2:Nat):Int))(hk:Κ l e (CM G (l+2) n))(jr:JR r G e n k):JZ a (upd H d (.dK (EL t (Sum.inl (n:Int)) (.int (k:Int))))) g G Κ N b p dx mem pr r m/\Up (l+1) G H (upd H d (.dK (EL t (Sum.inl (n:Int)) (.int (k:Int))))) m:=by
 erw[(f,c)=h.cn,(D:e<47)=by erw[[-h.jw.me.len],(C2.mp B).1]]
 erw[o=h.jw.putS B F jr,CP (c.sq e d B) λab U q2 q3 q4=>?_];rw[F]at U;erw[!U,T=MG (.int (k:Int)) no];rw[T]at o⊢;have nn:(Sum.inl (n:Int):Key)∉t.map (·.1):=λz=>by
  erw[xea (F0.mp z) λq hq eq=>?_];have:(t.find? λt=>decide (t.1=(Sum.inl (n:Int):Key)))=n9:=by
   unfold BQ at no;cases y:t.find? λt=>decide (t.1=(Sum.inl (n:Int):Key))with
   |none=>rfl
   |some w=>rw[y]at no;cases no
  have:=List.find?_eq_none.mp this q hq;erw[this (A2g eq)]
 refine xea c.ce λkc Q c2=>?_;have gl:=c.gl;have oth:∀{d':R_}{s:Nat},m.ds[s]?=n8 d'->s≠e->d'≠d:=λ{d' s} j z y=>z (by
  rw[y]at j;exact(List.getElem?_inj (C2.mp j).1 h.jw.me.nd).mp (j.trans B.symm))
 have v:Cn (upd H d (.dK (t++[#[Sum.inl (n:Int),.int (k:Int)]]))) G m Κ b (λi=>if i=e then f i+1 else f i):=by
  erw[(λs d' j=>?_,by rw[WA f D];lia,kc,?_,by rw[WA f D];lia)]
  .erw[(z:s=e)]
   .subst z;rw[B]at j;erw[!j,(_,Af,by rw[A2h rfl,D3,q2];rfl,?_,λk' E=>?_)]
    .erw[[D4,Q6],(q3,by simp,λx hx y hy=>?_),[C5.mp hy],λz=>nn ((show x=Sum.inl (n:Int)from z)▸hx)]
    .rw[D4]at E;rcases J9.mp E with y|y
     .erw[q4 k' y]
     .erw[[C5.mp y],(n,l,Z,S,hk)]
   .erw[CP (c.sq s d' j) λC L M I O=>(C,by erw[[Aq (oth j z)],L],by erw[[A2f z],M],I,O)]
  .erw[[Aq (AC Q F A4)],Q]
 erw[((?_,_,v),λs n' l' a1 a2 P d' C j A=>?_)]
 .erw[(fw:∀{s:Nat},s<47->(if s=e then f s+1 else f s)<=N)=λ{s} he=>v.few h.jw.ok fin h.jw.me.len he,sm=v.sum h.jw.ok fin h.jw.me.len,xea v.ce λK R d2=>?_,u=o.me,AI u.ce λaa W r2 r3=>?_];rw[R]at W;erw[!W,(o.gr,o.ok,o.bs,o.br,o.nbr,o.hp,o.ru,o.rok,o.rest,(u.tp,u.l,u.ap,u.len,u.nd,λs d' j=>?_,K,R,by lia,r3)),CP (u.sq s d' j) λkw X u2 u3 u4=>AI (v.sq s d' j) λac Y v2 _=>?_];rw[X]at Y;erw[!Y,(kw,X,by erw[[v2],fw (by erw[[-h.jw.me.len],(C2.mp j).1])],u3,u4)]
 .erw[(z:s=e)]
  .subst z;rw[B]at j;cases j;rw[Af]at A;erw[!A,[-T,Iy]];have ne:n'≠n:=λy=>by
    subst y;have:((l'+2:Nat):Int)=((l+2:Nat):Int):=by
     erw[xea a1 λq L M=>xea S λq' I O=>?_];rw[L]at I;erw[!I,M.symm.trans O]
    lia
   erw[[A2f (λy=>ne (by have:=Sum.inl.inj y;lia))],P d t B F]
  .rw[Aq (oth j z)]at A;erw[P d' C j A]
end
seal L2.PA L2.PE L2.PS L2.PSs L2.PT L2.PW
structure ClK(r:Aw)(Κ:KTy):Prop where
nine1:∀{l e φ},Κ (l+1) e φ->e<=l->∀i j,i<3->j<3->Κ l e λx y=>φ (x+2^(l+1)*i) (y+2^(l+1)*j)
nine2:∀{l φ},Κ (l+1) (l+1) φ->∀i j,i<3->j<3->Κ l l λx y=>φ (x+2^(l+1)*i) (y+2^(l+1)*j)
four:∀{l φ},Κ (l+1) (l+1) φ->∀i j,i<2->j<2->Κ l l λx y=>Bv r (2^l) φ (x+(2^(l+1)*i+2^l)) (y+(2^(l+1)*j+2^l))
theorem Al.one{i j:Int}(h:Al G n i)(k:Al G n j):i=j:=by
 erw[xea h λq b c=>xea k λp a d=>?_];rw[b]at a;erw[!a,c.symm.trans d]
theorem JR.view{c:Nat->Nat->Int}(h:JR r G e n m)(j:Al G n ((l+2:Nat):Int))(v:Vw G c (l+2) n X Y):Al G m ((l+1:Nat):Int)/\e<=l/\Vw G (Bv r (2^e) c) (l+1) m (X+2^l) (Y+2^l):=by
 erw[CP h λi d a f g=>?_];have b:i=l:=by
  have:=d.one j;lia
 erw[<-b,(f,a,v.jump a g)]
theorem Vw.jr(c:Al G n ((l+1+2:Nat):Int))(a:e<=l+1)(b:Al G m ((l+1+1:Nat):Int))(v:Vw G (Bv r (2^e) (CM G (l+1+2) n)) (l+1+1) m (2^(l+1)) (2^(l+1))):JR r G e n m:=(l+1,c,a,b,v)
theorem aBc{c:Nat->Nat->Int}{l d f g h z X Y i:Nat}(ok:GOk G)(a:AG G b i)(k:Al G d ((l+1:Nat):Int))(m:Al G f ((l+1:Nat):Int))(n:Al G g ((l+1:Nat):Int))(o:Al G h ((l+1:Nat):Int))(u:Vw G c (l+1) d X Y)(v:Vw G c (l+1) f (X+2^(l+1)) Y)(w:Vw G c (l+1) g X (Y+2^(l+1)))(x:Vw G c (l+1) h (X+2^(l+1)) (Y+2^(l+1)))(e:b[z]?=n8 ([((qO G d 3:Nat):Int),((qO G f 2:Nat):Int),((qO G g 1:Nat):Int),((qO G h 0:Nat):Int)],(l:Int)+1)):Vw b c (l+1) z (X+2^l) (Y+2^l):=by
 erw[(D:2^(l+1)=2^l*2)=M6 ..,xa3 (EE e) λy A B C=>?_,p=(u.q (i:=1) (j:=1) A6 A6).goes ok a (Mh ok k A6),r=(v.q (i:=0) (j:=1) A6 A6).goes ok a (Mh ok m A6),s=(w.q (i:=1) (j:=0) A6 A6).goes ok a (Mh ok n A6),t=(x.q (i:=0) (j:=0) A6 A6).goes ok a (Mh ok o A6),Vw.of ?_ ?_ ?_ ?_]
 .erw[[y],p.at' A3 A3]
 .erw[[A],r.at' A3 A3]
 .erw[[B],s.at' A3 A3]
 .erw[[C],t.at' A3 A3]
theorem NV{G b:Gv}{c:Nat->Nat->Int}{l d f g h z X Y i:Nat}{L:Int}(ok:GOk G)(a:AG G b i)(j:Al G d (l:Int))(k:Al G f (l:Int))(m:Al G g (l:Int))(n:Al G h (l:Int))(o:Vw G c l d X Y)(p:Vw G c l f (X+2^l) Y)(q:Vw G c l g X (Y+2^l))(r:Vw G c l h (X+2^l) (Y+2^l))(e:b[z]?=n8 ([(d:Int),(f:Int),(g:Int),(h:Int)],L)):Vw b c (l+1) z X Y:=by
 erw[xa3 (EE e) λs t u v=>Vw.of ?_ ?_ ?_ ?_]
 .erw[[s],o.goes ok a j]
 .erw[[t],p.goes ok a k]
 .erw[[u],q.goes ok a m]
 .erw[[v],r.goes ok a n]
theorem WL(xs:List Nat)(h:xs.length=9):∃a b c d e f g h i,xs=[a,b,c,d,e,f,g,h,i]:=(_,_,_,_,_,_,_,_,_,q9x 9 xs 0 h)
theorem Qo:∀xs:List Nat,xs.length=4->∃a b c d,xs=[a,b,c,d]
|[a,b,c,d],_=>(a,b,c,d,Z)
noncomputable def toV(k:Nat):V:=.int (k:Int)
def aF0(G:Gv)(c:Nat->Nat->Int)(l X:Nat)(ys:J_):Prop:=∀i j,i<3->j<3->∃y,ys[i+3*j]?=n8 y/\Al G y (l:Int)/\Vw G c l y (2^l*i+X) (2^l*j+X)
theorem Rj   {c:Nat->Nat->Int}   (ok:GOk a) (d:AG a b x) (h:∀i j,i<3->j<3->∃k,ks[i+3*j]?=n8 k/\Al a k ((l+1+1:Nat):Int)/\Vw a c (l+1+1) k (2^(l+1)*i) (2^(l+1)*j)) (q:Paired (λk y=>JR r b e k y) ks ys):aF0 b (Bv r (2^e) c) (l+1) (2^l) ys:=λi j hi p=>by
 erw[AI (h i j hi p) λk g f m=>xea (Paired.get q g) λy n o=>xa2 (o.view (d.lev f) (m.goes ok d f)) λs _ t=>(y,n,s,t)]
theorem PQ{G:Gv}{c:Nat->Nat->Int}{l X:Nat}{H:Hp}{x n y o g p z q A:Nat}{r s u v:R_}(m:aF0 G c l X [x,n,y,o,g,p,z,q,A])(B:H r=n8 (.tup [.int x,.int n,.int o,.int g]))(C:H s=n8 (.tup [.int n,.int y,.int g,.int p]))(D:H u=n8 (.tup [.int o,.int g,.int z,.int q]))(E:H v=n8 (.tup [.int g,.int p,.int q,.int A]))(t:Nat)(w:R_)(a:[r,s,u,v][t]?=n8 w) :
  ∃b d e f:Nat,H w=n8 (.tup [.int b,.int d,.int e,.int f])/\(Al G b (l:Int)/\Al G d (l:Int)/\Al G e (l:Int)/\Al G f (l:Int))/\Vw G c l b (2^l*(t%2)+X) (2^l*(t/2)+X)/\Vw G c l d (2^l*(t%2)+X+2^l) (2^l*(t/2)+X)/\Vw G c l e (2^l*(t%2)+X) (2^l*(t/2)+X+2^l)/\Vw G c l f (2^l*(t%2)+X+2^l) (2^l*(t/2)+X+2^l):=by
 erw[(M:t<4)=(C2.mp a).1,R=Nat.mul_succ (2^l) (t%2),S=Nat.mul_succ (2^l) (t/2),AI (m (t%2) (t/2) A3 A3) λb h F N=>AI (m (t%2+1) (t/2) A3 A3) λd i I O=>AI (m (t%2) (t/2+1) A3 A3) λe j K P=>AI (m (t%2+1) (t/2+1) A3 A3) λf k L Q=>(b,d,e,f,?_,(F,I,K,L),N,O.at' A3 Z,P.at' Z A3,Q.at' A3 A3)]
 revert h i j k a;apply q9f M
 .erw[?h i j k a,!h,!i,!j,!k,!a,B]
 .erw[?h i j k a,!h,!i,!j,!k,!a,C]
 .erw[?h i j k a,!h,!i,!j,!k,!a,D]
 .erw[?h i j k a,!h,!i,!j,!k,!a,E]
theorem Ta{α:Type}{P:Nat->α->Prop}{zs:List α}{z:α}{i:Nat}(b:zs.length=i)(h:∀t a,zs[t]?=n8 a->P t a)(c:P i z):∀t a,(zs++[z])[t]?=n8 a->P t a:=λt a e=>by
 erw[(d:t<i)]
 .rw[M5 A3]at e;erw[h t a e]
 .have:t=i:=by
   have:=(C2.mp e).1;rw[D3,b]at this;have:t<i+1:=this;lia
  subst this;rw[L5 (Z1 b),b,V4]at e;erw[!e,c]
section
variable{P:N_}{w:Q_}{K:O_}{mg:C_}{n6:T_}{a:Ad}
inductive aAj(a:Ad)(L:Nat)(vs:List V)(H:Hp)(Q:VK):Prop
|mk (p dx mem pr:R_) (g:GA) (G:Gv) (Κ:KTy) (N b:Nat) (r:Aw) (m:MA) (n l e:Nat) (_:vs=[.ref p,.int n,.int e]) (_:JZ a H g G Κ N b p dx mem pr r m) (_:Ni Κ N) (_:ClK r Κ) (_:Al G n ((l+2:Nat):Int)) (_:l<L) (_:e<=l) (_:Κ l e (CM G (l+2) n)) (_:b+10*N+10*(l+1)<8000000) (_:∀(k:Nat)(G':Gv)(H':Hp)(i:Nat),FrJ g m H H'->JZ a H' g G' Κ N b p dx mem pr r m->AG G G' i->JR r G' e n k->Up (l+1) G H H' m->Q (.int k) H'):aAj a L vs H Q
def GZ(a:Ad)(L:Nat):Sp:=λvs H Q _=>aAj a L vs H Q
inductive aAd(a:Ad)(L:Nat)(vs:List V)(H:Hp)(Q:VK):Prop
|mk (p dx mem pr:R_) (g:GA) (G:Gv) (Κ:KTy) (N b:Nat) (r:Aw) (m:MA) (n l e:Nat) (_:vs=[.ref p,.int n,.int e]) (_:JZ a H g G Κ N b p dx mem pr r m) (_:Ni Κ N) (_:ClK r Κ) (_:Al G n ((l+2:Nat):Int)) (_:l<L) (_:e<=l) (_:Κ l e (CM G (l+2) n)) (_:b+10*N+10*(l+1)<8000000) (_:∀(k:Nat)(G':Gv)(H':Hp)(i:Nat),FrJ g m H H'->JZ a H' g G' Κ N (b+10) p dx mem pr r m->AG G G' i->JR r G' e n k->Up l G H H' m->Q (.int k) H'):aAd a L vs H Q
def Vd(a:Ad)(L:Nat):Sp:=λvs H Q _=>aAd a L vs H Q
inductive Yn(a:Ad)(L:Nat)(vs:List V)(H:Hp)(Q:VK):Prop
|mk (p dx mem pr:R_) (g:GA) (G:Gv) (Κ:KTy) (N b:Nat) (r:Aw) (m:MA) (n l:Nat) (_:vs=[.ref p,.int n,.int ((l+1:Nat):Int)]) (_:JZ a H g G Κ N b p dx mem pr r m) (_:Ni Κ N) (_:ClK r Κ) (_:Al G n ((l+1+2:Nat):Int)) (_:l<L) (_:Κ (l+1) (l+1) (CM G (l+1+2) n)) (_:b+10*N+10*(l+2)<8000000) (_:∀(A:R_)(f0 f1 f2 f3:Nat)(G':Gv)(H':Hp)(i:Nat),FrJ g m H H'->JZ a H' g G' Κ N (b+9) p dx mem pr r m->AG G G' i->Up (l+1) G H H' m->H' A=n8 (.lst [toV f0,toV f1,toV f2,toV f3])->(Al G' f0 ((l+2:Nat):Int)/\Al G' f1 ((l+2:Nat):Int)/\Al G' f2 ((l+2:Nat):Int)/\Al G' f3 ((l+2:Nat):Int))->(Vw G' (Bv r (2^l) (CM G (l+1+2) n)) (l+2) f0 (2^l) (2^l)/\Vw G' (Bv r (2^l) (CM G (l+1+2) n)) (l+2) f1 (2^l+2^(l+1)) (2^l)/\Vw G' (Bv r (2^l) (CM G (l+1+2) n)) (l+2) f2 (2^l) (2^l+2^(l+1))/\Vw G' (Bv r (2^l) (CM G (l+1+2) n)) (l+2) f3 (2^l+2^(l+1)) (2^l+2^(l+1)))->Q (.ref A) H'):Yn a L vs H Q
def RU(a:Ad)(L:Nat):Sp:=λvs H Q _=>Yn a L vs H Q
theorem aBv{L d:Nat}(F:Fun K "four_halfway" "Jumps.four_halfway" Bw f fd)(T:Top K mg a)(d3:3<=d)(aO:Cal P w K mg n6 CX0 3 "nine_parts" Ew (Pg a))(aU:Cal P w K mg n6 CX0 1 "fours_of" Vy Mv)(a6:BY P w K mg n6 CX0 2 a.L0 "linked" Bh (Fu a))(aD:BY P w K mg n6 CX0 d a.J5 "reckoned" QP (GZ a L)):AJ P w K mg n6 CX0 (d+1) f fd QP (RU a L):=by
 erw[F.ok ED (λvs H Q E h=>?_) (λbg A bd s H vs Q E hr h=>?_)]
 .apply Cr;intro U c;obtain⟨p,dx,mem,pr,g,G,Κ,N,b,r,m,n,l,rfl,_⟩:=h;apply c;clear c U;rfl
 .apply Cr;intro U c;obtain⟨p,dx,mem,pr,g,G,Κ,N,b,r,m,n,l,rfl,hz,fin,cl,hl,hL,a9,few,k⟩:=h;erw[hj=hz.jw,sz=hz.sz fin];apply c;erw[-c U,(_,(Ac (CB (i:=3) Z ED.nd Z Z (Bd.of (So:=Ah Bw) (No:=Dy) (N:=["part","self","e"]) (k:=1) (cs:=[0,2]) Z Z A0) (BH (AB aO hr (Aa (AA pv0 Z) (Aa pv1 Ab)))) (λ_ _ _=>(AW (i:=0) A0 Z Z)) (λ_ _ _=>Be) (λ_ _ _=>(AD pv1 aD (rm hr) AQ (Aa pv0 (AY Cs pv2 Ae Ab))))) (Ag (Av (Cc Z (Bd.of (So:=Ah Bw) (No:=Dy) (N:=["four","self"]) (k:=1) (cs:=[0]) Z Z A0) (BH (AB aU hr (Aa pv3 Ab))) (λ_ _ _=>(AW (i:=0) A0 Z Z)) (λ_ _ _=>Be) (λ_ _ _=>(AD (Sg (K:=K) Z pv1 Z) a6 (rm hr) AQ (Aa pv0 Ab))))))),?_),xea (id hl) λq9 av bh=>?_,(bc:l<=45)=by have:=(hj.ok.lev av).2;lia]
  erw[xwf Z Z hj.hp T.L4 T.M3 (EA _ _ _ _ _) (xq1 Z (g,G,n,l+1,Z,hj.gr,hj.ok,hl,U2 bc _,by lia,λA9 ks G3 H3 ag a1 M aq l9 nine=>?_)),aj=hz.fr ag a1 M,O=aj.jw,bj=aj.sz fin]
  skip
  have as:∀(t k:Nat),ks[t]?=n8 k->Al G3 k ((l+2:Nat):Int):=λt k e=>by
   erw[ht=(C2.mp e).1,AI (nine (t%3) (t/3) A3 A3) λk' e1 e2 _=>?_];rw[show t%3+3*(t/3)=t by lia,e]at e1;erw[!e1,e2]
  have bb:∀(t k:Nat),ks[t]?=n8 k->Κ l l (CM G3 (l+2) k):=λt k e=>by
   erw[ht=(C2.mp e).1,AI (nine (t%3) (t/3) A3 A3) λk' e1 _ v=>?_];rw[show t%3+3*(t/3)=t by lia,e]at e1;erw[!e1,fin.ext (cl.nine2 a9 (t%3) (t/3) A3 A3) λx y hx hy=>(v x y hx hy).symm]
  erw[(A9,Z,(_,SqL.of aq),?_),Ca (xs:=ks.map λ(k:Nat)=>V.int (k:Int)) (λi B H5=>∃(G5:Gv)(ys:J_)(c5:Nat),B=ys.map toV/\ys.length=i/\FrJ g m H3 H5/\JZ a H5 g G5 Κ N (b+5) p dx mem pr r m/\AG G3 G5 c5/\Up (l+1) G3 H3 H5 m/\Paired (λk y=>JR r G5 l k y) (ks.take i) ys) (G3,[],0,Z,Z,λb o e _ _ _ _ _=>e,aj,AG.refl O.ok,Up.refl _ _ _ _,.nil) (λi B H5 _ z=>by erw[Fk z λ_ _ _ _ _ fr _=>?_,SqL.of ((fr.kps O.gr O.bs.long O.me) _ _ aq (.lst (by rw[C0];lia)))]) ?_ ?_]
  .rintro i v B H5 ev ac;erw[Ch ac λG5 ys c5 af ly ah S q=>xa2 q λu al ad=>?_,-q,-ac,<-af];rw[C3]at ev;erw[xea (D7.mp ev) λk5 ek I=>?_,<-I,(i9:i<9)=by have:=(C2.mp ek).1;lia]
   erw[ai=S.jw]
   skip
   erw[(([n8 (.int (k5:Int))],Z,Z),by erw[[C0,ly],Z0 i9 A6],EF (xwn Z Z ai.hp (MP _ _ _ _ _) Z (xwb Z Z Z (p,dx,mem,pr,g,G5,Κ,N,b+5,r,m,k5,l,l,(show [V.ref p,V.int (k5:Int),V.int (((l+1:Nat):Int)-1)]=[V.ref p,V.int (k5:Int),V.int (l:Int)] by rw[show((l+1:Nat):Int)-1=(l:Int) by lia]),S,fin,cl,u.lev (as i k5 ek),hL,C1 l,(by erw[[Di O.ok u (as i k5 ek)],bb i k5 ek]),by lia,λy G6 H6 c6 ax aa ao ba bf=>(G6,ys++[y],_,by rw[D4];rfl,by rw[D3,ly];rfl,ah.trans ax,aa,u.trans ao,al.trans bf u,?_))))),[F9,ek,R7],A5d (Paired.imp (λk y z=>z.goes ai.ok ao) ad) ba]
  rintro B H5 ab A5 az;apply Cr;erw[?U c,Ch ab λG5 ys c5 af ly ah S q=>xa2 q λu al ad=>?_,-q,-ab,<-af,ai=S.jw];apply c;clear c U;rw[C0,l9]at ly;rw[C0,J7]at ad;erw[xe5 (WL ys ly) λy0 y1 y2 y3 y4 q=>xe4 q λy5 y6 y7 y8 am=>?_,-q,<-am]
  skip
  generalize dQ:upd H5 A5 _=H6;erw[(s5,ar)=alc az dQ,aa=S.same s5,bi=aa.jw,aw=(Fr.j ag).trans (ah.trans (As.j s5)),xq1 Z (A5,y0,y1,y2,y3,y4,y5,y6,y7,y8,Z,ar,λMM t0 t1 t2 t3 H7 s7 hM a3 a4 a5 a7=>?_),ak=aa.same s7,Y=ak.jw,(MM,Z,(_,SqL.of hM),?_),(p1:2^(l+1)=2^l*2)=M6 ..,four=PQ (Rj O.ok u nine ad) a3 a4 a5 a7,ae=Y.ok,Ca (xs:=[t0,t1,t2,t3].map V.ref) (λi B H8=>∃(G8:Gv)(zs:J_),B=zs.map toV/\zs.length=i/\Fr g H7 H8/\JZ a H8 g G8 Κ N (b+5+i) p dx mem pr r m/\AG G5 G8 i/\∀(t z:Nat),zs[t]?=n8 z->Al G8 z ((l+2:Nat):Int)/\Vw G8 (Bv r (2^l) (CM G (l+1+2) n)) (l+1+1) z (2^(l+1)*(t%2)+2^l) (2^(l+1)*(t/2)+2^l)) (G5,[],Z,Z,Fr.refl g H7,ak,AG.refl ae,λt z e=>(nomatch e)) (λi B H8 _ z=>by erw[CG z λ_ _ _ _ fr _=>?_,SqL.of ((fr.kps Y.gr Y.bs.long) _ _ hM (.lst (by show 4<=50;decide)))]) ?_ ?_]
  .rintro i v B H8 ev ac;apply Cr;erw[?U c,Ci ac λG8 zs I lz W D q=>xa q λC vz=>?_,-q,-ac,<-I,R=D.jw,be=D.sz fin];apply c;clear c U;rw[C3]at ev;erw[xea (D7.mp ev) λtt et I=>?_,<-I,(i4:i<4)=(C2.mp et).1];apply Cr;erw[?U c,(f0,f1,f2,f3,a8,(m0,m1,m2,m3),w0,w1,w2,w3)=four i tt et];apply c;clear c U
   skip
   erw[(([n8 (.ref tt)],Z,Z),by erw[[C0,lz],Z0 i4 A6],EF (xwf Z Z R.hp T.L4 T.M3 (EA _ _ _ _ _) (xq3 Z R.gr.hp (Cf g) (xq1 Z (g,G8,tt,f0,f1,f2,f3,((l+1:Nat):Int),Z,R.gr,R.ok,(W.kps Y.gr Y.bs.long) _ _ a8 (.inl .tup),(C.lev m0,C.lev m1,C.lev m2,C.lev m3),by lia,by lia,λz G9 H9 an a2 X e9=>(G9,zs++[z],by rw[D4];rfl,by rw[D3,lz];rfl,W.trans an,D.fr an a2 X,C.trans X,?_)))))),Ta lz (λt z' e=>?_) ?_]
   .erw[(q1,q2)=vz t z' e,(X.lev q1,q2.goes R.ok X q1)]
   .exact((_,e9,by show((l+1:Nat):Int)+1=((l+2:Nat):Int);lia),NV ae (C.trans X) m0 m1 m2 m3 w0 w1 w2 w3 e9)
  rintro B H8 ab A8 a0;apply Cr;erw[?U c,Ci ab λG8 zs I lz W D q=>xa q λC vz=>?_,-q,-ab,<-I,R=D.jw,be=D.sz fin];apply c;erw[-c U,xe4 (Qo zs lz) λz0 z1 z2 z3 au=>?_,<-au,(s8:As H8 (upd H8 A8 (.lst ([z0,z1,z2,z3].map toV))))=An a0,ay=C,(q0,x0)=vz 0 z0 Z,(q1,x1)=vz 1 z1 Z,(q2,x2)=vz 2 z2 Z,(q3,x3)=vz 3 z3 Z,k A8 z0 z1 z2 z3 G8 _ _ (aw.trans ((As.j s7).trans ((Fr.j W).trans (As.j s8)))) (D.same s8) ((M.trans u).trans ay) (((((hz.upF (l+1) ag).trans al M).trans (S.upS _ s5) (M.trans u)).trans (aa.upS _ s7) (M.trans u)).trans ((ak.upF _ W).trans (D.upS _ s8) C) (M.trans u)) Af (q0,q1,q2,q3) (x0.at' A3 A3,x1.at' A3 A3,x2.at' A3 A3,x3.at' A3 A3)]
theorem aCv{L d:Nat}(F:Fun K "fresh" "Jumps.fresh" CA f fd)(T:Top K mg a)(d7:7<=d)(aE:BY P w K mg n6 CX0 7 a.J5 "middle_after" Lj (RP a))(a6:BY P w K mg n6 CX0 2 a.L0 "linked" Bh (Fu a))(aO:Cal P w K mg n6 CX0 3 "nine_parts" Ew (Pg a))(aU:Cal P w K mg n6 CX0 1 "fours_of" Vy Mv)(aG:Cal P w K mg n6 CX0 3 "met_in_the_middle" CK (Wq a))(aD:BY P w K mg n6 CX0 d a.J5 "reckoned" QP (GZ a L))(cG:BY P w K mg n6 CX0 (d+1) a.J5 "four_halfway" QP (RU a L)):AJ P w K mg n6 CX0 (d+2) f fd QP (Vd a (L+1)):=by
 erw[F.ok Eo (λvs H Q E h=>?_) (λca A b5 s H vs Q E hr h=>?_)]
 .apply Cr;intro G_ c;obtain⟨p,dx,mem,pr,g,G,Κ,N,b,r,m,n,l,e,rfl,_⟩:=h;apply c;clear c G_;rfl
 .apply Cr;intro G_ c;obtain⟨p,dx,mem,pr,g,G,Κ,N,b,r,m,n,l,e,rfl,hz,fin,cl,hl,hL,he,a9,few,k⟩:=h;erw[U=hz.jw,sz=hz.sz fin,xea (id hl) λq eq el=>?_];apply c;erw[-c G_,cc=(U.ok.lev eq).2,(au:l<=46)=by lia]
  erw[(_,(Ac (Px (i:=3) Eo.nd Z (Or.inr Z) (AA pv0 Z)) (Ac (Ax 4 Eo.nd (Aj Ar (AA pv3 Z) pv1 R_9)) (Ac (AS (Ay DR pv1 (Aj Ar (AA pv3 Z) pv4 R_9) (AF _)) (Ag (Av (Aj Ar (AA pv3 Z) (AE Cs pv4 Ae) R_9))) Az) (Ac (AS (Ay DR pv4 (Co Z T.d_) (AF _)) (Ag (Av (AD pv0 aE (rm hr) AQ (Aa pv1 Ab)))) Az) (Ac (AS (Ay IC pv2 (AE Cs pv4 (Co Z T.d_)) (AF _)) (Ac (CB (i:=5) Z Eo.nd Z Z (Bd.of (So:=Ah CA) (No:=Fd) (N:=["part","self","e"]) (k:=1) (cs:=[0,2]) Z Z A0) (BH (AB aO hr (Aa pv3 (Aa pv1 Ab)))) (λ_ _ _=>(AW (i:=0) A0 Z Z)) (λ_ _ _=>Be) (λ_ _ _=>(AD pv1 aD (rm hr) AQ (Aa pv0 (Aa pv2 Ab))))) (Ag (Av (AD pv3 a6 (rm hr) AQ (Aa (BW CD Z T.l_ A5f (Aa (Cc Z (Bd.of (So:=Ah CA) (No:=Fd) (N:=["four","grove"]) (k:=1) (cs:=[3]) Z Z A0) (BH (AB aU hr (Aa pv5 Ab))) (λ_ _ _=>(AW (i:=0) A0 Z Z)) (λ_ _ _=>Be) (λ_ _ _=>(AB aG hr (Aa pv1 (Aa pv0 Ab))))) Ab)) Ab))))) Az) (Ag (Av (AD pv3 a6 (rm hr) AQ (Aa (BW CD Z T.l_ A5f (Aa (Cc Z (Bd.of (So:=Ah CA) (No:=Fd) (N:=["four","self","e"]) (k:=1) (cs:=[0,2]) Z Z A0) (BH (AD pv0 cG (rm hr) AQ (Aa pv1 (Aa pv2 Ab)))) (λ_ _ _=>(AW (i:=0) A0 Z Z)) (λ_ _ _=>Be) (λ_ _ _=>(AD pv1 aD (rm hr) AQ (Aa pv0 (AY Cs pv2 Ae Ab))))) Ab)) Ab))))))))),?_),xwf Z Z U.hp T.L4 T.M3 (EA _ _ _ _ _) (xq1 Z (g.p,_,g.dx,_,_,Z,U.gr.hp,T.J4,T.Q1,ET g,_,Z,g.lv,_,(n:Int),.int ((l+2:Nat):Int),Z,Z,SqL.of U.gr.lv,Ai (by rw[C3,eq,<-el];rfl),?_)),xq1 Z (xq1 Z (g.p,_,g.dx,_,_,Z,U.gr.hp,T.J4,T.Q2,Jp g,_,Z,g.br,_,((l+2:Nat):Int),.int (bareN (l+2):Int),Z,Z,SqL.of U.br,Ai (aDr (U2 au _)),Z,_,Z,?_)),LL (λhc=>?_) (λhc=>?_)]
  .have ei:n=bareN (l+2):=by
    have:=A4f hc;injection this with this
    erw[A4d this]
   erw[xwf Z Z U.gr.hp T.J4 T.Q2 (Jp g) (xwb Z Z Z (xq4 Z Z (SqL.of U.br) (by rw[show((l+2:Nat):Int)-1=((l+1:Nat):Int) by lia];erw[Ai (aDr A3)]) ?_)),k (bareN (l+1)) G H 0 (λb o e _ _ _ _ _=>e) (hz.mono (F5 _ _)) (AG.refl U.ok) ?_ (Up.refl _ _ _ _),[ei],JR.bare U.ok U.bs U.rest (U2 au _) he]
  erw[xq1 Z (Z,(xq1 Z ?_))];cases l with
  |zero =>
   erw[(show ∀{b:Bool}{A B:Prop},b=o0->A->(if b=o0 then A else B)from λh x=>by erw[[h],Cy x]) (A2g Z) ?_,(e0:e=0)=by lia]
   erw[<-e0,(ff,cn)=hz.cn,xea cn.ce λkc c1 c2=>?_,sm=cn.sum U.ok fin U.me.len,xwn Z Z U.hp (aCn _ _ _ _ _) Z (p,dx,mem,pr,g,G,N,kc.length,r,m,n,Z,U.tc c1,hl,by lia,by lia,λk' G' H' fr bt go jr=>?_),(z1,z2)=hz.mid cn c1 fr bt go,k k' G' H' 1 fr.j (z1.mono A3) go jr (z2 _)]
  |succ l =>
   erw[(show ∀{b:Bool}{A B:Prop},b=o3->B->(if b=o0 then A else B)from λh x=>by erw[[h],Bj x]) (A3a (by intro z;injection z with z;erw[z=z];lia)) ?_,(hL:l<L)=by lia]
   erw[(p1:2^(l+1)=2^l*2)=M6 ..,xw2 Z Z (xq2 Z Z (xq2 Z Z (xq1 Z ?_))),LL (λhc=>?_) (λhc=>?_)]
   .have av:e<=l:=by
     erw[hc=A4f hc,hc=hc];lia
    erw[xea (id hl) λq9 bj cb=>?_,(au:l<=45)=by have:=(U.ok.lev bj).2;lia]
    erw[xw2 Z Z (g,G,n,l+1,Z,U.gr,U.ok,hl,U2 au _,by lia,λA9 ks G3 H3 a3 bp ak be l9 nine=>?_),a8=hz.fr a3 bp ak,al=a8.jw,cd=a8.sz fin]
    skip
    have bh:∀(t k:Nat),ks[t]?=n8 k->Al G3 k ((l+2:Nat):Int):=λt k e=>by
     erw[ht=(C2.mp e).1,AI (nine (t%3) (t/3) A3 A3) λk' e1 e2 _=>?_];rw[show t%3+3*(t/3)=t by lia,e]at e1;erw[!e1,e2]
    have b3:∀(t k:Nat),ks[t]?=n8 k->Κ l e (CM G3 (l+2) k):=λt k e=>by
     erw[ht=(C2.mp e).1,AI (nine (t%3) (t/3) A3 A3) λk' e1 _ v=>?_];rw[show t%3+3*(t/3)=t by lia,e]at e1;erw[!e1,fin.ext (cl.nine1 a9 av (t%3) (t/3) A3 A3) λx y hx hy=>(v x y hx hy).symm]
    erw[(A9,Z,(_,SqL.of be),?_),Ca (xs:=ks.map λ(k:Nat)=>V.int (k:Int)) (λi M H5=>∃(G5:Gv)(ys:J_)(c5:Nat),M=ys.map toV/\ys.length=i/\FrJ g m H3 H5/\JZ a H5 g G5 Κ N (b+5) p dx mem pr r m/\AG G3 G5 c5/\Up (l+1) G3 H3 H5 m/\Paired (λk y=>JR r G5 e k y) (ks.take i) ys) (G3,[],0,Z,Z,λb o e _ _ _ _ _=>e,a8,AG.refl al.ok,Up.refl _ _ _ _,.nil) (λi M H5 _ z=>by erw[Fk z λ_ _ _ _ _ fr _=>?_,SqL.of ((fr.kps al.gr al.bs.long al.me) _ _ be (.lst (by rw[C0];lia)))]) ?_ ?_]
    .rintro i v M H5 ev ah;erw[Ch ah λG5 ys c5 ai ly a4 am I=>xa2 I λR ba ax=>?_,-I,-ah,<-ai];rw[C3]at ev;erw[xea (D7.mp ev) λk5 ek ab=>?_,<-ab,(i9:i<9)=by have:=(C2.mp ek).1;lia]
     erw[a7=am.jw]
     skip
     erw[(([n8 (.int (k5:Int))],Z,Z),by erw[[C0,ly],Z0 i9 A6],EF (xwn Z Z a7.hp (MP _ _ _ _ _) Z (xq1 Z (p,dx,mem,pr,g,G5,Κ,N,b+5,r,m,k5,l,e,Z,am,fin,cl,R.lev (bh i k5 ek),hL,av,(by erw[[Di al.ok R (bh i k5 ek)],b3 i k5 ek]),by lia,λy G6 H6 c6 bn as bd b1 b6=>(G6,ys++[y],_,by rw[D4];rfl,by rw[D3,ly];rfl,a4.trans bn,as,R.trans bd,ba.trans b6 R,?_))))),[F9,ek,R7],A5d (Paired.imp (λk y z=>z.goes a7.ok bd) ax) b1]
    rintro M H5 ag A5 bo;apply Cr;erw[?G_ c,Ch ag λG5 ys c5 ai ly a4 am I=>xa2 I λR ba ax=>?_,-I,-ag,<-ai,a7=am.jw];apply c;clear c G_;rw[C0,l9]at ly;rw[C0,J7]at ax;erw[xe5 (WL ys ly) λy0 y1 y2 y3 y4 I=>xe4 I λy5 y6 y7 y8 bc=>?_,-I,<-bc]
    skip
    generalize dQ:upd H5 A5 _=H6;erw[(s5,bf)=alc bo dQ,as=am.same s5,bu=as.jw,bl=(Fr.j a3).trans (a4.trans (As.j s5)),xwm Z Z bu.gr.hp (Cf g) (xq1 Z (A5,y0,y1,y2,y3,y4,y5,y6,y7,y8,Z,bf,λMM t0 t1 t2 t3 H7 s7 hM bv bw bx bz=>?_)),an=as.same s7,X=an.jw,(MM,Z,(_,SqL.of hM),?_),four=PQ (Rj al.ok R nine ax) bv bw bx bz,aa=X.ok,Ca (xs:=[t0,t1,t2,t3].map V.ref) (λi M H8=>∃(W:Gv)(zs:J_),M=zs.map toV/\zs.length=i/\Fr g H7 H8/\JZ a H8 g W Κ N (b+5+i) p dx mem pr r m/\AG G5 W i/\∀(t z:Nat),zs[t]?=n8 z->Al W z ((l+1:Nat):Int)/\Vw W (Bv r (2^e) (CM G (l+1+2) n)) (l+1) z (2^(l+1)*(t%2)+2^(l+1)) (2^(l+1)*(t/2)+2^(l+1))) (G5,[],Z,Z,Fr.refl g H7,an,AG.refl aa,λt z e=>(nomatch e)) (λi M H8 _ z=>by erw[CG z λ_ _ _ _ fr _=>?_,SqL.of ((fr.kps X.gr X.bs.long) _ _ hM (.lst (by show 4<=50;decide)))]) ?_ ?_]
    .rintro i v M H8 ev ah;apply Cr;erw[?G_ c,Ci ah λW zs ab lz ac D I=>xa I λC vz=>?_,-I,-ah,<-ab,ad=D.jw,ay=D.sz fin];apply c;clear c G_;rw[C3]at ev;erw[xea (D7.mp ev) λtt et ab=>?_,<-ab,(i4:i<4)=(C2.mp et).1];apply Cr;erw[?G_ c,(f0,f1,f2,f3,b0,(m0,m1,m2,m3),w0,w1,w2,w3)=four i tt et];apply c;clear c G_
     skip
     have qg:∀{f:Nat}(j:Nat),Al G5 f ((l+1:Nat):Int)->qO W f j=qO G5 f j:=λ{f} j h=>by
      erw[xea h λq e _=>?_,¬qO,[C.get e,e]]
     erw[(([n8 (.ref tt)],Z,Z),by erw[[C0,lz],Z0 i4 A6],EF (xw2 Z Z (g,W,tt,f0,f1,f2,f3,l,Z,ad.gr,ad.ok,(ac.kps X.gr X.bs.long) _ _ b0 (.inl .tup),(C.lev m0,C.lev m1,C.lev m2,C.lev m3),C9 au A6,by lia,λz G9 H9 aw bq S e9=>(G9,zs++[z],by rw[D4];rfl,by rw[D3,lz];rfl,ac.trans aw,D.fr aw bq S,C.trans S,?_))))];rw[qg 3 m0,qg 2 m1,qg 1 m2,qg 0 m3]at e9;erw[Ta lz (λt z' e=>?_) ?_]
     .erw[(q1,q2)=vz t z' e,(S.lev q1,q2.goes ad.ok S q1)]
     .exact((_,e9,by show(l:Int)+1=((l+1:Nat):Int);lia),(aBc aa (C.trans S) m0 m1 m2 m3 w0 w1 w2 w3 e9).at' A3 A3)
    rintro M H8 ag A8 a5;apply Cr;erw[?G_ c,Ci ag λW zs ab lz ac D I=>xa I λC vz=>?_,-I,-ag,<-ab,ad=D.jw,ay=D.sz fin];apply c;erw[-c G_,xe4 (Qo zs lz) λz0 z1 z2 z3 a1=>?_,<-a1,(D:JZ a H8 g W Κ N (b+5+4) p dx mem pr r m)=D,ay=D.sz fin,Y=(ak.trans R).trans C,(a2:FrJ g m H H8)=bl.trans ((As.j s7).trans (Fr.j ac))];generalize dW:upd H8 A8 _=H9;erw[(s8,ar)=alc a5 dW,(A8,(xq1 Z (.inl (SqL.of ar,λu hu=>?_)))),ae=D.same s8,aj=ae.jw,(q0,x0)=vz 0 z0 Z,(q1,x1)=vz 1 z1 Z,(q2,x2)=vz 2 z2 Z,(q3,x3)=vz 3 z3 Z]
    skip
    erw[lnk ((.refl _ _,λe=>e,aj.gr,.refl aj.ok):Ln a g H9 W 0 H9 W) hu (q0,q1,q2,q3) A3 A3 λz az a0 af O ao=>k z az a0 _ (a2.trans ((As.j s8).trans (Fr.j af.fr))) ((ae.fr af.fr af.gr O).mono (C1 _)) (Y.trans O) ?_ (((((hz.upF (l+1) a3).trans ba ak).trans (am.upS _ s5) (ak.trans R)).trans (as.upS _ s7) (ak.trans R)).trans (((an.upF _ ac).trans (D.upS _ s8) C).trans (ae.upF _ af.fr) C) (ak.trans R)),aq=Y.trans O,Vw.jr (aq.lev hl) he (_,ao,by show((l+1:Nat):Int)+1=((l+1+1:Nat):Int);lia) ?_,[Di U.ok aq hl],NV aj.ok O q0 q1 q2 q3 (x0.at' A3 A3) (x1.at' A3 A3) (x2.at' A3 A3) (x3.at' A3 A3) ao]
   .have av:e=l+1:=by
     have hc:¬(e:Int)<((l+1+2:Nat):Int)-2:=λz=>hc (A2g z);lia
    erw[<-av,xwm Z Z U.gr.hp (Cf g) (xwn Z Z U.hp (aBk _ _ _ _ _) Z (xq1 Z (p,dx,mem,pr,g,G,Κ,N,b,r,m,n,l,Z,hz,fin,cl,hl,hL,a9,few,λA7 f0 f1 f2 f3 G5 H7 i5 bm an R b7 bg b4 b9=>?_))),xa3 b4 λm0 m1 m2 m3=>xa3 b9 λw0 w1 w2 w3=>?_]
    skip
    erw[(A7,Z,(_,SqL.of bg),?_),X=an.jw,aa=X.ok];have four:∀(t f:Nat),[f0,f1,f2,f3][t]?=n8 f->Al G5 f ((l+2:Nat):Int)/\Vw G5 (Bv r (2^l) (CM G (l+1+2) n)) (l+2) f (2^(l+1)*(t%2)+2^l) (2^(l+1)*(t/2)+2^l):=λt f et=>by
     match t,et with
     |0,et=>erw[!et,(m0,w0.at' A3 A3)]
     |1,et=>erw[!et,(m1,w1.at' A3 A3)]
     |2,et=>erw[!et,(m2,w2.at' A3 A3)]
     |3,et=>erw[!et,(m3,w3.at' A3 A3)]
     |j+4,et=>cases et
    have bi:Bv r (2^l) (Bv r (2^l) (CM G (l+1+2) n))=Bv r (2^(l+1)) (CM G (l+1+2) n):=by
     rw[<-Tp,p1,Nat.mul_two]
    erw[Ca (xs:=[f0,f1,f2,f3].map toV) (λi M H8=>∃(W:Gv)(zs:J_)(c8:Nat),M=zs.map toV/\zs.length=i/\FrJ g m H7 H8/\JZ a H8 g W Κ N (b+9) p dx mem pr r m/\AG G5 W c8/\Up (l+1) G5 H7 H8 m/\∀(t z:Nat),zs[t]?=n8 z->Al W z ((l+1:Nat):Int)/\Vw W (Bv r (2^(l+1)) (CM G (l+1+2) n)) (l+1) z (2^(l+1)*(t%2)+2^(l+1)) (2^(l+1)*(t/2)+2^(l+1))) (G5,[],0,Z,Z,λb o e _ _ _ _ _=>e,an,AG.refl aa,Up.refl _ _ _ _,λt z e=>(nomatch e)) (λi M H8 _ z=>by erw[Fk z λ_ _ _ _ _ fr _=>?_,SqL.of ((fr.kps X.gr X.bs.long X.me) _ _ bg (.lst (by show 4<=50;decide)))]) ?_ ?_]
    .rintro i v M H8 ev ah;apply Cr;erw[?G_ c,Ch ah λW zs c8 ai lz ac D I=>xa2 I λC bb vz=>?_,-I,-ah,<-ai,ad=D.jw,ay=D.sz fin];apply c;clear c G_;rw[C3]at ev;erw[xea (D7.mp ev) λff et ab=>?_,<-ab,(i4:i<4)=(C2.mp et).1,(mf,wf)=four i ff et]
     skip
     erw[(([n8 (toV ff)],Z,Z),by erw[[C0,lz],Z0 i4 A6],EF (xwn Z Z ad.hp (MP _ _ _ _ _) Z (xwb Z Z Z (p,dx,mem,pr,g,W,Κ,N,b+9,r,m,ff,l,l,(show [V.ref p,V.int (ff:Int),V.int (((l+1:Nat):Int)-1)]=[V.ref p,V.int (ff:Int),V.int (l:Int)] by rw[show((l+1:Nat):Int)-1=(l:Int) by lia]),D,fin,cl,C.lev mf,hL,C1 l,(by erw[[Di aa C mf],fin.ext (cl.four a9 (i%2) (i/2) A3 A3) λx y hx hy=>(wf x y hx hy).symm]),by lia,λz G9 H9 c9 aw ae S b2 b8=>(G9,zs++[z],_,by rw[D4];rfl,by rw[D3,lz];rfl,ac.trans aw,ae,C.trans S,bb.trans b8 C,?_))))),Ta lz (λt z' e=>?_) ?_]
     .erw[(q1,q2)=vz t z' e,(S.lev q1,q2.goes ad.ok S q1)]
     .erw[xa2 (b2.view ((C.trans S).lev mf) (wf.goes aa (C.trans S) mf)) λr1 _ r3=>?_];rw[bi]at r3;exact(r1,r3.at' A3 A3)
    rintro M H8 ag A8 a5;apply Cr;erw[?G_ c,Ch ag λW zs c8 ai lz ac D I=>xa2 I λC bb vz=>?_,-I,-ag,<-ai,ad=D.jw,ay=D.sz fin];apply c;erw[-c G_,xe4 (Qo zs lz) λz0 z1 z2 z3 a1=>?_,<-a1,Y=R.trans C,a2=bm.trans ac];generalize dW:upd H8 A8 _=H9;erw[(s8,ar)=alc a5 dW,(A8,(xq1 Z (.inl (SqL.of ar,λu hu=>?_)))),ae=D.same s8,aj=ae.jw,(q0,x0)=vz 0 z0 Z,(q1,x1)=vz 1 z1 Z,(q2,x2)=vz 2 z2 Z,(q3,x3)=vz 3 z3 Z]
    skip
    erw[lnk ((.refl _ _,λe=>e,aj.gr,.refl aj.ok):Ln a g H9 W 0 H9 W) hu (q0,q1,q2,q3) A3 A3 λz az a0 af O ao=>k z az a0 _ (a2.trans ((As.j s8).trans (Fr.j af.fr))) ((ae.fr af.fr af.gr O).mono (C1 _)) (Y.trans O) ?_ ((b7.trans bb R).trans ((D.upS _ s8).trans (ae.upF _ af.fr) (AG.refl ad.ok)) Y),aq=Y.trans O,Vw.jr (aq.lev hl) he (_,ao,by show((l+1:Nat):Int)+1=((l+1+1:Nat):Int);lia) ?_,[Di U.ok aq hl],NV aj.ok O q0 q1 q2 q3 (x0.at' A3 A3) (x1.at' A3 A3) (x2.at' A3 A3) (x3.at' A3 A3) ao]
theorem aC1(F:Fun K "reckoned" "Jumps.reckoned" DB f fd)(T:Top K mg a)(dC:BY P w K mg n6 CX0 d a.J5 "fresh" QP (Vd a L)):AJ P w K mg n6 CX0 (d+1) f fd QP (GZ a L):=by
 erw[F.ok En (λvs H Q E h=>?_) (λaf A ad s H vs Q E hr h=>?_)]
 .apply Cr;intro B c;obtain⟨p,dx,mem,pr,g,G,Κ,N,b,r,m,n,l,e,rfl,_⟩:=h;apply c;clear c B;rfl
 .apply Cr;intro B c;obtain⟨p,dx,mem,pr,g,G,Κ,N,b,r,m,n,l,e,rfl,hz,fin,cl,W,hL,he,X,few,k⟩:=h;erw[t=hz.jw,sz=hz.sz fin];apply c;erw[-c B,xea (id W) λq eq el=>?_,ak=(t.ok.lev eq).2,(ab:e<m.ds.length)=by rw[t.me.len];lia]
  obtain⟨d,C⟩:∃d,m.ds[e]?=n8 d:=(m.ds[e]'ab,C7 _)
  erw[CP (t.me.sq e d C) λkv hd dl dk dv=>(_,(Ac (Ax 3 En.nd (JS (Ei hr) (Aj Ar (AA pv0 Z) pv2 R_9) pv1 (Z,Z,Z,Z))) (Ac (AS (Ay Jl pv3 Dw (AF _)) (Ac (Ax 3 En.nd (AD pv0 dC (rm hr) AQ (Aa pv1 (Aa pv2 Ab)))) (Ag (FN (Ei hr) (Aj Ar (AA pv0 Z) pv2 R_9) pv1 pv3 Z))) Az) (Ag (Av pv3)))),?_),(R:atI (m.ds.map V.ref) (e:Int)=n8 (.ref d))=Ai (by rw[C3,C];rfl),xwf Z Z t.hp T.L4 T.X_ (aBN _ _ _ _ _) (xwi Z Z Z (SqL.of t.me.l) R (d,Z,.inl (_,.inl hd),(xq1 Z (_,GL.k (k:=Sum.inl (n:Int)) hd,?_))))];apply WQ (fun σ O=>∃(x:Nat)(y:Gv),σ=[n8 (.ref p),n8 (.int (n:Int)),n8 (.int (e:Int)),n8 (.int (x:Int))]/\FrJ g m H O/\JZ a O g y Κ N b p dx mem pr r m/\(∃i,AG G y i)/\JR r y e n x/\Up (l+1) G H O m)
  .erw[?u,xq1 Z (Z,(xq1 Z ?_))];cases ev:BQ kv (Sum.inl (n:Int))with
   |some v =>
    erw[xea (dv n v ev) λx aa jr=>?_,<-aa,Bj (u _ _ (x,G,Z,λb o e _ _ _ _ _=>e,hz,(0,AG.refl t.ok),jr,Up.refl _ _ _ _))]
   |none =>
    erw[Cy (xwn Z Z t.hp (YS _ _ _ _ _) Z (xq1 Z (p,dx,mem,pr,g,G,Κ,N,b,r,m,n,l,e,Z,hz,fin,cl,W,hL,he,X,few,λx y H' i' fr j M jr up=>?_)))];apply Cr;erw[?B c,I=j.jw,CP (I.me.sq e d C) λY D ah ag ai=>?_];apply c;erw[-c B,xw2 Z Z (xq5 I.hp T.L4 T.X_ (aBN _ _ _ _ _) (xwi Z Z Z (SqL.of I.me.l) R (xq1 Z (d,(xq1 Z (Mt.k (k:=Sum.inl (n:Int)) D (F3 (show Y.length<=9000000 by lia) A6),?_)))))),ac=up e n l W (C1 l) (λd2 aj S U=>by rw[C]at S;cases S;rw[hd]at U;erw[!U,ev]) d Y C D,(z1,z2)=j.put fin C D ac (M.lev W) (by erw[[Di t.ok M W],X]) jr,u _ _ (x,y,Z,λb o e n1 n2 n3 n4 n5=>by erw[[Aq (λz=>n5 (by erw[[z],D0 C]))],fr _ _ e n1 n2 n3 n4 n5],z1,(i',M),jr,(up.mono (S4 l)).trans z2 M)]
  rintro σ O ae;apply Cr;erw[?B c,(x,y,rfl,fr,j,(i',M),jr,up)=ae];apply c;erw[-c B,xq1 Z (k x y O i' fr j M jr up)]
theorem WI{fd q o:E_}(F:Fun K "reckoned" "Jumps.reckoned" DB f fd)(z:Fun K "four_halfway" "Jumps.four_halfway" Bw I q)(y:Fun K "fresh" "Jumps.fresh" CA D o)(T:Top K mg a)(A:QB K a.J5 "reckoned" f)(x:CO K fd QP [])(j:QB K a.J5 "four_halfway" I)(d:CO K q QP [])(i:QB K a.J5 "fresh" D)(c:CO K o QP [])(B:BY P w K mg n6 CX0 7 a.J5 "middle_after" Lj (RP a))(t:BY P w K mg n6 CX0 2 a.L0 "linked" Bh (Fu a))(u:Cal P w K mg n6 CX0 3 "nine_parts" Ew (Pg a))(v:Cal P w K mg n6 CX0 1 "fours_of" Vy Mv)(C:Cal P w K mg n6 CX0 3 "met_in_the_middle" CK (Wq a)):∀L,AJ P w K mg n6 CX0 (10+3*L) f fd QP (GZ a L)
|0=>(AJ.no (k:=10)).imp λvs H Q E h=>by
 apply Cr;intro M s;obtain⟨p,U,mem,V,g,G,Κ,N,b,r,m,n,l,e,_,_,_,_,_,hL,_⟩:=h;apply s;erw[-s M,absurd hL (O1 l)]
|L+1=>by
 have M1:BY P w K mg n6 CX0 (10+3*L) a.J5 "reckoned" QP (GZ a L):=((_,_,(WI F z y T A x j d i c B t u v C L),A,x),T.L4)
 erw[R=aBv z T A3 u v t M1,(M2:BY P w K mg n6 CX0 (10+3*L+1) a.J5 "four_halfway" QP (RU a L))=((_,_,R,j,d),T.L4)]
 erw[S=aCv y T A3 B t u v C M1 M2,(O:BY P w K mg n6 CX0 (10+3*L+2) a.J5 "fresh" QP (Vd a (L+1)))=((_,_,S,i,c),T.L4)]
 erw[aC1 F T O]
theorem YM(F:Fun K "after" "Jumps.after" Ii f fd)(T:Top K mg a)(S:4<=d)(C:BY P w K mg n6 CX0 4 a.J5 "check_jump" QP (aHS a))(B:BY P w K mg n6 CX0 d a.J5 "reckoned" QP (GZ a L)):AJ P w K mg n6 CX0 (d+1) f fd QP (GZ a L):=by
 erw[F.ok Pq (λvs H Q E h=>?_) (λD A v s H vs Q E z h=>?_)]
 .apply Cr;intro j c;obtain⟨p,o,mem,x,g,G,Κ,N,b,r,m,n,l,e,rfl,_⟩:=h;apply c;clear c j;rfl
 .apply Cr;intro j c;obtain⟨p,o,mem,x,g,G,Κ,N,b,r,m,n,l,e,rfl,t,fin,I,y,hL,R,u,few,k⟩:=h;erw[i=t.jw,sz=t.sz fin,xea (id y) λq O M=>?_];apply c;erw[-c j,(_,(Ac (Bq (AD pv0 C (rm z) AQ (Aa pv1 (Aa pv2 Ab)))) (Ag (Av (AD pv0 B (rm z) AQ (Aa pv1 (Aa pv2 Ab)))))),?_),xwn Z Z i.hp (YT _ _ _ _ _) Z (xq1 Z (p,o,g.p,mem,x,m.l,m.kc,g,G,n,e,q,Z,i.hp,i.gr,O,by rw[M];lia,?_)),xwn Z Z i.hp (MP _ _ _ _ _) Z (xq1 Z (p,o,mem,x,g,G,Κ,N,b,r,m,n,l,e,Z,t,fin,I,y,hL,R,u,few,k))]
end
theorem Dg(l:Nat):(2:Int)^(l+1)=2^l+2^l:=by rw[A0b];lia
def JG(x y w h r:Int):Prop:=-r<=x/\-r<=y/\x+w<=r/\y+h<=r
instance(x y w h r:Int):Decidable (JG x y w h r):=by unfold JG;infer_instance
theorem aEv(x y w h r:Int):(decide (-r<=x) && (decide (-r<=y) && (decide (x+w<=r) && decide (y+h<=r))))=decide (JG x y w h r):=by
 rw[T5];simp only[R6,A9d];erw[Iff.rfl]
structure Wid(G:Gv)(n f w:Nat):Prop where
ex:∃(q:Sq)(x y z v a b c d:Nat),IH G n f q x y z v/\G[a]?=n8 ([(bareN n:Int),(bareN n:Int),(bareN n:Int),(x:Int)],(n:Int)+1)/\G[b]?=n8 ([(bareN n:Int),(bareN n:Int),(y:Int),(bareN n:Int)],(n:Int)+1) /\
 G[c]?=n8 ([(bareN n:Int),(z:Int),(bareN n:Int),(bareN n:Int)],(n:Int)+1)/\G[d]?=n8 ([(v:Int),(bareN n:Int),(bareN n:Int),(bareN n:Int)],(n:Int)+1)/\G[w]?=n8 ([(a:Int),(b:Int),(c:Int),(d:Int)],(n:Int)+2)
theorem Wid.lev(h:Wid G n f w):Al G w ((n+2:Nat):Int):=by
 erw[xe5 h.ex λq x y z v e=>Cd e λa b c d o j k l g=>xa g λm i=>(_,i,by show(n:Int)+2=_;lia)]
theorem Wid.app{G j:Gv}{k n f w:Nat}(e:AG G j k)(h:Wid G n f w):Wid j n f w:=by
 erw[xe5 h.ex λq x y z v g=>Cd g λa b c d s l m o i=>xa i λp r=>(q,x,y,z,v,a,b,c,d,s.app e,e.get l,e.get m,e.get o,e.get p,e.get r)]
theorem IG(e:G=G0++r)(h:n<=48):Al G (bareN n) (n:Int):=by
 erw[[e],(aBD n h).app]
theorem aAE(h:l<=48):((Dn 48).map V.int)[l]?=n8 (.int (bareN l:Int)):=by
 erw[¬Dn,[C3,C3,S7 (F3 h A6)]];rfl
section
variable{P:N_}{w:Q_}{K:O_}{mg:C_}{n6:T_}{a:Ad}
inductive aDZ(vs:List V)(H:Hp)(Q:VK):Prop
|mk (t:R_) (x y w h r:Int) (_:vs=[.ref t,.int r]) (_:H t=n8 (.tup [.int x,.int y,.int w,.int h])) (_:Q (.bl (decide (JG x y w h r))) H):aDZ vs H Q
def Tv:Sp:=λvs H Q _=>aDZ vs H Q
theorem aE9(F:Fun K "lies_within" "lies_within" Ie f fd)(T:Top K mg a):AJ P w K mg n6 CX0 1 f fd QM Tv:=by
 erw[F.ok Pn D_9 λd A c s H vs Q E p h=>?_]
 erw[(t,x,y,q,o,r,rfl,b,k)=h];rw[<-aEv]at k;erw[(_,(Ag (Av (Mj (FO MO (Fo Dp pv1) (Aj Ao pv0 Ae R_9) (AF _)) (Mj (FO MO (Fo Dp pv1) (Aj Ao pv0 Ae R_9) (AF _)) (Mj (FO MO (AE AO (Aj Ao pv0 Ae R_9) (Aj Ao pv0 Ae R_9)) pv1 (AF _)) (NE (FO MO (AE AO (Aj Ao pv0 Ae R_9) (Aj Ao pv0 Ae R_9)) pv1 (AF _)))))))),?_),xw3 Z Z Z (xq4 Z Z (SqT.of b) (Ai (j:=0) Z) (xq2 Z Z (Pa (λ_ l e=>?_) k))),xw3 Z Z Z (xq4 Z Z (SqT.of b) (Ai (j:=1) Z) (xq2 Z Z (Pa (λ_ m g=>?_) e))),xwi Z Z Z (SqT.of b) (Ai (j:=0) Z) (xwi Z Z Z (SqT.of b) (Ai (j:=2) Z) (xq2 Z Z (xwb Z Z Z (Pa (λ_ n i=>?_) g)))),xwi Z Z Z (SqT.of b) (Ai (j:=1) Z) (xwi Z Z Z (SqT.of b) (Ai (j:=3) Z) (xq2 Z Z (xwb Z Z Z i)))]
inductive Yj(a:Ad)(vs:List V)(H:Hp)(Q:VK):Prop
|mk (g:GA) (G:Gv) (i n:Nat) (_:vs=[.ref g.p,.int i]) (_:AL a H g G) (_:Al G i ((n+1:Nat):Int)) (_:n<48) (_:Q (.int (2^n)) H):Yj a vs H Q
def IK(a:Ad):Sp:=λvs H Q _=>Yj a vs H Q
theorem aB0(F:Fun K "reach_of" "reach_of" LY f fd)(T:Top K mg a)(d:BY P w K mg n6 CX0 3 a.L0 "level_of" Lj (Oh a)):AJ P w K mg n6 CX0 4 f fd Vu (IK a):=by
 erw[F.ok TC D_9 λj A b s H vs Q E o h=>?_]
 erw[(g,G,i,n,rfl,c,(q,e,l),p,k)=h,(_,(Ag (Av (AE NH Ae (AE Cs (AD pv0 d (rm o) AQ (Aa pv1 Ab)) Ae)))),?_),(m:q.lev=(n:Int)+1)=by rw[l];lia]
 erw[xwn Z Z c.hp (ES g) Z (g,G,i,q,Z,c,e,(xq2 Z Z (xq2 Z Z ((by lia,by lia,by decide),?_)))),(_:Q (.int (1*2^(q.lev-1).toNat)) H),[RM n m],k]
inductive Yt(a:Ad)(vs:List V)(H:Hp)(Q:VK):Prop
|mk (g:GA) (G:Gv) (_:vs=[.ref g.p]) (_:AR a H g G) (_:Q (.int (bareN 1:Int)) H):Yt a vs H Q
def OL(a:Ad):Sp:=λvs H Q _=>Yt a vs H Q
theorem aBp(F:Fun K "bare_field" "bare_field" IS f fd)(T:Top K mg a):AJ P w K mg n6 CX0 1 f fd Sz (OL a):=by
 erw[F.ok QF D_9 λd A b s H vs Q E e h=>?_]
 erw[(g,G,rfl,c,k)=h,(_,(Ag (Av (Aj Ar (AA pv0 Z) (Co Z T.f_) R_9))),(xwf Z Z c.at'.hp T.J4 T.Q2 (Jp g) (xq4 Z Z (SqL.of c.br) (Ai (j:=1) (aAE A3)) k)))]
inductive aDo(a:Ad)(vs:List V)(H:Hp)(Q:VK):Prop
|mk (g:GA) (G:Gv) (f n:Nat) (_:vs=[.ref g.p,.int f]) (_:AR a H g G) (_:Al G f ((n+1:Nat):Int)) (_:n<47) (_:G.length<8900000) (_:∀(w:Nat)(G':Gv)(H':Hp),Fr g H H'->AL a H' g G'->AG G G' 5->Wid G' n f w->Q (.int w) H'):aDo a vs H Q
def Wn(a:Ad):Sp:=λvs H Q _=>aDo a vs H Q
theorem aFO(F:Fun K "widened" "widened" Nq f fd)(T:Top K mg a)(a7:BY P w K mg n6 CX0 3 a.L0 "level_of" Lj (Oh a))(M:BY P w K mg n6 CX0 2 a.L0 "linked" Bh (Fu a)):AJ P w K mg n6 CX0 4 f fd Ew (Wn a):=by
 erw[F.ok IL D_9 λam A al s H vs Q E L h=>?_]
 erw[(g,G,f',n,rfl,d,hl,an,few,k)=h,xe5 (BC d.ok hl) λq x y z v m=>?_,lq=m.lev,xea d.at'.pt λts h3 h4=>xea (PairedM.get h4 m.g) λt et D=>?_];have D:H t=n8 (.tup [.int x,.int y,.int z,.int v]):=by
  have D:H t=n8 (.tup (q.parts.map V.int)):=D;rw[m.ps]at D;erw[D]
 erw[(r,e0)=d.g0,l=IG e0 (n:=n) A3,(_,(Ac (Ax 2 IL.nd (AD pv0 a7 (rm L) AQ (Aa pv1 Ab))) (Ac (AS (PW.pt (MF (Ay IC pv2 (Co Z T.f_) (AF _)) (JP (Ay DR pv2 (Co Z T.aAC) (AF _))))) (Ag Bo) Az) (Ac (Ax 3 IL.nd (Aj Ar (AA pv0 Z) pv1 R_9)) (Ac (Ax 4 IL.nd (Aj Ar (AA pv0 Z) (AE Cs pv2 Ae) R_9)) (Ag (Av (AD pv0 M (rm L) AQ (Bb (Aa (AD pv0 M (rm L) AQ (Bb (Aa pv4 (Aa pv4 (Aa pv4 (Aa (Aj Ao pv3 Ae R_9) Ab)))) Ab)) (Aa (AD pv0 M (rm L) AQ (Bb (Aa pv4 (Aa pv4 (Aa (Aj Ao pv3 Ae R_9) (Aa pv4 Ab)))) Ab)) (Aa (AD pv0 M (rm L) AQ (Bb (Aa pv4 (Aa (Aj Ao pv3 Ae R_9) (Aa pv4 (Aa pv4 Ab)))) Ab)) (Aa (AD pv0 M (rm L) AQ (Bb (Aa (Aj Ao pv3 Ae R_9) (Aa pv4 (Aa pv4 (Aa pv4 Ab)))) Ab)) Ab)))) Ab)))))))),?_),xq1 Z (g.p,g.dx,(xq1 Z (d.at'.hp,ES g,(xq1 Z (g,G,f',q,Z,d.at',m.g,?_))))),xwb Z Z Z (xq1 Z ?_),[A3a (by lia:¬q.lev<1)],Bj (xq1 Z (Z,(xq1 Z ?_))),[A3a (by intro z;injection z with z;lia)]]
 erw[Bj (xwf Z Z d.at'.hp T.J4 T.L3 (CC g) (xwi Z Z Z (SqL.of h3) (Ai (by rw[C3,et];rfl)) ?_)),xwf Z Z d.at'.hp T.J4 T.Q2 (Jp g) (xwb Z Z Z (xq4 Z Z (SqL.of d.br) (by rw[show q.lev-1=(n:Int) by lia];erw[Ai (aAE A3)]) ?_)),xq1 Z (g.p,g.dx,(xq1 Z (d.at'.hp,Cf g,?_))),xq1 Z (g.p,g.dx,(xq1 Z (d.at'.hp,Cf g,(xw3 Z Z Z (xwi Z Z Z (SqT.of D) (Ai (j:=0) Z) (S_4,λt1 ag=>?_)))))),s1=AM (o:=.tup [.int (bareN n:Int),.int (bareN n:Int),.int (bareN n:Int),.int x]) ag,(g,G,t1,bareN n,bareN n,bareN n,x,(n:Int),Z,d.at'.same s1,d.ok,Af,(l,l,l,m.hx),by lia,D8 few A6,λU G1 H1 aa O e e1=>?_),f1=(As.fr s1).trans aa,n1=e.few,xwn Z Z O.hp (Cf g) Z (xwj Z Z Z Z (SqT.of (f1.tup d.at' D)) (Ai (j:=1) Z) (xq1 Z (S_4,λt2 ah=>?_))),s2=AM (o:=.tup [.int (bareN n:Int),.int (bareN n:Int),.int y,.int (bareN n:Int)]) ah,(g,G1,t2,bareN n,bareN n,y,bareN n,(n:Int),Z,O.same s2,e.ok,Af,(e.lev l,e.lev l,e.lev m.hy,e.lev l),by lia,by lia,λW G2 H2 fr2 R C e2=>?_),f2=f1.trans ((As.fr s2).trans fr2),n2=C.few,b=e.trans C,xwn Z Z R.hp (Cf g) Z (xwi Z Z Z (SqT.of (f2.tup d.at' D)) (Ai (j:=2) Z) (xw2 Z Z (S_4,λt3 ai=>?_))),s3=AM (o:=.tup [.int (bareN n:Int),.int z,.int (bareN n:Int),.int (bareN n:Int)]) ai,(g,G2,t3,bareN n,z,bareN n,bareN n,(n:Int),Z,R.same s3,C.ok,Af,(b.lev l,b.lev m.hz,b.lev l,b.lev l),by lia,by lia,λX G3 H3 ab S u e3=>?_),f3=f2.trans ((As.fr s3).trans ab),n3=u.few,c=b.trans u,xwn Z Z S.hp (Cf g) Z (xq4 Z Z (SqT.of (f3.tup d.at' D)) (Ai (j:=3) Z) (xw3 Z Z Z (S_4,λt4 aj=>?_))),s4=AM (o:=.tup [.int v,.int (bareN n:Int),.int (bareN n:Int),.int (bareN n:Int)]) aj,(g,G3,t4,v,bareN n,bareN n,bareN n,(n:Int),Z,S.same s4,u.ok,Af,(c.lev m.hw,c.lev l,c.lev l,c.lev l),by lia,by lia,λY G4 H4 ac ae i e4=>?_),f4=f3.trans ((As.fr s4).trans ac),n4=i.few,N=c.trans i,(S_4,λt5 ak=>?_),s5=AM (o:=.tup [.int U,.int W,.int X,.int Y]) ak,E1=(C.trans (u.trans i)).get e1,E2=(u.trans i).get e2,E3=i.get e3,(g,G4,t5,U,W,X,Y,(n:Int)+1,Z,ae.same s5,i.ok,Af,((_,E1,Z),(_,E2,Z),(_,E3,Z),(_,e4,Z)),by lia,by lia,λw' G5 H5 ad af B e5=>?_),I=N.trans B,k w' G5 H5 (f4.trans ((As.fr s5).trans ad)) af I (q,x,y,z,v,U,W,X,Y,m.app I,B.get E1,B.get E2,B.get E3,B.get e4,by rw[e5,show(n:Int)+1+1=(n:Int)+2 by lia])]
end
structure OH(G:Gv)(n i:Nat)(qs:L_)(ps:Nat->Nat->Nat):Prop where
node:∃q,IH G (n+1) i q (qs 0) (qs 1) (qs 2) (qs 3)
sub:∀k,k<4->∃q,IH G n (qs k) q (ps k 0) (ps k 1) (ps k 2) (ps k 3)
theorem OH.app{k n i:Nat}(c:AG G b k)(h:OH G n i qs d):OH b n i qs d:=by
 erw[(q,a)=h.node,((q,a.app c),λk e=>by erw[(q,a)=h.sub k e,(q,a.app c)])]
noncomputable def f4(x y z w:Nat)(k:Nat):Nat:=match k with|0=>x|1=>y|2=>z|_=>w
theorem aCU(ok:GOk G)(h:Al G i ((n+2:Nat):Int)):∃qs e,OH G n i qs e:=by
 erw[xe5 (BC ok (n:=n+1) h) λq x y z w a=>xe5 (BC ok a.hx) λ_ m o p r nx=>xe5 (BC ok a.hy) λ_ s t u v c=>xe5 (BC ok a.hz) λ_ A B C D d=>xe5 (BC ok a.hw) λ_ f g j l nw=>(f4 x y z w,λk=>match k with|0=>f4 m o p r|1=>f4 s t u v|2=>f4 A B C D|_=>f4 f g j l,(q,a),λk b=>?_)]
 match k,b with
 |0,_=>exact(_,nx)
 |1,_=>exact(_,c)
 |2,_=>exact(_,d)
 |3,_=>exact(_,nw)
theorem IH.nat{q:Sq}{x y z w:Nat}(h:IH G n i q x y z w){j:Nat}(a:j<4):q.parts[j]?=n8 ((f4 x y z w j:Nat):Int)/\Al G (f4 x y z w j) n:=by
 rw[h.ps]
 match j,a with
 |0,_=>exact(Z,h.hx)
 |1,_=>exact(Z,h.hy)
 |2,_=>exact(Z,h.hz)
 |3,_=>exact(Z,h.hw)
theorem Qr(p:L_){j:Nat}(a:j<4):f4 (p 0) (p 1) (p 2) (p 3) j=p j:=by
 match j,a with
 |0,_=>rfl
 |1,_=>rfl
 |2,_=>rfl
 |3,_=>rfl
def BA(n:Nat)(ps:Nat->Nat->Nat):Prop:=∀k j,k<4->j<4->j+k≠3->ps k j=bareN n
def FI(G:Gv):Nat->Nat->Nat->Prop
|0,_,_=>False
|1,f,r=>r=f
|n+2,f,r=>∃qs ps,OH G n f qs ps/\((¬BA n ps/\r=f)\/(BA n ps/\∃m,G[m]?=n8 ([(ps 0 3:Int),(ps 1 2:Int),(ps 2 1:Int),(ps 3 0:Int)],(n:Int)+1)/\FI G (n+1) m r))
theorem FI.app{k:Nat}(a:AG G b k):∀{n f r:Nat},FI G n f r->FI b n f r
|0,_,_,h=>h
|1,_,_,h=>h
|n+2,f,r,h=>by
 erw[BM h λqs i d h=>(qs,i,d.app a,?_)]
 rcases h with h|⟨c,m,e,g⟩
 .erw[.inl h]
 .erw[.inr (c,m,a.get e,FI.app a g)]
section
variable{P:N_}{w:Q_}{K:O_}{mg:C_}{n6:T_}{a:Ad}
theorem GT{H:Hp}{g:GA}{G:Gv}(h:AL a H g G){n i:Nat}{q:Sq}{x y z w:Nat}(c:IH G n i q x y z w):∃(ts:H_)(t:R_),H g.pt=n8 (.lst (ts.map V.ref))/\(ts.map V.ref)[i]?=n8 (.ref t)/\H t=n8 (.tup [.int x,.int y,.int z,.int w]):=by
 erw[xea h.pt λts e f=>xea (PairedM.get f c.g) λt d b=>(ts,t,e,by rw[C3,d];rfl,?_)]
 have b:H t=n8 (.tup (q.parts.map V.int)):=b;rw[c.ps]at b;erw[b]
inductive aDf(a:Ad)(vs:List V)(H:Hp)(Q:VK):Prop
|mk (g:GA) (G:Gv) (i n:Nat) (qs:L_) (ps:Nat->Nat->Nat) (_:vs=[.ref g.p,.int i]) (_:AL a H g G) (_:GOk G) (_:OH G n i qs ps) (_:n<47) (_:G.length<8900000) (_:∀(m:Nat)(G':Gv)(H':Hp),Fr g H H'->AL a H' g G'->AG G G' 1->G'[m]?=n8 ([(ps 0 3:Int),(ps 1 2:Int),(ps 2 1:Int),(ps 3 0:Int)],(n:Int)+1)->Q (.int m) H'):aDf a vs H Q
def aEJ(a:Ad):Sp:=λvs H Q _=>aDf a vs H Q
theorem aFF(F:Fun K "middle_of" "middle_of" GP f fd)(T:Top K mg a)(a6:BY P w K mg n6 CX0 2 a.L0 "linked" Bh (Fu a)):AJ P w K mg n6 CX0 3 f fd Ew (aEJ a):=by
 erw[F.ok Mz D_9 λae A ab s H vs Q E hr h=>?_]
 erw[(g,G,i,n,qs,d,rfl,I,ok,C,af,few,k)=h,(q,nd)=C.node,AK (GT I nd) λts t U et ht=>(_,(Ac (CB (i:=2) Z Mz.nd Z Z (Bd.of (So:=Ah GP) (No:=Op) (N:=["quarter","grove"]) (k:=1) (cs:=[0]) Z Z A0) (Py (Aj Ar (AA pv0 Z) pv1 R_9)) (λ_ _ _=>(AW (i:=0) A0 Z Z)) (λ_ _ _=>Be) (λ_ _ _=>(Aj (aBK (K:=K) Z) (Sg (K:=K) Z pv1 Z) pv0 R_9))) (Ag (Av (AD pv0 a6 (rm hr) AQ (Bb (Aa (Aj Ao (Aj Ar pv2 Ae R_9) Ae R_9) (Aa (Aj Ao (Aj Ar pv2 Ae R_9) Ae R_9) (Aa (Aj Ao (Aj Ar pv2 Ae R_9) Ae R_9) (Aa (Aj Ao (Aj Ar pv2 Ae R_9) Ae R_9) Ab)))) Ab))))),?_)]
 erw[xwf Z Z I.hp T.J4 T.L3 (CC g) (xwi Z Z Z (SqL.of U) (Ai et) (t,Z,(_,SqT.of ht),?_))];have b:∀k,k<4->∃tk,(ts.map V.ref)[qs k]?=n8 (.ref tk)/\H tk=n8 (.tup [.int (d k 0),.int (d k 1),.int (d k 2),.int (d k 3)]):=λk hk=>by
  erw[(qk,aa)=C.sub k hk,AK (GT I aa) λag tk D S X=>?_];rw[U]at D;exact(tk,by erw[[(HO.lst.inj (A3h D))],S],X)
 erw[xea (b 0 A6) λr e0 p0=>xea (b 1 A6) λu e1 p1=>xea (b 2 A6) λx e2 p2=>xea (b 3 A6) λy e3 p3=>?_];have all:∀(j:Nat)(v:V),[V.int (qs 0:Int),V.int (qs 1:Int),V.int (qs 2:Int),V.int (qs 3:Int)][j]?=n8 v->∃(k:Nat)(tk:R_),v=.int (k:Int)/\(ts.map V.ref)[k]?=n8 (.ref tk)/\[V.ref r,V.ref u,V.ref x,V.ref y][j]?=n8 (.ref tk):=λj v c=>by
  match j,c with
  |0,c=>erw[!c,(qs 0,r,Z,e0,Z)]
  |1,c=>erw[!c,(qs 1,u,Z,e1,Z)]
  |2,c=>erw[!c,(qs 2,x,Z,e2,Z)]
  |3,c=>erw[!c,(qs 3,y,Z,e3,Z)]
  |j+4,c=>simp at c
 erw[OX (xs:=[.int (qs 0:Int),.int (qs 1:Int),.int (qs 2:Int),.int (qs 3:Int)]) (λj p O=>H=O/\p=[V.ref r,V.ref u,V.ref x,V.ref y].take j) (Z,Z) (λj p O _ z=>z.1▸SqT.of ht) ?_ ?_]
 .erw[?j v p O c ac,(rfl,rfl)=ac,AK (all j v c) λk' tk R ek el=>?_,<-R,(([n8 (.int k')],Z,Z),by erw[[J8],Dz (by show min j 4<10000000;lia)],EF (xwf Z Z I.hp T.J4 T.L3 (CC g) (xwi Z Z Z (SqL.of U) (Ai ek) (Z,?_)))),[F9,el]];rfl
 .erw[?p O ad L hL,(rfl,rfl)=ad,B=AM (o:=.lst [V.ref r,V.ref u,V.ref x,V.ref y]) hL,(l:upd H L (.lst [V.ref r,V.ref u,V.ref x,V.ref y]) L=n8 (.lst [V.ref r,V.ref u,V.ref x,V.ref y]))=Af];rw[show(List.take [V.int (qs 0:Int),V.int (qs 1:Int),V.int (qs 2:Int),V.int (qs 3:Int)].length [V.ref r,V.ref u,V.ref x,V.ref y])=[V.ref r,V.ref u,V.ref x,V.ref y]from rfl];generalize upd H L (.lst [V.ref r,V.ref u,V.ref x,V.ref y])=H1 at B l⊢;erw[M=I.same B,xwn Z Z M.hp (Cf g) Z (xq4 Z Z (SqL.of l) (Ai (j:=0) Z) (xq4 Z Z (SqT.of (B _ _ p0)) (Ai (j:=3) Z) (xwi Z Z Z (SqL.of l) (Ai (j:=1) Z) (xq4 Z Z (SqT.of (B _ _ p1)) (Ai (j:=2) Z) ?_)))),xwi Z Z Z (SqL.of l) (Ai (j:=2) Z) (xq4 Z Z (SqT.of (B _ _ p2)) (Ai (j:=1) Z) (xwi Z Z Z (SqL.of l) (Ai (j:=3) Z) (xq4 Z Z (SqT.of (B _ _ p3)) (Ai (j:=0) Z) (S_4,λt4 Y=>?_)))),s2=AM (o:=.tup [.int (d 0 3),.int (d 1 2),.int (d 2 1),.int (d 3 0)]) Y,(_,n0)=C.sub 0 A6,(_,n1)=C.sub 1 A6,(_,n2)=C.sub 2 A6,(_,n3)=C.sub 3 A6,(g,G,t4,d 0 3,d 1 2,d 2 1,d 3 0,(n:Int),Z,M.same s2,ok,Af,(n0.hw,n1.hz,n2.hy,n3.hx),by lia,D8 few A6,λm G' H' fr W go e=>k m G' H' ((As.fr B).trans ((As.fr s2).trans fr)) W go e)]
inductive aF4(a:Ad)(vs:List V)(H:Hp)(Q:VK):Prop
|mk (g:GA) (G:Gv) (i n:Nat) (qs:L_) (ps:Nat->Nat->Nat) (_:vs=[.ref g.p,.int i]) (_:AR a H g G) (_:OH G n i qs ps) (_:n<47) (_:(BA n ps->∀H',As H H'->Q (.bl o0) H')) (_:(¬BA n ps->∀H',As H H'->Q (.bl o3) H')):aF4 a vs H Q
def aHQ(a:Ad):Sp:=λvs H Q _=>aF4 a vs H Q
theorem aGt(F:Fun K "is_bare_around" "is_bare_around" EH f fd)(T:Top K mg a):AJ P w K mg n6 CX0 1 f fd Ew (aHQ a):=by
 erw[F.ok BV D_9 λah A ac s H vs Q E hr h=>?_]
 erw[(g,G,i,n,qs,l,rfl,r,dp,ai,k1,k2)=h,(q,u)=dp.node,lq=u.lev,AK (GT r.at' u) λts t h3 et ht=>(_,(Ac (Ax 2 BV.nd (Aj Ar (AA pv0 Z) (AE Cs (Aj Ar (AA pv0 Z) pv1 R_9) Ae) R_9)) (Ac (BN A3g Z (MJ o0 Z T.g_ (Aa (Aj Ar (AA pv0 Z) pv1 R_9) Ab)) (ND Z (CZ (AV (i:=3) BV.nd Z O_9) (CZ (AV (i:=4) BV.nd Z O_9) Ly))) (Ag (BN A3g Z (MJ o0 Z T.g_ (Aa (Aj Ar (AA pv0 Z) pv4 R_9) Ab)) (ND Z (CZ (AV (i:=5) BV.nd Z O_9) (CZ (AV (i:=6) BV.nd Z O_9) Ly))) (Ag (AS (PW.pt (NB (Ay IB pv6 pv2 (AF _)) (Lw (Ay IB pv5 (AE Cs Ae pv3) (AF _))))) (Ag (Av JT)) Az))))) (Ag (Av JT)))),?_)]
 erw[xwf Z Z r.at'.hp T.J4 T.Q2 (Jp g) (xwf Z Z r.at'.hp T.J4 T.Q1 (ET g) (xwi Z Z Z (SqL.of r.at'.lv) (Ai (by rw[C3,u.g];rfl)) (xq2 Z Z (xq4 Z Z (SqL.of r.br) (by rw[show q.lev-2=(n:Int) by lia];erw[Ai (aAE A3)]) ?_)))),xwf Z Z r.at'.hp T.J4 T.L3 (CC g) (xwi Z Z Z (SqL.of h3) (Ai et) (t,Z,(_,SqT.of ht),?_)),Lm (b:=o0) (xs:=[.int (qs 0:Int),.int (qs 1:Int),.int (qs 2:Int),.int (qs 3:Int)]) (λj σ I=>As H I/\(∃u3 u4 C D:Option V,σ=[n8 (.ref g.p),n8 (.int i),n8 (.int (bareN n:Int)),u3,u4,C,D])/\∀m d,m<j->m<4->d<4->d+m≠3->l m d=bareN n) (As.refl H,(n9,n9,n9,n9,Z),λm d h=>absurd h (O1 _)) (λj σ I _ z=>SqT.of (z.1 _ _ ht)) ?_ ?_]
 .erw[?j v σ I T' c ad nT,(sm,(u3,u4,C,D,rfl),W)=ad,hj=(C2.mp c).1];have y:v=.int (qs j:Int):=by
   match j,hj,c with
   |0,_,c=>cases c;rfl
   |1,_,c=>cases c;rfl
   |2,_,c=>cases c;rfl
   |3,_,c=>cases c;rfl
  erw[<-y,(qk,ab)=dp.sub j hj,U=sm.trans (AM (o:=.tup [.int j,.int (qs j)]) nT),Ql Af ?_];generalize upd I T' (.tup [.int j,.int (qs j)])=H3 at U⊢;erw[AK (GT (r.at'.same U) ab) λaj t3 Y X S=>xwf Z Z ((r.at'.same U).hp) T.J4 T.L3 (CC g) (xwi Z Z Z (SqL.of Y) (Ai X) (t3,Z,(_,SqT.of S),?_)),Lm (b:=o0) (xs:=[.int (l j 0:Int),.int (l j 1:Int),.int (l j 2:Int),.int (l j 3:Int)]) (λk σ M=>As H3 M/\(∃C D:Option V,σ=[n8 (.ref g.p),n8 (.int i),n8 (.int (bareN n:Int)),n8 (.int j),n8 (.int (qs j)),C,D])/\∀d,d<k->d<4->d+j≠3->l j d=bareN n) (As.refl H3,(_,_,Z),λd h=>absurd h (O1 _)) (λk σ M _ z=>SqT.of (z.1 _ _ S)) ?_ ?_]
  .erw[?k v σ M T2 c ae aa,(B,(C,D,rfl),x)=ae,R=(C2.mp c).1];have y:v=.int (l j k:Int):=by
    match k,R,c with
    |0,_,c=>cases c;rfl
    |1,_,c=>cases c;rfl
    |2,_,c=>cases c;rfl
    |3,_,c=>cases c;rfl
   erw[<-y,s4=B.trans (AM (o:=.tup [.int k,.int (l j k)]) aa),Ql Af ?_];generalize upd M T2 (.tup [.int k,.int (l j k)])=H5 at s4⊢;erw[xw2 Z Z (Z,(xq1 Z ?_)),ZM (b2:=!decide (V.int (k:Int)=V.int (3-(j:Int)))) (λ_ Q' q=>(xw2 Z Z (xq2 Z Z (Z,(xq1 Z q))))) (LL (λO=>?_) (λO=>?_))]
   .erw[k2 (λba=>?_) H5 (U.trans s4)];rw[R6]at O;have c2:¬k+j=3:=λz=>by
     have:=O.2;rw[A2g (show V.int (k:Int)=V.int (3-(j:Int)) by congr 1;lia)]at this;cases this
    erw[c1=O.1];rw[ba j k hj R c2,A2g rfl]at c1;cases c1
   .erw[(s4,(_,_,Z),λd L N e=>?_)];rcases X9.mp L with h|h
    .erw[x d h N e]
    .erw[<-h,A4h λz=>O ?_,[A3a (show ¬V.int (l j d:Int)=V.int (bareN n:Int) by intro q;injection q with q;erw[z (A4d q)]),A3a (show ¬V.int (d:Int)=V.int (3-(j:Int)) by intro q;injection q with q;lia)]];rfl
  .erw[?σ M af,(B,(C,D,rfl),x)=af,(U.trans B,(_,_,_,_,Z),λm d L N e h4=>?_)];rcases X9.mp L with h|h
   .erw[W m d h N e h4]
   .erw[<-h,x d e e h4]
 .erw[?σ I ag,(sm,(u3,u4,C,D,rfl),W)=ag,k1 (λm d L N e=>W m d L L N e) I sm]
end
theorem FI.lev:∀{l f r:Nat},Al G f (l:Int)->FI G l f r->∃n,n+1<=l/\Al G r ((n+1:Nat):Int)
|0,_,_,_,h=>h.elim
|1,f,r,hl,h=>by
 erw[h=h,<-h,(0,C1 _,hl)]
|n+2,f,r,hl,h=>by
 erw[BM h λqs c d h=>?_];rcases h with ⟨_,rfl⟩|⟨_,m,e,h⟩
 .exact(n+1,C1 _,hl)
 .erw[(k,a,b)=FI.lev (l:=n+1) (_,e,by show(n:Int)+1=_;lia) h,(k,V6 a,b)]
section
variable{P:N_}{w:Q_}{K:O_}{mg:C_}{n6:T_}{a:Ad}
inductive aAm(a:Ad)(vs:List V)(H:Hp)(Q:VK):Prop
|mk (g:GA) (G:Gv) (f n:Nat) (_:vs=[.ref g.p,.int f]) (_:AR a H g G) (_:Al G f ((n+1:Nat):Int)) (_:G.length<8800000) (_:∀(r:Nat)(G':Gv)(H':Hp),Fr g H H'->AR a H' g G'->AG G G' 48->FI G' (n+1) f r->Q (.int r) H'):aAm a vs H Q
def Pe(a:Ad):Sp:=λvs H Q _=>aAm a vs H Q
theorem aC5(F:Fun K "trimmed" "trimmed" Nr f fd)(T:Top K mg a)(a7:BY P w K mg n6 CX0 3 a.L0 "level_of" Lj (Oh a))(bD:Cal P w K mg n6 CX0 1 "is_bare_around" Ew (aHQ a))(cJ:Cal P w K mg n6 CX0 3 "middle_of" Ew (aEJ a)):AJ P w K mg n6 CX0 4 f fd Ew (Pe a):=by
 erw[F.ok LW (λvs H Q E h=>?_) (λaa A S s H vs Q E O h=>?_)]
 .apply Cr;erw[?x e,(g,G,l,n,rfl,_)=h];apply e;clear e x;rfl
 .apply Cr;erw[?x e,(g,G,l,n,rfl,B,hl,few,k)=h,xea (id hl) λq Y lq=>?_];apply e;erw[-e x,(ac:n+1<=48)=by have:=(B.ok.lev Y).2;lia]
  erw[(_,(Ac (AS (Ay IC (AD pv0 a7 (rm O) AQ (Aa pv1 Ab)) (Co Z T.f_) (AF _)) (Ag Bo) Az) (Ac (Ax 2 LW.nd pv1) (Ac (JQ A3g (PW.pt (NB (Ay Ua (Aj Ar (AA pv0 Z) pv2 R_9) (Co Z T.f_) (AF _)) (Lw (Dk (AB bD O (Aa pv0 (Aa pv2 Ab))))))) (Ag (Ax 2 LW.nd (AB cJ O (Aa pv0 (Aa pv2 Ab)))))) (Ag (Av pv2))))),?_),xq1 Z (g.p,g.dx,(xq1 Z (B.at'.hp,ES g,(xq1 Z (g,G,l,q,Z,B.at',Y,(xq2 Z Z (xq1 Z ?_))))))),[A3a (by lia:¬q.lev<1)],Bj (xq1 Z ?_),(λm σ C=>∃(i:Gv)(c:Nat),σ=[n8 (.ref g.p),n8 (.int l),n8 (.int c)]/\Fr g H C/\AR a C g i/\AG G i (n-m)/\m<=n/\Al i c ((m+1:Nat):Int)/\∀(r:Nat)(d:Gv)(k:Nat),AG i d k->FI d (m+1) c r->FI d (n+1) l r,(n,G,l,Z,Fr.refl g H,B,(AG.refl B.ok).mono (P4 _ _),C1 _,hl,λ_ _ _ _ h=>h),?_)];rintro m σ C V;apply Cr;erw[?x e,(i,c,rfl,fr,b,I,mn,lc,U)=V];apply e;erw[-e x,gf=I.few,xea (id lc) λqc ec ab=>xwf Z Z b.at'.hp T.J4 T.Q1 (ET g) (xwi Z Z Z (SqL.of b.at'.lv) (Ai (by rw[C3,ec];rfl)) (xq2 Z Z (xq1 Z ?_)))];cases m with
  |zero =>
   erw[[A3a (by lia:¬(1:Int)<qc.lev)],Bj (Bj (xq1 Z (k c i C fr b (I.mono A3) (U c i 0 (AG.refl b.ok) Z))))]
  |succ m =>
   erw[[A2g (by lia:(1:Int)<qc.lev)],xe2 (aCU b.ok lc) λqs L D=>Cy (xw2 Z Z (g,i,c,m,qs,L,Z,b,D,by lia,λba W v=>(o0,Z,Cy ?_),λR W v=>(o3,Z,Bj ?_)))]
   .erw[(fun σ' M=>∃(t:Gv)(u:Nat),σ'=[n8 (.ref g.p),n8 (.int l),n8 (.int u)]/\Fr g H M/\AR a M g t/\AG G t (n-m)/\m<=n/\Al t u ((m+1:Nat):Int)/\∀(r:Nat)(d:Gv)(k:Nat),AG t d k->FI d (m+1) u r->FI d (n+1) l r,fun σ' M z=>(m,P1 _,z),?_),xw2 Z Z (g,i,c,m,qs,L,Z,b.at'.same v,b.ok,D,by lia,by lia,λu t H4 y N j X=>?_),(t,u,Z,fr.trans ((As.fr v).trans y),((b.same v).fr y N j),(I.trans j).mono A3,by lia,(_,X,by show(m:Int)+1=_;lia),λr d k' o t5=>?_),U r d _ (j.trans o) (qs,L,D.app (j.trans o),.inr (ba,u,o.get X,t5))]
   .erw[xq1 Z (k c i W (fr.trans (As.fr v)) (b.same v) (I.mono A3) (U c i 0 (AG.refl b.ok) (qs,L,D,.inl (R,Z))))]
def Ob(G:Gv)(n f:Nat):Nat->Nat->Prop
|0,w=>w=f
|k+1,w=>∃u,Ob G n f k u/\Wid G (n+k) u w
theorem Ob.app(c:AG G b m):∀{k w:Nat},Ob G n f k w->Ob b n f k w
|0,_,h=>h
|k+1,w,h=>by
 erw[xea h λu d e=>(u,Ob.app c d,e.app c)]
inductive aGP(a:Ad)(vs:List V)(H:Hp)(Q:VK):Prop
|mk (g:GA) (G:Gv) (f n:Nat) (t:R_) (x y wd ht:Int) (_:vs=[.ref g.p,.int f,.ref t]) (_:AR a H g G) (_:Al G f ((n+1:Nat):Int)) (_:n<=40) (_:H t=n8 (.tup [.int x,.int y,.int wd,.int ht])) (_:JG x y wd ht (2^40)) (_:G.length<8700000) (_:∀(k w:Nat)(G':Gv)(H':Hp),Fr g H H'->AR a H' g G'->AG G G' (5*k)->n+k<=40->Ob G' n f k w->Al G' w ((n+k+1:Nat):Int)->JG x y wd ht (2^(n+k))->(∀j,j<k->¬JG x y wd ht (2^(n+j)))->Q (.int w) H'):aGP a vs H Q
def aHe(a:Ad):Sp:=λvs H Q _=>aGP a vs H Q
theorem aHE(F:Fun K "widened_over" "widened_over" FY f fd)(T:Top K mg a)(aK:Cal P w K mg n6 CX0 1 "lies_within" QM Tv)(aC:Cal P w K mg n6 CX0 4 "reach_of" Vu (IK a))(bI:Cal P w K mg n6 CX0 4 "widened" Ew (Wn a)):AJ P w K mg n6 CX0 5 f fd Gn (aHe a):=by
 erw[F.ok Fw (λvs H Q E h=>?_) (λab A aa s H vs Q E W h=>?_)]
 .apply Cr;erw[?M b,(g,G,q,n,t,x,y,B,ht,rfl,_)=h];apply b;clear b M;rfl
 .apply Cr;erw[?M b,(g,G,q,n,t,x,y,B,L,rfl,S,hl,ac,ht,li,few,k)=h];apply b;erw[-b M,(_,(Ac (Ax 3 Fw.nd pv1) (Ac (JQ A3g (DJ (Dk (AB aK W (Aa pv2 (Aa (AB aC W (Aa pv0 (Aa pv3 Ab))) Ab))))) (Ag (Ax 3 Fw.nd (AB bI W (Aa pv0 (Aa pv3 Ab)))))) (Ag (Av pv3)))),?_),xq1 Z (λm σ I=>∃(e:Gv)(c j:Nat),σ=[n8 (.ref g.p),n8 (.int q),n8 (.ref t),n8 (.int c)]/\Fr g H I/\AR a I g e/\AG G e (5*j)/\n+j+m=40/\Al e c ((n+j+1:Nat):Int)/\Ob e n q j c/\∀i,i<j->¬JG x y B L (2^(n+i)),(40-n,G,q,0,Z,Fr.refl g H,S,AG.refl S.ok,by lia,hl,Z,λi hi=>absurd hi (O1 _)),?_)];rintro m σ I D;erw[Ch D λe c j R fr d U C=>xa3 C λO Y wn no=>?_,-C,-D,<-R,gf=U.few,X=fr.tup S.at' ht,xq1 Z (xq1 Z (xq1 Z (g,e,c,n+j,Z,d.at',Y,by lia,t,x,y,B,L,_,Z,X,_,Z,?_))),(hL:JG x y B L (2^(n+j)))]
  .erw[[A2g hL],Bj (xq1 Z (k j c e I fr d U A3 wn Y hL no))]
  .rw[A3a hL];have m0:m≠0:=λz=>by
    subst z;have:n+j=40:=O;rw[this]at hL;erw[hL li]
   erw[Cy (fun σ' N=>∃(o:Gv)(r v:Nat),σ'=[n8 (.ref g.p),n8 (.int q),n8 (.ref t),n8 (.int r)]/\Fr g H N/\AR a N g o/\AG G o (5*v)/\n+v+(m-1)=40/\Al o r ((n+v+1:Nat):Int)/\Ob o n q v r/\∀i,i<v->¬JG x y B L (2^(n+i)),fun σ' N z=>(m-1,by lia,z),?_),xw2 Z Z (g,e,c,n+j,Z,d,Y,by lia,by lia,λr o H3 u V l wi=>?_),(o,r,j+1,Z,fr.trans u,d.fr u V l,(U.trans l).mono (U7 A6 _),by lia,?_,(c,wn.app l,wi),λi hi=>?_)]
   .have:=wi.lev;rw[show n+(j+1)+1=n+j+2 by lia];erw[this]
   .rcases X9.mp hi with h|h
    .erw[no i h]
    .erw[[h],hL]
end
noncomputable def st4(x y z w k j:Nat)(i:Nat):Nat:=if i=k then j else f4 x y z w i
noncomputable def quad(l x y:Nat):Nat:=x/2^l+2*(y/2^l)
theorem Fe(h:x<2^(l+1)):x/2^l<2:=by
 erw[[A0f (X6 A6),K9,-M6],h]
theorem DD(a:x<2^(l+1))(b:y<2^(l+1)):quad l x y<4:=by
 erw[c=Fe a,d=Fe b,¬quad];lia
theorem FG(l:Nat):((2^l:Nat):Int)=(2:Int)^l:=N6 2 l
theorem aFb(l x y:Nat):(x:Int)/2^l+2*((y:Int)/2^l)=((quad l x y:Nat):Int):=by
 erw[¬quad,[-FG,O6,P5,Int.natCast_ediv,Int.natCast_ediv]];rfl
theorem aDz(l x:Nat):(x:Int)%2^l=((x%2^l:Nat):Int):=by rw[<-FG,Int.natCast_emod]
theorem set4(x y z w j:Nat){k:Nat}(a:k<4):([V.int (x:Int),V.int (y:Int),V.int (z:Int),V.int (w:Int)].set k (.int j))=[V.int (st4 x y z w k j 0:Int),V.int (st4 x y z w k j 1:Int),V.int (st4 x y z w k j 2:Int),V.int (st4 x y z w k j 3:Int)]:=by
 match k,a with
 |0,_=>rfl
 |1,_=>rfl
 |2,_=>rfl
 |3,_=>rfl
def Rep(G:Gv)(s:Nat):Nat->Nat->Nat->Nat->Nat->Prop
|0,_,_,_,r=>r=s
|l+1,i,x,y,r=>∃(q:Sq)(a b c d j:Nat),IH G l i q a b c d/\Rep G s l (f4 a b c d (quad l x y)) (x%2^l) (y%2^l) j/\G[r]?=n8 ([(st4 a b c d (quad l x y) j 0:Int),(st4 a b c d (quad l x y) j 1:Int),(st4 a b c d (quad l x y) j 2:Int),(st4 a b c d (quad l x y) j 3:Int)],(l:Int)+1)
theorem Rep.app{G k:Gv}(f:AG G k m):∀{l i x y r:Nat},Rep G s l i x y r->Rep k s l i x y r
|0,_,_,_,_,h=>h
|l+1,i,x,y,r,h=>by
 erw[xe5 h λq a b c d g=>AI g λj o n e=>(q,a,b,c,d,j,o.app f,Rep.app f n,f.get e)]
theorem Rep.lev(ok:GOk G)(g:s<8):∀{l i x y r:Nat},Rep G s l i x y r->Al G r (l:Int)
|0,_,_,_,r,h=>by
 erw[h=h,<-h,(_,ok.leaf r g,Z)]
|l+1,_,_,_,_,h=>by
 erw[xe5 h λq a b c d f=>AI f λj m k e=>(_,e,by show(l:Int)+1=_;lia)]
section
variable{P:N_}{w:Q_}{K:O_}{mg:C_}{n6:T_}{a:Ad}
inductive aDk(a:Ad)(n:Nat)(vs:List V)(H:Hp)(Q:VK):Prop
|mk (g:GA) (G:Gv) (i l x y s:Nat) (_:vs=[.ref g.p,.int i,.int x,.int y,.int s]) (_:AL a H g G) (_:GOk G) (_:Al G i (l:Int)) (_:l<n) (_:x<2^l) (_:y<2^l) (_:s<8) (_:G.length+l<8900000) (_:∀(r:Nat)(G':Gv)(H':Hp),Fr g H H'->AL a H' g G'->AG G G' l->Rep G' s l i x y r->Q (.int r) H'):aDk a n vs H Q
def Wp(a:Ad)(n:Nat):Sp:=λvs H Q _=>aDk a n vs H Q
theorem aB1(F:Fun K "replaced" "replaced" LX f fd)(T:Top K mg a)(hm:mg "replaced" = n8 (.ref f))(Bi:CO K fd Go [])(aS:BY P w K mg n6 CX0 3 a.L0 "leaf" SF (RQ a))(a6:BY P w K mg n6 CX0 2 a.L0 "linked" Bh (Fu a)):∀n,AJ P w K mg n6 CX0 (n+4) f fd Go (Wp a n)
|0=>by
 erw[F.ok Ee (λvs H Q E h=>?_) (λab A O s H vs Q E X h=>?_)]
 .erw[(g,G,i,l,x,y,s,rfl,_,_,_,h0,_)=h,absurd h0 (O1 _)]
 .erw[(g,G,i,l,x,y,s,rfl,_,_,_,h0,_)=h,absurd h0 (O1 _)]
|n+1=>by
 have bO:Cal P w K mg n6 CX0 (n+4) "replaced" Go (Wp a n):=(f,fd,aB1 F T hm Bi aS a6 n,hm,F.kp,Bi)
 erw[F.ok Ee (λvs H Q E h=>?_) (λab A O s H vs Q E X h=>?_)]
 .erw[(g,G,i,l,x,y,s,rfl,_)=h];rfl
 .erw[(g,G,i,l,x,y,st,rfl,B,ok,hl,ln,hx,hy,s8,few,k)=h,xea (id hl) λq0 e0 l0=>(_,(Ac (Ax 5 Ee.nd (Aj Ar (AA pv0 Z) pv1 R_9)) (Ac (AS (Ay DR pv5 Ae (AF _)) (Ag (Av (AD pv0 aS (rm X) AQ (Aa pv4 Ab)))) Az) (Ac (Ax 6 Ee.nd (AE NH Ae (AE Cs pv5 Ae))) (Ac (Ax 7 Ee.nd (BW SX Z T.aAt PyProof.Rows.boot_list (Aa (Aj Ar (AA pv0 Z) pv1 R_9) Ab))) (Ac (Ax 8 Ee.nd (AE AO (AE Ub pv2 pv6) (AE Ec Ae (AE Ub pv3 pv6)))) (Ac (aCC (AB bO X (Aa pv0 (Aa (Aj Ar pv7 pv8 R_9) (AY Bu pv2 pv6 (AY Bu pv3 pv6 (Aa pv4 Ab)))))) (aB8 pv7 pv8 TB)) (Ag (Av (AD pv0 a6 (rm X) AQ (Aa (BW CD Z T.l_ A5f (Aa pv7 Ab)) Ab)))))))))),?_)]
  erw[(_,Z,g.p,_,g.dx,_,_,Z,B.hp,T.J4,T.Q1,ET g,_,Z,g.lv,_,(i:Int),.int q0.lev,Z,Z,SqL.of B.lv,Ai (by rw[C3,e0];rfl),?_)];cases l with
  |zero =>
   erw[[l0],xq1 Z (Z,(xq1 Z (Cy (xwn Z Z B.hp (WK g) Z (g.p,(st:Int),Z,O4 _,by lia,k st G H (Fr.refl g H) B (AG.refl ok) Z)))))]
  |succ l =>
   have ag:q0.lev=(l:Int)+1:=by rw[l0];lia
   erw[ai=(ok.lev e0).2,C=WH (l:=l) A3,v=OO l,xe5 (BC ok hl) λq c d m u D=>AK (GT B D) λts t h3 et ht=>xq1 Z (Z,(xq1 Z ?_)),[A3a (by intro z;injection z with z;lia)],Bj (xwb Z Z Z (xq2 Z Z ((by lia,by lia,by decide),?_)))];rw[show(λ(i j:Int)=>V.int (i*2^j.toNat)) 1 (q0.lev-1)=V.int (2^l)from A4e V.int (RM l ag)];erw[xwf Z Z B.hp T.J4 T.L3 (CC g) (xwi Z Z Z (SqL.of h3) (Ai et) (t,(xq1 Z (.inr (SqT.of ht),λL hL=>?_)))),aL=Ap.new B hL,s1=AM (o:=.lst [.int c,.int d,.int m,.int u]) hL,(M:upd H L (.lst [.int c,.int d,.int m,.int u]) L=n8 (.lst [.int c,.int d,.int m,.int u]))=Af];generalize upd H L (.lst [.int c,.int d,.int m,.int u])=H1 at s1 M⊢;erw[Y=DD hx hy,xw2 Z Z (xq2 Z Z ((v,C),(xw2 Z Z (xq2 Z Z ((v,C),(xq2 Z Z (.inl (by decide,by decide),(xq2 Z Z ?_))))))))];rw[show(λ(i j:Int)=>V.int (i+j)) ((x:Int)/2^l) (2*((y:Int)/2^l))=V.int ((quad l x y:Nat):Int)from A4e V.int (aFb l x y)];have aa:[V.int (c:Int),V.int (d:Int),V.int (m:Int),V.int (u:Int)][quad l x y]?=n8 (.int (f4 c d m u (quad l x y):Int)):=by
    generalize quad l x y=kk at Y⊢
    match kk,Y with
    |0,_=>rfl
    |1,_=>rfl
    |2,_=>rfl
    |3,_=>rfl
   erw[xw3 Z Z Z (xq4 Z Z (SqL.of M) (Ai aa) (xw2 Z Z (xq2 Z Z (v,(xw2 Z Z (xq2 Z Z (v,(xq1 Z ?_)))))))),(g,G,f4 c d m u (quad l x y),l,x%2^l,y%2^l,st,by rw[<-aDz,<-aDz];rfl,(B.same s1),ok,((D.nat Y).2),by lia,N4 _ (X6 A6),N4 _ (X6 A6),s8,by lia,λj G1 H2 fr ad R rp=>?_),gf=R.few,U=fr.get aL M,xw2 Z Z (L,_,((quad l x y:Nat):Int),quad l x y,Z,Z,U,by erw[¬ixN,[A2h (O4 _),A2h (by show((quad l x y:Nat):Int)<((4:Nat):Int);lia),M9]],?_),[set4 c d m u j Y],N=ad.put (o:=.lst [V.int (st4 c d m u (quad l x y) j 0:Int),V.int (st4 c d m u (quad l x y) j 1:Int),V.int (st4 c d m u (quad l x y) j 2:Int),V.int (st4 c d m u (quad l x y) j 3:Int)]) U aL.1 aL.2.1,(W:upd H2 L (.lst [V.int (st4 c d m u (quad l x y) j 0:Int),V.int (st4 c d m u (quad l x y) j 1:Int),V.int (st4 c d m u (quad l x y) j 2:Int),V.int (st4 c d m u (quad l x y) j 3:Int)]) L=n8 (.lst [V.int (st4 c d m u (quad l x y) j 0:Int),V.int (st4 c d m u (quad l x y) j 1:Int),V.int (st4 c d m u (quad l x y) j 2:Int),V.int (st4 c d m u (quad l x y) j 3:Int)]))=Af];have S:Fr g H (upd H2 L (.lst [V.int (st4 c d m u (quad l x y) j 0:Int),V.int (st4 c d m u (quad l x y) j 1:Int),V.int (st4 c d m u (quad l x y) j 2:Int),V.int (st4 c d m u (quad l x y) j 3:Int)])):=λb o e m1 m2 m3=>by
    erw[[Aq (Am e hL)],fr _ _ (s1 _ _ e) m1 m2 m3]
   generalize upd H2 L (.lst [V.int (st4 c d m u (quad l x y) j 0:Int),V.int (st4 c d m u (quad l x y) j 1:Int),V.int (st4 c d m u (quad l x y) j 2:Int),V.int (st4 c d m u (quad l x y) j 3:Int)])=H3 at N W S⊢;erw[xwn Z Z N.hp (Cf g) Z (L,(xq1 Z (.inl (SqL.of W,λt4 af=>?_)))),s4=AM (o:=.tup [V.int (st4 c d m u (quad l x y) j 0:Int),V.int (st4 c d m u (quad l x y) j 1:Int),V.int (st4 c d m u (quad l x y) j 2:Int),V.int (st4 c d m u (quad l x y) j 3:Int)]) af,ah=D.app R];have lst:∀ii,ii<4->Al G1 (st4 c d m u (quad l x y) j ii) (l:Int):=λii hi=>by
    unfold st4;split
    .exact(rp.lev R.ok s8)
    .exact(ah.nat hi).2
   erw[(g,G1,t4,_,_,_,_,(l:Int),Z,N.same s4,R.ok,Af,(lst 0 A6,lst 1 A6,lst 2 A6,lst 3 A6),by lia,by lia,λr G2 H4 ac ae I e4=>?_),k r G2 H4 (S.trans ((As.fr s4).trans ac)) ae (R.trans I) (q,c,d,m,u,j,D.app (R.trans I),rp.app I,e4)]
structure LJ(G:Gv)(n f:Nat)(x y:Int)(s r:Nat)(k w i:Nat):Prop where
le:n+k<=40
wid:Ob G n f k w
lw:Al G w ((n+k+1:Nat):Int)
li:JG x y 1 1 (2^(n+k))
no:∀j,j<k->¬JG x y 1 1 (2^(n+j))
rep:Rep G s (n+k+1) w (x+2^(n+k)).toNat (y+2^(n+k)).toNat i
tr:FI G (n+k+1) i r
theorem WT(h:JG x y 1 1 (2^m)):(x+2^m).toNat<2^(m+1)/\(y+2^m).toNat<2^(m+1)/\0<=x+2^m/\0<=y+2^m:=by
 erw[xa3 h λb c d f=>?_,e=FG (m+1)];rw[Dg]at e;erw[p=OO m];refine(?_,?_,by lia,by lia)<;>lia
inductive Yl(a:Ad)(vs:List V)(H:Hp)(Q:VK):Prop
|mk (g:GA) (G:Gv) (f n:Nat) (x y:Int) (s:Nat) (_:vs=[.ref g.p,.int f,.int x,.int y,.int s]) (_:AR a H g G) (_:Al G f ((n+1:Nat):Int)) (_:n<=40) (_:JG x y 1 1 (2^40)) (_:s<8) (_:G.length<8000000) (_:∀(r k w i:Nat)(G':Gv)(H':Hp),Fr g H H'->AR a H' g G'->AG G G' 400->LJ G' n f x y s r k w i->Q (.int r) H'):Yl a vs H Q
def RO(a:Ad):Sp:=λvs H Q _=>Yl a vs H Q
theorem aBy(F:Fun K "planted" "planted" Nt f fd)(T:Top K mg a)(X:Cal P w K mg n6 CX0 1 "lies_within" QM Tv)(bC:Cal P w K mg n6 CX0 2 "is_state" Vv aFi)(W:Cal P w K mg n6 CX0 4 "reach_of" Vu (IK a))(bN:Cal P w K mg n6 CX0 5 "widened_over" Gn (aHe a))
 (bO:Cal P w K mg n6 CX0 54 "replaced" Go (Wp a 50)) (Y:Cal P w K mg n6 CX0 4 "trimmed" Ew (Pe a)):AJ P w K mg n6 CX0 55 f fd NF (RO a):=by
 erw[F.ok IM D_9 λaa A B s H vs Q E i h=>?_]
 erw[(g,G,f',n,x,y,st,rfl,fu,hl,z,N,R,few,k)=h,(_,(Ac (Ax 5 IM.nd (Dv (Aa pv2 (Aa pv3 (AN (AN Ab)))))) (Ac (AS (DJ (Dk (AB X i (Aa pv5 (Aa (Co Z T.aAW) Ab))))) (Ag Bo) Az) (Ac (AS (DJ (Dk (AB bC i (Aa pv4 Ab)))) (Ag Bo) Az) (Ac (Ax 6 IM.nd (AB bN i (Aa pv0 (Aa pv1 (Aa pv5 Ab))))) (Ac (Ax 7 IM.nd (AB W i (Aa pv0 (Aa pv6 Ab)))) (Ag (Av (AB Y i (Aa pv0 (Aa (AB bO i (Aa pv0 (Aa pv6 (AY AO pv2 pv7 (AY AO pv3 pv7 (Aa pv4 Ab)))))) Ab)))))))))),?_),xw2 Z Z (S_4,λt ht=>?_),C=AM (o:=.tup [.int x,.int y,.int 1,.int 1]) ht,(e:upd H t (.tup [.int x,.int y,.int 1,.int 1]) t=n8 (.tup [.int x,.int y,.int 1,.int 1]))=Af];generalize upd H t (.tup [.int x,.int y,.int 1,.int 1])=H1 at C e⊢;erw[xq1 Z (t,x,y,1,1,_,Z,e,_,Z,?_),[A2g (show JG x y 1 1 1099511627776 from N)],Bj (xq1 Z ((st:Int),Z,O4 _,by lia,o0,Z,Bj ?_)),xw3 Z Z Z (g,G,f',n,t,x,y,1,1,Z,(fu.same C),hl,z,e,N,D8 few A6,λkk D I H2 fr2 c l le wn v M no=>?_),ab=l.few,xw2 Z Z (g,I,D,n+kk,Z,c.at',v,F3 le A6,?_),xa3 (WT M) λb1 b2 b3 b4=>xw3 Z Z Z (xw2 Z Z (xq2 Z Z (xw2 Z Z (xq2 Z Z (xq1 Z ?_))))),(g,I,D,n+kk+1,(x+2^(n+kk)).toNat,(y+2^(n+kk)).toNat,st,by rw[S8 b3,S8 b4];rfl,c.at',c.ok,v,by lia,b1,b2,R,by lia,λL S H3 j u d O=>?_),ac=d.few,(g,S,L,n+kk,Z,(c.fr j u d),(O.lev d.ok R),by lia,λr U V p q m tr=>?_),b=d.trans m,k r kk D L U V ((As.fr C).trans (fr2.trans (j.trans p))) q ((l.trans b).mono A3) (le,wn.app b,b.lev v,M,no,O.app m,tr)]
end
structure Cl where
x:Int
y:Int
s:Nat
def Lu(H:Hp)(t:R_)(c:Cl):Prop:=H t=n8 (.tup [.int c.x,.int c.y,.int c.s])
structure Zz(c:Cl):Prop where
li:JG c.x c.y 1 1 (2^40)
s:c.s<8
theorem LJ.app{s r k w i:Nat}(a:AG G b m)(h:LJ G n f x y s r k w i):LJ b n f x y s r k w i:=(h.le,h.wid.app a,a.lev h.lw,h.li,h.no,h.rep.app a,h.tr.app a)
inductive Te(G:Gv):List Cl->Nat->Nat->Prop
|nil:Te G [] 0 (bareN 1)
|cons {cs:List Cl} {c:Cl} {n f r k w i m:Nat} (h:Te G cs n f) (l:Al G f ((n+1:Nat):Int)) (p:LJ G n f c.x c.y c.s r k w i) (l':Al G r ((m+1:Nat):Int)):Te G (c::cs) m r
theorem Te.app(a:AG G b m)(h:Te G cs n f):Te b cs n f:=by
 induction h with
 |nil=>erw[.nil]
 |cons _ l p d c=>erw[.cons c (a.lev l) (p.app a) (a.lev d)]
section
variable{P:N_}{w:Q_}{K:O_}{mg:C_}{n6:T_}{a:Ad}
inductive aAc(a:Ad)(vs:List V)(H:Hp)(Q:VK):Prop
|mk (g:GA) (G:Gv) (L:R_) (ts:H_) (cs:List Cl) (_:vs=[.ref g.p,.ref L]) (_:AR a H g G) (_:H L=n8 (.lst (ts.map V.ref))) (_:L≠g.lv) (_:L≠g.pt) (_:Paired (Lu H) ts cs) (_:(∀c∈cs,Zz c)) (_:G.length+400*cs.length<8000000) (_:∀(f n:Nat)(G':Gv)(H':Hp),Fr g H H'->AR a H' g G'->AG G G' (400*cs.length)->n<=40->Al G' f ((n+1:Nat):Int)->Te G' cs.reverse n f->Q (.int f) H'):aAc a vs H Q
def aEE(a:Ad):Sp:=λvs H Q _=>aAc a vs H Q
theorem aE5(F:Fun K "field_of" "field_of" Mc f fd)(T:Top K mg a)(aZ:Cal P w K mg n6 CX0 1 "bare_field" Sz (OL a))(cT:Cal P w K mg n6 CX0 55 "planted" NF (RO a)):AJ P w K mg n6 CX0 56 f fd Ml (aEE a):=by
 erw[F.ok GO D_9 λab A aa s H vs Q E hr h=>?_]
 erw[(g,G,L,ts,cs,rfl,C,hL,n1,n2,pr,Y,few,k)=h,(r0,e0)=C.g0,(_,(Ac (Ax 2 GO.nd (AB aZ hr (Aa pv0 Ab))) (Ac (BN A3g Z (BH pv1) (AV (i:=3) GO.nd Z O_9) (Ag (Ax 2 GO.nd (AB cT hr (Aa pv0 (Aa pv2 (Aa (Aj Ao pv3 Ae R_9) (Aa (Aj Ao pv3 Ae R_9) (Aa (Aj Ao pv3 Ae R_9) Ab))))))))) (Ag (Av pv2)))),?_),xq1 Z (g,G,Z,C,?_),xq1 Z (L,Z,(_,SqL.of hL),?_),MY (xs:=ts.map V.ref) (λj σ B=>∃(d:Gv)(f n:Nat)(u3:Option V),σ=[n8 (.ref g.p),n8 (.ref L),n8 (.int f),u3]/\Fr g H B/\AR a B g d/\AG G d (400*j)/\n<=40/\Al d f ((n+1:Nat):Int)/\Te d (cs.take j).reverse n f) (G,bareN 1,0,n9,Z,Fr.refl g H,C,AG.refl C.ok,by lia,IG e0 A3,.nil) (λj σ B _ ⟨_,_,_,_,_,fr,_⟩=>SqL.of (fr _ _ hL n1 n2 (AC hL C.at'.nm A4))) ?_ ?_]
 .erw[?j v σ B ev N,Cd N λd W n u3 l fr o M b=>xa2 b λz R D=>?_,-b,-N,<-l];rw[C3]at ev;erw[xea (D7.mp ev) λt et S=>?_,<-S,xea (PairedM.getL pr et) λc U hc=>?_,e=Y c (D0 U),hj=(C2.mp U).1,u=fr.tup C.at' hc,gf=M.few,xw3 Z Z Z (xq4 Z Z (SqT.of u) (Ai (j:=0) Z) (xwi Z Z Z (SqT.of u) (Ai (j:=1) Z) (xwi Z Z Z (SqT.of u) (Ai (j:=2) Z) ?_))),(g,d,W,n,c.x,c.y,c.s,Z,o,R,z,e.li,e.s,by lia,λr kk w' i' G2 H3 X I q pl=>?_),xea (FI.lev (pl.rep.lev I.ok e.s) pl.tr) λm lm lr=>?_,le=pl.le,(G2,r,m,(xq1 Z (fr.trans X,I,(M.trans q).mono (U7 A6 _),by lia,lr,?_))),[F9,U,R7,List.reverse_append],.cons (D.app q) (q.lev R) pl lr]
 .erw[?σ B O,Cd O λd W n u3 l fr o M b=>xa2 b λz R D=>?_,-b,-O,<-l];rw[C0,(A3e pr)]at M D;rw[J7]at D;erw[xq1 Z (k W n d B fr o M z R D)]
end
def Lq(G:Gv)(n f:Nat):Prop:=n=0\/∃m qs ps,n=m+1/\OH G m f qs ps/\¬BA m ps
theorem Lq.app{k n f:Nat}(c:AG G a k)(h:Lq G n f):Lq a n f:=by
 rcases h with h|⟨m,qs,g,e,d,b⟩
 .erw[.inl h]
 .erw[.inr (m,qs,g,e,d.app c,b)]
end J
namespace J
open PySem L2
noncomputable def cellF(G:Gv):Nat->Nat->Nat->Nat->Nat
|0,i,_,_=>i
|n+1,i,x,y=>match G[i]? with
 |some q=>cellF G n (q.parts.getD (quad n x y) 0).toNat (x%2^n) (y%2^n)
 |none=>0
theorem Bp(n:Nat):0<2^n:=X6 A6
theorem BJ{q:Sq}{a b c d:Nat}(h:IH G n i q a b c d)(e:x<2^(n+1))(f:y<2^(n+1)):cellF G (n+1) i x y=cellF G n (f4 a b c d (quad n x y)) (x%2^n) (y%2^n):=by
 rw[show cellF G (n+1) i x y=(match G[i]? with|some q=>cellF G n (q.parts.getD (quad n x y) 0).toNat (x%2^n) (y%2^n)|none=>0)from rfl,h.g];show cellF G n (q.parts.getD (quad n x y) 0).toNat _ _=_;have:=(h.nat (DD e f)).1;rw[D9,this];rfl
theorem UK{k:Nat}(ok:GOk G)(g:AG G f k):∀{n i x y:Nat},Al G i (n:Int)->x<2^n->y<2^n->cellF f n i x y=cellF G n i x y
|0,_,_,_,_,_,_=>rfl
|n+1,i,x,y,h,hx,hy=>by
 erw[xe5 (BC ok h) λq a b c d e=>?_,[BJ e hx hy,BJ (e.app g) hx hy],UK ok g (e.nat (DD hx hy)).2 (N4 _ (Bp n)) (N4 _ (Bp n))]
theorem FV(e:G=G0++r)(ok:GOk G):∀{n x y:Nat},n<=48->x<2^n->y<2^n->cellF G n (bareN n) x y=0
|0,_,_,_,_,_=>rfl
|n+1,x,y,hn,hx,hy=>by
 erw[xe5 (BC ok (IG e (n:=n+1) hn)) λq a b c d k=>?_];have l:a=bareN n/\b=bareN n/\c=bareN n/\d=bareN n:=by
  erw[g=k.g];rw[show bareN (n+1)=8+n from rfl,aBE e n (T9 hn)]at g;erw[!g,s=k.ps];injection s with s0 s
  injection s with s1 s
  injection s with s2 s
  injection s with s3 s
  exact((A4d s0).symm,(A4d s1).symm,(A4d s2).symm,(A4d s3).symm)
 erw[xa3 l λf h i j=>?_,-l,<-f,<-h,<-i,<-j,[BJ k hx hy]];have:f4 (bareN n) (bareN n) (bareN n) (bareN n) (quad n x y)=bareN n:=by unfold f4;split<;>rfl
 erw[[this],FV e ok A3 (N4 _ (Bp n)) (N4 _ (Bp n))]
theorem GG{n k x y:Nat}(c:k<4)(a:x<2^n)(b:y<2^n):(x+2^n*(k%2))<2^(n+1)/\(y+2^n*(k/2))<2^(n+1)/\quad n (x+2^n*(k%2)) (y+2^n*(k/2))=k/\(x+2^n*(k%2))%2^n=x/\(y+2^n*(k/2))%2^n=y:=by
 erw[p=Bp n,(e:2^(n+1)=2*2^n)=by rw[M6];lia]
 erw[¬quad,[P9 _ _ p,P9 _ _ p,S2,S2,P6 a,P6 b,R4 a,R4 b,e]];generalize 2^n=h at *
 match k,c with
 |0,_=>exact(by lia,by lia,Z,Z,Z)
 |1,_=>exact(by lia,by lia,Z,Z,Z)
 |2,_=>exact(by lia,by lia,Z,Z,Z)
 |3,_=>exact(by lia,by lia,Z,Z,Z)
theorem NZ(ok:GOk G):∀{n i j:Nat},Al G i (n:Int)->Al G j (n:Int)->(∀x y,x<2^n->y<2^n->cellF G n i x y=cellF G n j x y)->i=j
|0,i,j,_,_,h=>h 0 0 A6 A6
|n+1,i,j,hi,hj,h=>by
 erw[xe5 (BC ok hi) λq a b c d l=>xe5 (BC ok hj) λF r s t d' f=>?_];have e:∀k,k<4->f4 a b c d k=f4 r s t d' k:=λk p=>by
  erw[NZ ok (l.nat p).2 (f.nat p).2 λx y z A=>xa4 (GG p z A) λm o u v w=>?_];have:=h _ _ m o;rw[BJ l m o,BJ f m o,u,v,w]at this;erw[this]
 erw[B=e 0 A6,C=e 1 A6,D=e 2 A6,E=e 3 A6,<-B C D E,ok.one l.g f.g (l.ps.trans f.ps.symm)]
theorem Tu(a:x/2^n=X/2^n)(b:x%2^n=X%2^n):x=X:=by
 rw[<-O5 x (2^n),<-O5 X (2^n),a,b]
theorem TN(ok:GOk G)(t:s<8):∀{n i X Y r x y:Nat},X<2^n->Y<2^n->x<2^n->y<2^n->Rep G s n i X Y r->cellF G n r x y=if x=X/\y=Y then s else cellF G n i x y
|0,i,X,Y,r,x,y,hX,hY,hx,hy,h=>by
 erw[h=h,v=V5.mp hX,w=V5.mp hY,E=V5.mp hx,F=V5.mp hy,<-v w E F h];rfl
|n+1,i,X,Y,r,x,y,hX,hY,hx,hy,h=>by
 erw[xe5 h λq a b c d o=>AI o λj u p e=>?_];have lst:∀l,l<4->Al G (st4 a b c d (quad n X Y) j l) (n:Int):=λl hi=>by
  unfold st4;split
  .exact(p.lev ok t)
  .exact(u.nat hi).2
 have K:IH G n r _ (st4 a b c d (quad n X Y) j 0) (st4 a b c d (quad n X Y) j 1) (st4 a b c d (quad n X Y) j 2) (st4 a b c d (quad n X Y) j 3):=(e,Z,Z,lst 0 A6,lst 1 A6,lst 2 A6,lst 3 A6)
 erw[L=DD hx hy,[BJ K hx hy,BJ u hx hy,Qr (st4 a b c d (quad n X Y) j) L],m=Bp n,O=Fe hx,P=Fe hy,M=Fe hX,N=Fe hY,¬st4,(g:quad n x y=quad n X Y)]
 .rw[A2h g,TN ok t (N4 _ m) (N4 _ m) (N4 _ m) (N4 _ m) p,g];have k:x/2^n=X/2^n/\y/2^n=Y/2^n:=by
   unfold quad at g;generalize x/2^n=A at *
   generalize X/2^n=B at *
   generalize y/2^n=C at *
   generalize Y/2^n=D at *
   lia
  erw[(H,I)=k,(f:x=X/\y=Y)]
  .rw[A2h f,A2h (by rw[f.1],by rw[f.2])]
  .rw[A2f f,A2f λz=>f (Tu H z.1,Tu I z.2)]
 .rw[A2f g,A2f λz=>g (by rw[z.1,z.2])]
noncomputable def fieldF(G:Gv)(n f:Nat)(x y:Int):Nat:=if -(2^n)<=x/\x<2^n/\-(2^n)<=y/\y<2^n then cellF G (n+1) f (x+2^n).toNat (y+2^n).toNat else 0
theorem GM(a:-(2^n)<=x)(b:x<2^n):(x+2^n).toNat<2^(n+1):=by
 erw[e=FG (n+1)];rw[Dg]at e;lia
theorem IE{k n f:Nat}(ok:GOk G)(b:AG G a k)(h:Al G f ((n+1:Nat):Int))(x y:Int):fieldF a n f x y=fieldF G n f x y:=by
 unfold fieldF;split
 .rename_i z;erw[UK ok b h (GM z.1 z.2.1) (GM z.2.2.1 z.2.2.2)]
 .rfl
theorem SJ(u:Nat)(a:h*u<=X)(b:X<h*(u+1)):X/h=u/\X%h=X-h*u:=by
 erw[e=Nat.div_eq_of_lt_le (by erw[[K9],a]) (by erw[[K9],b]),(e,by have:=O5 X h;rw[e]at this;lia)]
theorem MS(x n:Nat):x%2^(n+1)%2^n=x%2^n:=Nat.mod_mod_of_dvd x (2,by rw[M6])
theorem NY{c:Nat->Nat->Nat}(h:OH G n i qs c)(d:x<2^(n+2))(e:y<2^(n+2)):cellF G (n+2) i x y=cellF G n (c (quad (n+1) x y) (quad n (x%2^(n+1)) (y%2^(n+1)))) (x%2^n) (y%2^n):=by
 erw[(q,g)=h.node,f=DD (l:=n+1) d e,(a:x%2^(n+1)<2^(n+1))=N4 _ (Bp _),(b:y%2^(n+1)<2^(n+1))=N4 _ (Bp _),(j,nk)=h.sub _ f,[BJ g d e,Qr qs f,BJ nk a b,Qr (c _) (DD a b),MS,MS]]
theorem aGY(e:u<2*h):(u+h)/(2*h)=u/h/\(u+h)%(2*h)/h=1-u/h/\(u+h)%h=u%h/\u/h<2:=by
 have p:0<h:=by lia
 rcases Nat.lt_or_ge u h with z|z
 .erw[a=P6 z,(b:(u+h)/(2*h)=0)=P6 A3,(c:(u+h)%(2*h)=u+h)=R4 A3,(d:(u+h)/h=1)=(SJ (X:=u+h) 1 A3 A3).1,(by rw[a,b],by rw[c,d,a],Nat.add_mod_right u h,by lia)]
 .erw[(a:u/h=1)=(SJ 1 A3 A3).1,b=SJ (h:=2*h) (X:=u+h) 1 A3 A3,(c:(u+h-2*h*1)/h=0)=P6 A3,(by rw[a,b.1],by rw[b.2,c,a],Nat.add_mod_right u h,by lia)]
theorem Rg(n:Nat):2^(n+1)=2*2^n:=by rw[M6];lia
theorem aBe(ok:GOk G)(h:OH G n i qs a)(C:G[m]?=n8 ([(a 0 3:Int),(a 1 2:Int),(a 2 1:Int),(a 3 0:Int)],(n:Int)+1))(c:u<2^(n+1))(e:v<2^(n+1)):cellF G (n+2) i (u+2^n) (v+2^n)=cellF G (n+1) m u v:=by
 have b:∀k j,k<4->j<4->Al G (a k j) (n:Int):=λk j D l=>by
  erw[(q,nk)=h.sub k D];have:=(nk.nat l).2;rw[Qr (a k) l]at this;erw[this]
 have nm:IH G n m _ (a 0 3) (a 1 2) (a 2 1) (a 3 0):=(C,Z,Z,b 0 3 A6 A6,b 1 2 A6 A6,b 2 1 A6 A6,b 3 0 A6 A6)
 erw[g=Rg n,E=Rg (n+1),p=Bp n,[NY h A3 A3,BJ nm c e],¬quad,[g]];rw[g]at c e;erw[xa3 (aGY c) λr s t w=>xa3 (aGY e) λx b2 y B=>?_,[r,s,t,x,b2,y],(two:∀{A:Nat},A<2->A=0\/A=1)=λ{A} h=>by lia]
 erw[d=two w,f=two B];rcases d with z|z<;>rcases f with o|o<;>rw[z,o]<;>rfl
theorem aAU{m X Y:Nat}{x y:Int}(i:(X:Int)=x+2^(m+1))(j:(Y:Int)=y+2^(m+1))(n:X<2^(m+2))(o:Y<2^(m+2)):quad m (X%2^(m+1)) (Y%2^(m+1))+quad (m+1) X Y=3↔(-(2^m)<=x/\x<2^m/\-(2^m)<=y/\y<2^m):=by
 erw[p=Bp m,b=Rg m,g=FG (m+1)];rw[b]at g;erw[¬quad,[b]];rw[(Rg (m+1)),b]at n o;rw[<-g]at i j;rw[<-(FG m)];generalize 2^m=h at *
 have a:∀{X:Nat}{x:Int},(X:Int)=x+((2*h:Nat):Int)->X<2*(2*h)->(X%(2*h)/h+X/(2*h)=1 ↔ -(h:Int)<=x/\x<(h:Int))/\X%(2*h)/h<2/\X/(2*h)<2:=by
  erw[?X x e l,(k:0<2*h)=by lia]
  have H:X/(2*h)<2:=by erw[[A0f k],l]
  erw[(I:X%(2*h)<2*h)=N4 _ k,(G:X%(2*h)/h<2)=by erw[[A0f p],I]]
  erw[w=O5 X (2*h),s=O5 (X%(2*h)) h,O=N4 (X%(2*h)) p,(?_,G,H)];generalize X/(2*h)=u at *
  generalize X%(2*h)/h=v at *
  generalize X%(2*h)%h=t at *
  generalize X%(2*h)=P at *
  have E:u=0\/u=1:=by lia
  have F:v=0\/v=1:=by lia
  rcases E with rfl|rfl<;>rcases F with rfl|rfl<;>simp only[Nat.mul_zero,Nat.mul_one,P0]at s w<;>lia
 erw[xa2 (a i n) λq Q R=>xa2 (a j o) λr S T=>?_,-a];generalize X%(2*h)/h=A at *
 generalize X/(2*h)=B at *
 generalize Y%(2*h)/h=C at *
 generalize Y/(2*h)=D at *
 constructor
 .erw[?z,d=q.mp A3,f=r.mp A3,(d.1,d.2,f.1,f.2)]
 .rintro c;erw[xa3 c λK L M N=>?_,d=q.mpr (K,L),f=r.mpr (M,N)];lia
theorem Rk{G r:Gv}(o:G=G0++r)(ok:GOk G){n i m:Nat}(v:n<=46){qs:L_}{b:Nat->Nat->Nat}(h:OH G n i qs b)(l:BA n b)(s:G[m]?=n8 ([(b 0 3:Int),(b 1 2:Int),(b 2 1:Int),(b 3 0:Int)],(n:Int)+1))(x y:Int):fieldF G (n+1) i x y=fieldF G n m x y:=by
 erw[D=Dg n,p=OO n,¬fieldF,(a:-(2^n)<=x/\x<2^n/\-(2^n)<=y/\y<2^n)]
 .erw[xa3 a λf g j k=>?_,[A2h (by lia,by lia,by lia,by lia),A2h (f,g,j,k)],c=FG n,(t:(x+2^(n+1)).toNat=(x+2^n).toNat+2^n)=by lia]
  have u:(y+2^(n+1)).toNat=(y+2^n).toNat+2^n:=by lia
  erw[[t,u],aBe ok h s (GM f g) (GM j k)]
 .rw[A2f a];split
  .rename_i z;erw[xa3 z λw A B C=>?_,d=GM w A,e=GM B C,[NY h d e],(ne:¬quad n ((x+2^(n+1)).toNat%2^(n+1)) ((y+2^(n+1)).toNat%2^(n+1))+quad (n+1) (x+2^(n+1)).toNat (y+2^(n+1)).toNat=3)=λq=>a ((aAU (S8 A3) (S8 A3) d e).mp q),[l _ _ (DD d e) (DD (N4 _ (Bp _)) (N4 _ (Bp _))) ne],FV o ok (C9 v A6) (N4 _ (Bp _)) (N4 _ (Bp _))]
  .rfl
theorem IJ(a:G=G0++o)(ok:GOk G):∀{n f r:Nat},n<=47->Al G f ((n+1:Nat):Int)->FI G (n+1) f r->∃m,m<=n/\Al G r ((m+1:Nat):Int)/\Lq G m r/\∀x y,fieldF G m r x y=fieldF G n f x y
|0,f,r,_,hl,h=>by
 erw[h=h,<-h,(0,C1 _,hl,.inl Z,λ_ _=>Z)]
|n+1,f,r,hn,hl,h=>by
 erw[BM h λqs l d h=>?_];rcases h with ⟨j,rfl⟩|⟨c,m,b,h⟩
 .exact(n+1,C1 _,hl,.inr (n,qs,l,Z,d,j),λ_ _=>Z)
 .erw[(k,g,i,tk,e)=IJ a ok A3 (_,b,by show(n:Int)+1=_;lia) h,(k,V6 g,i,tk,λx y=>?_),[e x y,Rk a ok A3 d c b x y]]
theorem Yx(u:G=G0++r)(ok:GOk G)(C:n<=46)(h:Wid G n f w)(x y:Int):fieldF G (n+1) w x y=fieldF G n f x y:=by
 erw[xe5 h.ex λq a b c d s=>Cd s λI K L M m v z A t=>xa t λB F=>?_,i=IG u (n:=n) (C9 C A6),(o:∀{p:Nat}{l:I_},G[p]?=n8 (l,(n:Int)+1)->Al G p ((n+1:Nat):Int))=λ{p l} e=>(_,e,by show(n:Int)+1=_;lia)]
 have E:OH G n w (f4 I K L M) (λk j=>if j+k=3 then f4 a b c d k else bareN n):=by
  erw[((_,F,Z,by show(n:Int)+2=_;lia,o v,o z,o A,o B),λk H=>?_)]
  match k,H with
  |0,_=>exact(_,v,Z,Z,i,i,i,m.hx)
  |1,_=>exact(_,z,Z,Z,i,i,m.hy,i)
  |2,_=>exact(_,A,Z,Z,i,m.hz,i,i)
  |3,_=>exact(_,B,Z,Z,m.hw,i,i,i)
 erw[l=m.lev,D=m.ps,Rk u ok C E (λk j _ _ ne=>A2f ne) ?_ x y,[m.g]];cases q with
 |mk O N=>erw[!D,!l];rfl
theorem LV(a:G=G0++r)(ok:GOk G):∀{k w:Nat},n+k<=46->Ob G n f k w->∀x y,fieldF G (n+k) w x y=fieldF G n f x y
|0,w,_,h,x,y=>by
 erw[h=h,<-h];rfl
|k+1,w,hk,h,x,y=>by
 erw[xea h λu b c=>?_];rw[show n+(k+1)=n+k+1 by lia,Yx a ok A3 c x y];erw[LV a ok A3 b x y]
theorem TW(c:G=G0++o)(ok:GOk G){n f s r k w i:Nat}(d:s<8)(h:LJ G n f X Y s r k w i):∃m,m<=40/\Al G r ((m+1:Nat):Int)/\Lq G m r/\∀x y,fieldF G m r x y=if x=X/\y=Y then s else fieldF G n f x y:=by
 erw[le=h.le,b=h.rep.lev ok d,CP (IJ c ok (C9 le A6) b h.tr) λm j l p g=>(m,C9 j le,l,p,λx y=>?_)]
 erw[[g x y,-LV c ok (C9 le A6) h.wid x y],xa3 (WT h.li) λe b2 B C=>xa3 h.li λD E F H=>?_,¬fieldF];split
 .rename_i z;erw[xa3 z λt u v A=>?_,[TN ok d e b2 (GM t u) (GM v A) h.rep],(a:x=X/\y=Y)]
  .rw[A2h a,A2h (by rw[a.1],by rw[a.2])]
  .rw[A2f a,A2f λq=>a (by lia,by lia)]
 .rename_i z;rw[A2f λq=>z (by lia,by lia,by lia,by lia)]
theorem aBV{G r:Gv}(a:G=G0++r)(ok:GOk G){n i:Nat}(b:n<=48)(h:Al G i (n:Int))(ne:i≠bareN n):∃x y,x<2^n/\y<2^n/\cellF G n i x y≠0:=by
 erw[A4h λz=>ne (NZ ok h (IG a b) λx y c d=>?_),[FV a ok b c d],A4h λq=>z (x,y,c,d,q)]
theorem Tj{G r:Gv}(K:G=G0++r)(ok:GOk G){m f:Nat}(T:m<=46)(h:Lq G (m+1) f):∃x y:Int,¬(-(2^m)<=x/\x<2^m/\-(2^m)<=y/\y<2^m)/\fieldF G (m+1) f x y≠0:=by
 rcases h with h|⟨a,qs,o,e,w,P⟩
 .lia
 .have:a=m:=by lia
  subst this;have:∃k j,k<4/\j<4/\j+k≠3/\o k j≠bareN a:=by
   erw[A4h λz=>P λk j g d ne=>A4h λq=>z (k,j,g,d,ne,q)]
  apply Cr;erw[?A c,CG this λk j g d ne b=>?_,(U,nk)=w.sub k g];apply c;clear c A;have O:Al G (o k j) (a:Int):=by
   have:=(nk.nat d).2;rw[Qr (o k) d]at this;erw[this]
  erw[AK (aBV K ok A3 O b) λu v M N L=>xa4 (GG d M N) λB C p D E=>xa4 (GG (n:=a+1) g B C) λs b2 t i l=>?_];generalize R:u+2^a*(j%2)+2^(a+1)*(k%2)=X at *
  generalize S:v+2^a*(j/2)+2^(a+1)*(k/2)=Y at *
  erw[Q=FG (a+1),F=FG (a+2)];rw[(Dg (a+1))]at F;erw[((X:Int)-2^(a+1),(Y:Int)-2^(a+1),λz=>ne ?_,?_)]
  .have:=(aAU (X:=X) (Y:=Y) A3 A3 s b2).mpr z;rw[t,i,l,p]at this;erw[this]
  .unfold fieldF;rw[A2h (by lia,by lia,by lia,by lia),show((X:Int)-2^(a+1)+2^(a+1)).toNat=X by lia,show((Y:Int)-2^(a+1)+2^(a+1)).toNat=Y by lia,NY w s b2,t,i,l,p];have H:X%2^a=u:=by rw[<-MS,i,D]
   have I:Y%2^a=v:=by rw[<-MS,l,E]
   erw[[H,I],L]
theorem VV(i:G=G0++r)(ok:GOk G)(o:n<=47)(d:m<=47)(p:Al G f ((n+1:Nat):Int))(c:Al G a ((m+1:Nat):Int))(t:Lq G n f)(t':Lq G m a)(h:∀x y,fieldF G n f x y=fieldF G m a x y):n=m/\f=a:=by
 have le:∀{n m f a:Nat},m<=47->Lq G m a->(∀x y,fieldF G n f x y=fieldF G m a x y)->m<=n:=by
  erw[?n m f a d t' h,M4 λz=>?_];obtain⟨k,rfl⟩:∃k,m=k+1:=(m-1,by lia)
  erw[BM (Tj i ok A3 t') λx y out b=>?_];rw[<-h x y]at b;unfold fieldF at b;split at b
  .rename_i q;have:(2:Int)^n<=2^k:=by
    have:=P8 (show 0<2 by decide) (show n<=k by lia)
    exact_mod_cast this
   erw[out (by lia,by lia,by lia,by lia)]
  .erw[b Z]
 erw[j=le d t' h,l=le o t λx y=>(h x y).symm,(e:n=m)=Nat.le_antisymm l j,<-e,(Z,NZ ok p c λx y u v=>?_),s=FG n,g=FG (n+1)];rw[(Dg n)]at g;have:=h ((x:Int)-2^n) ((y:Int)-2^n);unfold fieldF at this;rw[A2h (by lia,by lia,by lia,by lia),A2h (by lia,by lia,by lia,by lia),show((x:Int)-2^n+2^n).toNat=x by lia,show((y:Int)-2^n+2^n).toNat=y by lia]at this;erw[this]
def Fix:HO->Prop
|.tup _=>True
|.ins _ _ _=>True
|_=>False
def Fx(l:H_)(H H':Hp):Prop:=∀b o,H b=n8 o->(b∈l->Fix o)->H' b=n8 o
theorem Fx.refl(l:H_)(H:Hp):Fx l H H:=λ_ _ e _=>e
theorem Fx.trans{a c d:Hp}(h:Fx l a c)(f:Fx l c d):Fx l a d:=λb o e n=>f b o (h b o e n) n
theorem As.fx{a c:Hp}(h:As a c):Fx l a c:=λb o e _=>h b o e
theorem Fx.mono{a c:Hp}(h:Fx l a c)(s:∀x∈l,x∈m):Fx m a c:=λb o e n=>h b o e λz=>n (s b z)
theorem Fx.get{a c:Hp}(h:Fx l a c)(n:b∉l)(e:a b=n8 o):c b=n8 o:=h b o e λz=>absurd z n
theorem Fx.tup{l:H_}{a c:Hp}(h:Fx l a c){b:R_}{xs:List V}(e:a b=n8 (.tup xs)):c b=n8 (.tup xs):=h b _ e λ_=>True.intro
theorem aGk{o c:HO}(e:H x=n8 o)(n:¬Fix o):Fx [x] H (upd H x c):=λb u a f=>by
 erw[(z:b=x)]
 .subst z;rw[e]at a;erw[!a,absurd (f (C5.mpr Z)) n]
 .erw[[Aq z],a]
theorem FrQ.fx{H c:Hp}(h:FrQ g H c)(d:AR a H g G):Fx [g.am,g.bx] H c:=λb o e f=>by
 erw[xea d.am λks i _=>xea d.bx λk j _=>h b o e (λz=>?_) (λz=>?_)]
 .subst z;rw[i]at e;erw[!e,f B0]
 .subst z;rw[j]at e;erw[!e,f B0]
noncomputable def CN(g:GA):List Addr:=[g.lv,g.pt,g.nm,g.br,g.am,g.bx]
theorem AR.fx{H c:Hp}(h:AR a H g G)(f:Fx l H c)(n:∀x∈CN g,x∉l):AR a c g G:=by
 erw[(at',ok,w,k,(ks,y,A),(d,B,j),D,E,F)=h,(I,K,(ts,L,M),N,O)=at',(m:∀x∈CN g,∀o,H x=n8 o->c x=n8 o)=λx C o e=>f.get (n x C) e,((f _ _ I λ_=>True.intro,m _ (by simp[CN]) _ K,(ts,m _ (by simp[CN]) _ L,PairedM.imp (λt q z=>f.tup z) M),m _ (by simp[CN]) _ N,O),ok,w,m _ (by simp[CN]) _ k,(ks,m _ (by simp[CN]) _ y,A),(d,m _ (by simp[CN]) _ B,j.keys,λi v e=>?_),D,E,F),Fk (j.val i v e) λl b t p r s u=>(l,b,t,p,r,s,f.tup u)]
theorem As.noneOf(s:As H a)(n:a x=n9):H x=n9:=by
 cases e:H x with
 |none=>rfl
 |some o=>rw[s _ _ e]at n;cases n
structure Nw(H:Hp)(l:H_):Prop where
nd:l.Nodup
s:∀x∈l,∃o,H x=n8 o
theorem AR.nw(h:AR a H g G):Nw H (CN g):=by
 erw[((_,f,(ts,i,_),b,p),_,_,j,(ks,c,_),(q,d,_),r,s,u)=h,(t:∀{x y:R_}{o k:HO},H x=n8 o->H y=n8 k->o≠k->x≠y)=λ{x y o k} e m n=>AC e m n,(?_,λx l=>?_)]
 .simp only[CN,N8,C4,F7,A5a,B0d,A9c,Q0,and_true];exact((p,t f b A4,A3f r,t f c A4,t f d A4),(t i b A4,A3f s,t i c A4,t i d A4),(t b j A4,t b c A4,t b d A4),(t j c A4,t j d A4),u)
 .simp only[CN,C4,F7,A5a]at l;rcases l with rfl|rfl|rfl|rfl|rfl|rfl
  .exact(_,f)
  .exact(_,i)
  .exact(_,b)
  .exact(_,j)
  .exact(_,c)
  .exact(_,d)
theorem DV(h:upd H x o y=n9):H y=n9:=by
 erw[(e:y=x)]
 .subst e;rw[Af]at h;cases h
 .rw[Aq e]at h;erw[h]
theorem UW.none{a:Ad}{H c:Hp}{x e:R_}{o l:HO}{g:GA}{G:Gv}{B:I_}{d:List (Key×V)}(N:UW a (upd (upd H e o) x l) c g G B d):∀y∈CN g,H y=n9:=λy b=>by
 erw[xa5 N.fresh λf h i f4 j k=>?_];simp only[CN,C4,F7,A5a]at b;rcases b with rfl|rfl|rfl|rfl|rfl|rfl
 .erw[DV (DV f)]
 .erw[DV (DV h)]
 .erw[DV (DV i)]
 .erw[DV (DV f4)]
 .erw[DV (DV j)]
 .erw[DV (DV k)]
theorem As.fxn{H a c:Hp}(s:As H a)(f:Fx m a c)(n:∀y∈m,H y=n9):As H c:=λb o e=>f.get (λz=>by rw[n b z]at e;cases e) (s _ _ e)
structure Qz(L:Int->Int->Prop)(b:Bx):Prop where
inn:∀u v,L u v->b.l<=u/\u<b.l+b.w/\b.t<=v/\v<b.t+b.h
le:∃v,L b.l v
to:∃u,L u b.t
ri:∃v,L (b.l+b.w-1) v
bo:∃u,L u (b.t+b.h-1)
theorem Um(h:l≠[]):mnL l∈l/\∀x∈l,mnL l<=x:=by
 unfold mnL;cases e:l.min? with
 |none=>erw[absurd (List.min?_eq_none_iff.mp e) h]
 |some m=>erw[List.min?_eq_some_iff.mp e]
theorem Uk(h:l≠[]):mxL l∈l/\∀x∈l,x<=mxL l:=by
 unfold mxL;cases e:l.max? with
 |none=>erw[absurd (List.max?_eq_none_iff.mp e) h]
 |some m=>erw[List.max?_eq_some_iff.mp e]
theorem YB{bs:List Bx}(ne:bs≠[])(a:∀b∈bs,∃M:Int->Int->Prop,Qz M b/\∀u v,M u v->L u v)(H:∀u v,L u v->∃b∈bs,b.l<=u/\u<b.l+b.w/\b.t<=v/\v<b.t+b.h):Qz L (Qk bs):=by
 erw[(P:bs.map (·.l)≠[])=λz=>ne (Q8.mp z),(Q:bs.map (·.t)≠[])=λz=>ne (Q8.mp z),(R:(bs.map λb=>b.l+b.w)≠[])=λz=>ne (Q8.mp z),(S:(bs.map λb=>b.t+b.h)≠[])=λz=>ne (Q8.mp z),(I,m)=Um P,(K,n)=Um Q,(N,o)=Uk R,(O,p)=Uk S,xea (F0.mp I) λr d F=>xea (F0.mp K) λb2 e G=>xea (F0.mp N) λy f j=>xea (F0.mp O) λA g k=>?_,¬Qk,(λu v q=>?_,?_,?_,?_,?_)]
 .erw[CP (H u v q) λb c T U i=>xa i λV W=>?_,B=m _ (F0.mpr (b,c,Z)),C=n _ (F0.mpr (b,c,Z)),D=o _ (F0.mpr (b,c,Z)),E=p _ (F0.mpr (b,c,Z))];dsimp only at B C D E⊢;lia
 .erw[xea (a r d) λM t s=>?_,(v,x)=t.le,(v,by rw[F]at x;erw[s _ _ x])]
 .erw[xea (a b2 e) λM t s=>?_,(v,x)=t.to,(v,by rw[G]at x;erw[s _ _ x])]
 .erw[xea (a y f) λM t s=>?_,(v,x)=t.ri,(v,?_)];dsimp only at j⊢;rw[j]at x;have:=s _ _ x;rw[show mnL (bs.map (·.l))+(mxL (bs.map λb=>b.l+b.w)-mnL (bs.map (·.l)))-1=mxL (bs.map λb=>b.l+b.w)-1 by lia];erw[this]
 .erw[xea (a A g) λM t s=>?_,(v,x)=t.bo,(v,?_)];dsimp only at k⊢;rw[k]at x;have:=s _ _ x;rw[show mnL (bs.map (·.t))+(mxL (bs.map λb=>b.t+b.h)-mnL (bs.map (·.t)))-1=mxL (bs.map λb=>b.t+b.h)-1 by lia];erw[this]
theorem Qh:∀{a:List (Option Bx)}{k:Nat},b∈Ej half k a ↔ ∃(j:Nat)(c:Bx),a[j]?=n8 (n8 c)/\b=shB half (k+j) c
|[],k=>((λh=>by cases h),(λh=>by refine BM h λj c h _=>?_;simp at h))
|none::r,k=>by
 rw[show Ej half k (n9::r)=Ej half (k+1) r from rfl,Qh];constructor
 .erw[?f,BM f λj c h e=>(j+1,c,by simpa using h,by rw[e,show k+1+j=k+(j+1) by lia])]
 .erw[?g,BM g λj c h e=>?_];cases j with
  |zero=>simp at h
  |succ j=>exact(j,c,by simpa using h,by rw[e,show k+1+j=k+(j+1) by lia])
|some d::r,k=>by
 rw[show Ej half k (n8 d::r)=shB half k d::Ej half (k+1) r from rfl,C4,Qh];constructor
 .rintro(h|⟨j,c,h,e⟩)
  .exact(0,d,Z,h)
  .exact(j+1,c,by simpa using h,by rw[e,show k+1+j=k+(j+1) by lia])
 .erw[?i,BM i λj c h e=>?_];cases j with
  |zero =>
   have h:d=c:=by simpa using h
   erw[<-h,.inl e]
  |succ j=>erw[.inr (j,c,by simpa using h,by rw[e,show k+1+j=k+(j+1) by lia])]
def Lv(G:Gv)(n i:Nat)(u v:Int):Prop:=∃a b:Nat,u=a/\v=b/\a<2^n/\b<2^n/\cellF G n i a b≠0
theorem WR{q:Sq}{a b c d:Nat}(t:IH G n i q a b c d)(u v:Int):Lv G (n+1) i u v ↔ ∃k,k<4/\Lv G n (f4 a b c d k) (u-2^n*((k:Int)%2)) (v-2^n*((k:Int)/2)):=by
 erw[j=FG n];constructor
 .erw[?h,Ci h λx y l m f g ne=>?_,-h,<-l,<-m];rw[BJ t f g]at ne;erw[H=Fe f,I=Fe g,(quad n x y,DD f g,x%2^n,y%2^n,?_,?_,N4 _ (Bp n),N4 _ (Bp n),ne)]
  .erw[e=O5 x (2^n)];have o:((quad n x y:Nat):Int)%2=((x/2^n:Nat):Int):=by
    unfold quad;generalize x/2^n=A at *
    generalize y/2^n=B at *
    lia
   rw[o,<-j,<-P5];lia
  .erw[e=O5 y (2^n)];have o:((quad n x y:Nat):Int)/2=((y/2^n:Nat):Int):=by
    unfold quad;generalize x/2^n=A at *
    generalize y/2^n=B at *
    lia
   rw[o,<-j,<-P5];lia
 .erw[?p,(k,D,x,y,E,F,f,g,ne)=p,xa4 (GG D f g) λr s w z C=>(x+2^n*(k%2),y+2^n*(k/2),?_,?_,r,s,?_)]
  .rw[O6,P5,j,show((k%2:Nat):Int)=(k:Int)%2 from rfl];lia
  .rw[O6,P5,j,show((k/2:Nat):Int)=(k:Int)/2 from rfl];lia
  .erw[[BJ t r s,w,z,C],ne]
theorem Re{L:Int->Int->Prop}{b:Bx}{half:Int}{k:Nat}(h:Qz L b):Qz (λu v=>L (u-half*((k:Int)%2)) (v-half*((k:Int)/2))) (shB half k b):=by
 erw[(a,f)=h.le,(c,g)=h.to,(d,i)=h.ri,(e,j)=h.bo,¬shB];generalize half*((k:Int)%2)=p;generalize half*((k:Int)/2)=q;erw[(λu v m=>?_,(a+q,?_),(c+p,?_),(d+q,?_),(e+p,?_))]
 .have:=h.inn _ _ m;dsimp only;lia
 .erw[(_:L (b.l+p-p) (a+q-q)),[S9,S9],f]
 .erw[(_:L (c+p-p) (b.t+q-q)),[S9,S9],g]
 .show L (b.l+p+b.w-1-p) (d+q-q);rw[S9,show b.l+p+b.w-1-p=b.l+b.w-1 by lia];erw[i]
 .show L (e+p-p) (b.t+q+b.h-1-q);rw[S9,show b.t+q+b.h-1-q=b.t+b.h-1 by lia];erw[j]
theorem Oa(ok:GOk G):∀{n i:Nat}{b:Bx},Al G i (n:Int)->Ck G n i=n8 b->Qz (Lv G n i) b
|0,i,b,_,h=>by
 erw[(h:(if i=0 then n9 else n8 ((0,0,1,1):Bx))=n8 b)=h,(z:i=0)]
 .rw[A2h z]at h;cases h
 .rw[A2f z]at h;erw[!h,(F:Lv G 0 i 0 0)=(0,0,Z,Z,by decide,by decide,z)]
  erw[(λu v m=>?_,(0,F),(0,F),(0,F),(0,F)),Ci m λx y H p s w _=>?_,-m,<-H,<-p,(s:x<1)=s,(w:y<1)=w];dsimp only;lia
|n+1,i,b,l,h=>by
 erw[xe5 (BC ok l) λq a B c d g=>?_];rw[FW g]at h;have C:∀k,k<4->[Ck G n a,Ck G n B,Ck G n c,Ck G n d][k]?=n8 (Ck G n (f4 a B c d k)):=λk f=>by
  match k,f with
  |0,_=>rfl
  |1,_=>rfl
  |2,_=>rfl
  |3,_=>rfl
 have A:∀e,e∈Ej (2^n) 0 [Ck G n a,Ck G n B,Ck G n c,Ck G n d] ↔ ∃k o,k<4/\Ck G n (f4 a B c d k)=n8 o/\e=shB (2^n) k o:=λe=>by
  rw[Qh];constructor
  .erw[?D,BM D λj P M p=>?_,-D,<-p,(O:j<4)=(C2.mp M).1];rw[C j O]at M;exact(j,P,O,A3h M,by rw[P0])
  .erw[?E,AK E λk o f I r=>?_,-E,<-r,(k,o,by rw[C k f,I],by rw[P0])]
 unfold QJ at h;cases L:Ej (2^n) 0 [Ck G n a,Ck G n B,Ck G n c,Ck G n d]with
 |nil=>rw[L]at h;cases h
 |cons S X =>
  rw[L]at h;erw[h=A3h h];rw[L]at A;erw[<-h,YB B0 (λe R=>?_) λu v m=>?_]
  .erw[AK ((A e).mp R) λk o f I r=>?_,<-r,(_,Re (Oa ok (g.nat f).2 I),λu v m=>(WR g u v).mpr (k,f,m))]
  .erw[xea ((WR g u v).mp m) λk f m=>?_];cases K:Ck G n (f4 a B c d k)with
   |none =>
    erw[Q=(Nd ok n _ (g.nat f).2).mp K,Ci m λx y _ _ s w ne=>absurd (cell_none ok (g.nat f).2 Q s w) ne]
   |some o =>
    erw[t=Re (half:=2^n) (k:=k) (Oa ok (g.nat f).2 K),(_,(A _).mpr (k,o,f,K,Z),t.inn u v m)]
where cell_none {G:Gv} (ok:GOk G):∀{n i x y:Nat},Al G i (n:Int)->Cg G n i=0->x<2^n->y<2^n->cellF G n i x y=0
|0,i,x,y,_,h,_,_=>by
 erw[(h:(if i=0 then(0:Int)else 1)=0)=h,(_:i=0),(z:i=0)]
 .erw[z]
 .rw[A2f z]at h;lia
|n+1,i,x,y,l,h,s,w=>by
 erw[xe5 (BC ok l) λq a b c d g=>?_,e=FU g,(e:Cg G (n+1) i=Cg G n a+(Cg G n b+(Cg G n c+(Cg G n d+0))))=e,T=Fj G n a,U=Fj G n b,V=Fj G n c,W=Fj G n d,N=DD s w,[BJ g s w],cell_none ok (g.nat N).2 ?_ (N4 _ (Bp n)) (N4 _ (Bp n))];generalize quad n x y=k at N
 match k,N with
 |0,_=>show Cg G n a=0;lia
 |1,_=>show Cg G n b=0;lia
 |2,_=>show Cg G n c=0;lia
 |3,_=>show Cg G n d=0;lia
seal L2.PA L2.PE L2.PS L2.PSs L2.PT L2.PW
theorem Us(x y:Int):Lv G (n+1) f (x+2^n) (y+2^n)↔fieldF G n f x y≠0:=by
 erw[c=FG n,e=Rg n];constructor
 .erw[?a,Ci a λu v i j k l ne=>?_,¬fieldF];rw[A2h (by lia,by lia,by lia,by lia),show(x+2^n).toNat=u by lia,show(y+2^n).toNat=v by lia];erw[ne]
 .intro ne;unfold fieldF at ne;split at ne
  .rename_i z;erw[xa3 z λb d g h=>((x+2^n).toNat,(y+2^n).toNat,by lia,by lia,GM b d,GM g h,ne)]
  .erw[absurd Z ne]
noncomputable def mvB(r:Int)(b:Bx):Bx:=(b.l+-r,b.t+-r,b.w,b.h)
theorem Tk(ok:GOk G)(l:Al G f ((n+1:Nat):Int))(h:Ck G (n+1) f=n8 b):Qz (λx y=>fieldF G n f x y≠0) (mvB (2^n) b):=by
 erw[t=Oa ok l h,(k,c)=t.le,(o,d)=t.to,(i,e)=t.ri,(j,g)=t.bo,(a:∀{u v:Int},Lv G (n+1) f u v->fieldF G n f (u+-(2^n)) (v+-(2^n))≠0)=λ{u v} m=>(Us _ _).mp (by rw[show u+-(2^n)+2^n=u by lia,show v+-(2^n)+2^n=v by lia];erw[m]),¬mvB,(λx y m=>?_,(_,a c),(_,a d),(i+-(2^n),?_),(j+-(2^n),?_))]
 .have:=t.inn _ _ ((Us x y).mpr m);dsimp only;lia
 .have:=a e;rw[show b.l+b.w-1+-(2^n)=b.l+-(2^n)+b.w-1 by lia]at this;erw[this]
 .have:=a g;rw[show b.t+b.h-1+-(2^n)=b.t+-(2^n)+b.h-1 by lia]at this;erw[this]
section
variable{P:N_}{w:Q_}{K:O_}{mg:C_}{n6:T_}{a:Ad}
inductive Ys(a:Ad)(vs:List V)(H:Hp)(Q:VK):Prop
|mk (g:GA) (G:Gv) (f n:Nat) (_:vs=[.ref g.p,.int f]) (_:AR a H g G) (_:Al G f ((n+1:Nat):Int)) (_:n<48) (_:G.length<8000000) (_:(Ck G (n+1) f=n9->∀H',FrQ g H H'->AR a H' g G->Q .non H')) (_:∀b,Ck G (n+1) f=n8 b->∀t H',FrQ g H H'->AR a H' g G->QW H' t (mvB (2^n) b)->Q (.ref t) H'):Ys a vs H Q
def RW(a:Ad):Sp:=λvs H Q _=>Ys a vs H Q
theorem aBr(F:Fun K "box_of" "box_of" Pu f fd)(T:Top K mg a)(z:BY P w K mg n6 CX0 101 a.L0 "span" Lj (Vb a))(x:Cal P w K mg n6 CX0 4 "reach_of" Vu (IK a))(y:Cal P w K mg n6 CX0 1 "shifted_box" QK Mu):AJ P w K mg n6 CX0 102 f fd Vu (RW a):=by
 erw[F.ok Nm D_9 λB A k s H vs Q E e h=>?_]
 erw[(g,G,q,n,rfl,r,u,j,few,L,M)=h,(_,(Ac (Ax 2 Nm.nd (AD pv0 z (rm e) AQ (Aa pv1 Ab))) (Ac (AS (Ay Jl pv2 Dw (AF _)) (Ag (Av Dw)) Az) (Ac (Ax 3 Nm.nd (AB x e (Aa pv0 (Aa pv1 Ab)))) (Ag (Av (AB y e (Aa pv2 (Aa (Fo Dp pv3) (Aa (Fo Dp pv3) Ab))))))))),?_),xq1 Z (g.p,g.dx,(xq1 Z (r.at'.hp,aCo g,(xq1 Z (g,G,q,n+1,Z,r,u,D8 few A6,λD m d c=>?_,λb C t m d c I=>?_)))))]
 .erw[xq1 Z (Z,(xq1 Z (Cy (L D m d c))))]
 .erw[xq1 Z (Z,(xq1 Z (Bj ?_))),xw2 Z Z (g,G,q,n,Z,c.at',u,j,?_),xw3 Z Z Z (xw2 Z Z (t,b,_,_,Z,I,λt' i=>?_)),v=AM (o:=.tup [.int (b.l+-(2^n)),.int (b.t+-(2^n)),.int b.w,.int b.h]) i,M b C t' _ (d.trans (As.frq v)) (c.same v) Af]
end
end J
namespace J
open PySem L2
theorem aDs(ok:GOk G):∀{n i x y:Nat},Al G i (n:Int)->x<2^n->y<2^n->cel G n i x y=cellF G n i x y
|0,_,_,_,_,_,_=>rfl
|n+1,i,x,y,h,hx,hy=>by
 erw[xe5 (BC ok h) λq a b c d f=>?_,[BJ f hx hy],p=Bp n,(j:x/2^n<2)=Nat.div_lt_of_lt_mul (by rw[M6]at hx;erw[hx]),(k:y/2^n<2)=Nat.div_lt_of_lt_mul (by rw[M6]at hy;erw[hy])];have e:qO G i ((x/2^n)%2+2*((y/2^n)%2))=f4 a b c d (quad n x y):=by
  have:=(f.nat (DD hx hy)).1;erw[¬qO,[f.g,R4 j,R4 k],(_:(q.parts.getD (quad n x y) 0).toNat=_),[D9,this]];rfl
 show cel G n (qO G i ((x/2^n)%2+2*((y/2^n)%2))) x y=_;rw[e,<-aDs ok (f.nat (DD hx hy)).2 (N4 _ p) (N4 _ p)];have:=SW G n (f4 a b c d (quad n x y)) (x%2^n) (y%2^n) (x/2^n) (y/2^n);rw[Nat.mod_add_div,Nat.mod_add_div]at this;erw[this]
theorem OW{α β:Type}(f:α->List β)(m:Nat):∀l:List α,(∀x∈l,(f x).length<=m)->(l.flatMap f).length<=l.length*m
|[],_=>by simp
|a::l,h=>by
 have:=OW f m l λx b=>h x (D6 _ b);have:=h a D5;rw[V8,D3,F2,Nat.succ_mul];lia
structure ZS(a:Ad)(H:Hp)(g:GA)(G:Gv)(Κ:KTy)(N b:Nat)(p dx mem pr:R_)(r:Aw)(m:MA):Prop where
jz:JZ a H g G Κ N b p dx mem pr r m
fu:AR a H g G
na:g.am∉m.ds
nb:g.bx∉m.ds
def FrZ(g:GA)(m:MA)(H H':Hp):Prop:=∀b o,H b=n8 o->b∉[g.lv,g.pt,g.nm,g.am,g.bx,m.kc]->b∉m.ds->H' b=n8 o
section
variable{a:Ad}{H H' H1 H2 H3:Hp}{g:GA}{G G':Gv}{Κ:KTy}{N b i:Nat}{p dx mem pr:R_}{r:Aw}{m:MA}
theorem FrZ.trans(h:FrZ g m H1 H2)(k:FrZ g m H2 H3):FrZ g m H1 H3:=λb o e c d=>k b o (h b o e c d) c d
theorem As.z(s:As H H'):FrZ g m H H':=λb o e _ _=>s b o e
theorem Fr.z(f:Fr g H H'):FrZ g m H H':=λb o e c _=>f b o e (λz=>c (by simp[z])) (λz=>c (by simp[z])) (λz=>c (by simp[z]))
theorem FrQ.z(f:FrQ g H H'):FrZ g m H H':=λb o e c _=>f b o e (λz=>c (by simp[z])) (λz=>c (by simp[z]))
theorem FrJ.z(f:FrJ g m H H'):FrZ g m H H':=λb o e c d=>f b o e (λz=>c (by simp[z])) (λz=>c (by simp[z])) (λz=>c (by simp[z])) (λz=>c (by simp[z])) d
theorem ZS.same(h:ZS a H g G Κ N b p dx mem pr r m)(s:As H H'):ZS a H' g G Κ N b p dx mem pr r m:=(h.jz.same s,h.fu.same s,h.na,h.nb)
theorem ZS.mono{c:Nat}(h:ZS a H g G Κ N b p dx mem pr r m)(e:b<=c):ZS a H g G Κ N c p dx mem pr r m:=(h.jz.mono e,h.fu,h.na,h.nb)
theorem ZS.fr(h:ZS a H g G Κ N b p dx mem pr r m)(f:Fr g H H')(c:AR a H' g G')(d:AG G G' i):ZS a H' g G' Κ N (b+i) p dx mem pr r m:=(h.jz.fr f c.at' d,c,h.na,h.nb)
theorem ZS.frQ(h:ZS a H g G Κ N b p dx mem pr r m)(f:FrQ g H H')(k:AR a H' g G):ZS a H' g G Κ N b p dx mem pr r m:=by
 erw[c=h.jz.jw,(j:∀{x:R_}{o:HO},H x=n8 o->(∀ks,o≠.dK ks)->H' x=n8 o)=λ{x o} e n=>f _ _ e (h.fu.ne_am e n).1 (h.fu.ne_am e n).2,(v:∀d∈m.ds,∀o,H d=n8 o->H' d=n8 o)=λd u o e=>f _ _ e (λz=>h.na (z▸u)) (λz=>h.nb (z▸u)),xea c.me.ce λB y _=>?_];have q:=c.me.kp c.ok (AG.refl c.ok) λx o e w=>by
  rcases w with z|z|z|z
  .erw[<-z,j e (by rw[c.me.tp]at e;erw[!e,?ks z,!z])]
  .erw[<-z,j e (by rw[c.me.l]at e;erw[!e,?ks z,!z])]
  .erw[v x z o e]
  .erw[<-z,j e (by rw[y]at e;erw[!e,?ks z,!z])]
 erw[(A,t)=h.jz.cn,(((k.at',c.ok,c.bs,k.br,c.nbr,j c.hp (by erw[?ks z,!z]),c.ru.kp λx o e n=>j e (by intro ks z;rw[z]at n;cases n),c.rok,c.rest,q),A,t.kp (i:=0) c.ok (AG.refl c.ok) v λs e=>(s,j e (by erw[?ks z,!z]),C1 _)),k,h.na,h.nb)]
theorem ZS.aft(h:ZS a H g G Κ N b p dx mem pr r m)(f:FrJ g m H H')(q:JZ a H' g G' Κ N b p dx mem pr r m)(d:AG G G' i):ZS a H' g G' Κ N b p dx mem pr r m:=by
 erw[C=h.jz.jw,(q,?_,h.na,h.nb),(at',ok,(T,L),F,(ks,M,O),(u,P,B),Q,R,S)=h.fu,xea at'.pt λus D _=>xea C.me.ce λU y _=>?_];have w:∀{x:R_}{o:HO},H x=n8 o->(∀ks,o≠.dK ks)->x∉m.ds:=λ{x o} e n z=>by
  erw[(j,s)=J6 z,xea (C.me.sq j x s) λW k _=>?_];rw[e]at k;erw[!k,n _ Z]
 erw[(t,K)=d.pre,(dk:∀{x:R_}{ks:List (Key×V)},H x=n8 (.dK ks)->x∉m.ds->H' x=n8 (.dK ks))=λ{x ks} e n=>f _ _ e (AC e at'.lv A4) (AC e D A4) (AC e at'.nm A4) (AC e y A4) n,(q.jw.gr,d.ok,(T++t,by rw[K,L,O3]),q.jw.br,(ks,dk M h.na,O.app ok d),(u,dk P h.nb,B.keys.app d.le,λi v e=>?_),Q,R,S),Fk (B.val i v e) λl E t A k I c=>(l,E,t,d.lev A,by erw[[IF ok d l i A],k],I,f _ _ c (AC c at'.lv A4) (AC c D A4) (AC c at'.nm A4) (AC c y A4) (w c (by erw[?ks z,!z])))]
theorem ZS.keep(h:ZS a H g G Κ N b p dx mem pr r m)(f:FrZ g m H H')(e:H x=n8 o)(k:∀xs,o≠.lst xs)(l:∀ks,o≠.dK ks)(n:∀ks,o≠.dT ks):H' x=n8 o:=by
 erw[d=h.jz.jw,xea h.fu.at'.pt λus u _=>xea d.me.ce λv s _=>?_,q=h.fu.ne_am e l,f _ _ e (λz=>?_) (λz=>?_)]
 .simp only[C4,F7,A5a]at z;rcases z with z|z|z|z|z|z
  .erw[AC e h.fu.at'.lv (k _) z]
  .erw[AC e u (k _) z]
  .erw[AC e h.fu.at'.nm (n _) z]
  .erw[q.1 z]
  .erw[q.2 z]
  .erw[AC e s (n _) z]
 .erw[(j,c)=J6 z,xea (d.me.sq j x c) λw t _=>AC e t (l _) Z]
theorem ZS.new(h:ZS a H g G Κ N b p dx mem pr r m)(n:H x=n9):x∉[g.lv,g.pt,g.nm,g.am,g.bx,m.kc]/\x∉m.ds:=by
 erw[d=h.jz.jw,xea h.fu.at'.pt λus o _=>xea d.me.ce λq e _=>xea h.fu.am λks k _=>xea h.fu.bx λs l _=>(λz=>?_,λz=>?_)]
 .simp only[C4,F7,A5a]at z;rcases z with rfl|rfl|rfl|rfl|rfl|rfl
  .rw[h.fu.at'.lv]at n;cases n
  .rw[o]at n;cases n
  .rw[h.fu.at'.nm]at n;cases n
  .rw[k]at n;cases n
  .rw[l]at n;cases n
  .rw[e]at n;cases n
 .erw[(j,c)=J6 z,xea (d.me.sq j x c) λt f _=>?_];rw[f]at n;cases n
end
theorem JW.putL{p f mem k x:R_}(h:JW a H g G N M p f mem k r m)(i:H x=n8 (.lst xs))(s:x≠g.lv)(t:x≠g.pt)(u:x≠g.br)(y:x≠m.l):JW a (upd H x o) g G N M p f mem k r m:=by
 have c:∀{b v},H b=n8 v->(∀l,v≠.lst l)->upd H x o b=n8 v:=λ{b v} e n=>by erw[[Aq (AC e i (n _))],e]
 erw[(h.gr.put i s t,h.ok,h.bs,by erw[[Aq (A3f u)],h.br],h.nbr,c h.hp B1,h.ru.kp λb o e n=>c e λl z=>(by rw[z]at n;cases n),h.rok,h.rest,h.me.kp h.ok (AG.refl h.ok) λb o e w=>?_)];rcases w with z|z|z|z
 .erw[d=h.me.tp];rw[<-z,e]at d;erw[!d,c e B1]
 .rw[z]at e⊢;erw[[Aq (A3f y)],e]
 .erw[(j,q)=J6 z,xea (h.me.sq j b q) λB d _=>?_];rw[e]at d;erw[!d,c e B1]
 .erw[xea h.me.ce λA d _=>?_];rw[z]at e⊢;rw[e]at d;erw[!d,c e B1]
structure ApZ(g:GA)(m:MA)(x:R_):Prop where
n0:x∉[g.lv,g.pt,g.nm,g.am,g.bx,m.kc]
n1:x∉m.ds
n2:x≠g.br
n3:x≠m.l
section
variable{a:Ad}{H H':Hp}{g:GA}{G G':Gv}{Κ:KTy}{N b i:Nat}{p dx mem pr:R_}{r:Aw}{m:MA}
theorem ZS.ap(h:ZS a H g G Κ N b p dx mem pr r m)(n:H x=n9):ApZ g m x:=by
 erw[(c,d)=h.new n,(c,d,λz=>?_,λz=>?_)]
 .rw[z,h.fu.br]at n;cases n
 .rw[z,h.jz.jw.me.l]at n;cases n
theorem ZS.putL(h:ZS a H g G Κ N b p dx mem pr r m)(j:H x=n8 (.lst xs))(ap:ApZ g m x):ZS a (upd H x o) g G Κ N b p dx mem pr r m:=by
 erw[(k:x≠g.lv)=λz=>ap.n0 (by simp[z]),(pt:x≠g.pt)=λz=>ap.n0 (by simp[z]),(f,c)=h.jz.cn,((h.jz.jw.putL j k pt ap.n2 ap.n3,f,c.kp (i:=0) h.jz.jw.ok (AG.refl h.jz.jw.ok) (λd l q e=>?_) λn e=>(n,?_,C1 _)),h.fu.put j k pt ap.n2,h.na,h.nb)]
 .erw[[Aq (λz:d=x=>ap.n1 (z▸l))],e]
 .erw[[Aq (AC e j A4)],e]
end
theorem SS(ok:GOk G)(c:Al G f ((n+1:Nat):Int))(a:x<2^(n+1))(b:y<2^(n+1)):CM G (n+1) f x y=(fieldF G n f ((x:Int)-2^n) ((y:Int)-2^n):Nat):=by
 erw[¬CM fieldF,(p:((2^(n+1):Nat):Int)=2^n+2^n)=by erw[[N6],Dg n]]
 rw[A2h A3,aDs ok c a b];congr 2<;>lia
seal L2.PA L2.PE L2.PS L2.PSs L2.PT L2.PW
section
variable{P:N_}{w:Q_}{K:O_}{mg:C_}{n6:T_}{a:Ad}
inductive aDc(a:Ad)(vs:List V)(H:Hp)(Q:VK):Prop
|mk (g:GA) (G:Gv) (f n e:Nat) (_:vs=[.ref g.p,.int f,.int e]) (_:AL a H g G) (_:Al G f ((n+1:Nat):Int)) (_:n<=40) (_:e<=40) (_:∀l:Nat,l<=41->n<=l->e<=l->2^n+2^e<=2^l->Q (.int ((l+2:Nat):Int)) H):aDc a vs H Q
def aEH(a:Ad):Sp:=λvs H Q _=>aDc a vs H Q
theorem aFC(F:Fun K "level_for" "level_for" JL f fd)(T:Top K mg a)(I:Cal P w K mg n6 CX0 4 "reach_of" Vu (IK a)):AJ P w K mg n6 CX0 5 f fd JX (aEH a):=by
 erw[F.ok FL D_9 λL A x s H vs Q E U h=>?_]
 erw[(g,G,l,n,e,rfl,S,X,c,t,k)=h,(_,(Ac (Ax 3 FL.nd (AE AO (AB I U (Aa pv0 (Aa pv1 Ab))) (AE NH Ae pv2))) (Ac (Ax 4 FL.nd Ae) (Ac (JQ A3g (Ay IC (AE NH Ae (AE Cs pv4 Ae)) pv3 (AF _)) (Ag (Ax 4 FL.nd (AE AO pv4 Ae)))) (Ag (Av pv4))))),?_),Bn ?_,?r1 s1 k1 u E1,xw2 Z Z (g,G,l,n,Z,S,X,F3 c A6,?_),xwb Z Z Z ((O4 _,by lia,by decide),(xq2 Z Z ?_))];have M:(2:Int)^n+1*2^(e:Int).toNat=((2^n+2^e:Nat):Int):=by
  rw[M9,Int.one_mul,O6,N6,N6];rfl
 erw[(pn:2^n<=2^40)=P8 A6 c,(pe:2^e<=2^40)=P8 A6 t,aa=Bp n,Y=Bp e];rw[show(λi j:Int=>V.int (i+j)) (2^n) ((λi j:Int=>i*2^j.toNat) 1 (e:Int))=V.int ((2^n+2^e:Nat):Int)from A4e V.int M];generalize O:2^n+2^e=R at k;have D:R<=2^41:=by rw[<-O];lia
 erw[u (Bn ?_),?r2 s2 k2 v E2,v (λm σ o=>∃j:Nat,σ=[n8 (.ref g.p),n8 (.int l),n8 (.int (e:Int)),n8 (.int (R:Int)),n8 (.int ((j+2:Nat):Int))]/\o=H/\j+m=41,(41,0,Z,Z,Z),?_),?m σ o d,AI d λj q r W=>?_,-d,<-q,<-r,xwb Z Z Z (xq2 Z Z ((by lia,by lia,by decide),(xwb Z Z Z (xq1 Z ?_))))];have B:(1:Int)*2^(((j+2:Nat):Int)-2).toNat=((2^j:Nat):Int):=by
  rw[show(((j+2:Nat):Int)-2).toNat=j by lia,Int.one_mul,N6];rfl
 erw[LL (λb=>?_) (λb=>?_)]
 .erw[b=A4f b,b=b];rw[B]at b;have m0:m≠0:=λz=>by
   subst z;have:j=41:=W;subst this;lia
  erw[(fun σ' y=>∃C:Nat,σ'=[n8 (.ref g.p),n8 (.int l),n8 (.int (e:Int)),n8 (.int (R:Int)),n8 (.int ((C+2:Nat):Int))]/\y=o/\C+(m-1)=41,fun σ' y z=>(m-1,by lia,z),?_),(N:((j+2:Nat):Int)+1=((j+1+2:Nat):Int))=by lia]
  erw[xwb Z Z Z (j+1,A4e (λz:Int=>[n8 (V.ref g.p),n8 (V.int l),n8 (V.int (e:Int)),n8 (V.int (R:Int)),n8 (V.int z)]) N,Z,by lia)]
 .have b:¬(1:Int)*2^(((j+2:Nat):Int)-2).toNat<(R:Int):=λz=>b (A2g z);rw[B]at b;have le:R<=2^j:=by lia
  erw[xq1 Z (k j A3 ?_ ?_ le)]
  .erw[M4 λz=>?_];have:2^j<2^n:=A1a A6 z;lia
  .erw[M4 λz=>?_];have:2^j<2^e:=A1a A6 z;lia
inductive aGQ(a:Ad)(vs:List V)(H:Hp)(Q:VK):Prop
|mk (g:GA) (G:Gv) (f n k:Nat) (_:vs=[.ref g.p,.int f,.int ((n+k+1:Nat):Int)]) (_:AR a H g G) (_:Al G f ((n+1:Nat):Int)) (_:n+k<=46) (_:G.length<8000000) (_:∀(v:Nat)(G':Gv)(H':Hp),Fr g H H'->AR a H' g G'->AG G G' (5*k)->Ob G' n f k v->Al G' v ((n+k+1:Nat):Int)->Q (.int v) H'):aGQ a vs H Q
def aHf(a:Ad):Sp:=λvs H Q _=>aGQ a vs H Q
theorem aHF(F:Fun K "widened_to" "widened_to" IN f fd)(T:Top K mg a)(U:BY P w K mg n6 CX0 3 a.L0 "level_of" Lj (Oh a))(V:Cal P w K mg n6 CX0 4 "widened" Ew (Wn a)):AJ P w K mg n6 CX0 5 f fd Jc (aHf a):=by
 erw[F.ok Ia D_9 λW A M s H vs Q E O h=>?_]
 erw[(g,G,o,n,kk,rfl,N,hl,aa,few,k)=h,(_,(Ac (Ax 3 Ia.nd pv1) (Ac (JQ A3g (Ay IC (AD pv0 U (rm O) AQ (Aa pv3 Ab)) pv2 (AF _)) (Ag (Ax 3 Ia.nd (AB V O (Aa pv0 (Aa pv3 Ab)))))) (Ag (Av pv3)))),?_),xq1 Z (λm σ x=>∃(d:Gv)(c j:Nat),σ=[n8 (.ref g.p),n8 (.int o),n8 (.int ((n+kk+1:Nat):Int)),n8 (.int c)]/\Fr g H x/\AR a x g d/\AG G d (5*j)/\j+m=kk/\Al d c ((n+j+1:Nat):Int)/\Ob d n o j c,(kk,G,o,0,Z,Fr.refl g H,N,AG.refl N.ok,by lia,hl,Z),?_),?m σ x v,Ch v λd c j C fr b D u=>xa2 u λX L S=>?_,-u,-v,<-C,gf=D.few,xea (id L) λq eq Y=>xq1 Z (g.p,g.dx,(xq1 Z (b.at'.hp,ES g,(xq1 Z (g,d,c,q,Z,b.at',eq,?_))))),[Y],xwb Z Z Z (xq1 Z (LL (λt=>?_) (λt=>?_)))]
 .erw[t=A4f t,(fun σ' B=>∃(i:Gv)(l y:Nat),σ'=[n8 (.ref g.p),n8 (.int o),n8 (.int ((n+kk+1:Nat):Int)),n8 (.int l)]/\Fr g H B/\AR a B g i/\AG G i (5*y)/\y+(m-1)=kk/\Al i l ((n+y+1:Nat):Int)/\Ob i n o y l,fun σ' B z=>(m-1,by lia,z),?_),xw2 Z Z (g,d,c,n+j,Z,b,L,by lia,by lia,λl i H3 r I e R=>?_),(i,l,j+1,Z,fr.trans r,b.fr r I e,(D.trans e).mono (U7 A6 _),by lia,?_,(c,S.app e,R))];have:=R.lev;rw[show n+(j+1)+1=n+j+2 by lia];erw[this]
 .have t:¬((n+j+1:Nat):Int)<((n+kk+1:Nat):Int):=λz=>t (A2g z);have:j=kk:=by lia
  erw[<-this,xq1 Z (k c d x fr b D S L)]
end
end J
namespace J
open PySem L2
noncomputable def sF(r:Aw)(φ:D_):Int->Int->Nat:=λx y=>(CF r (φ x y:Nat) [((φ (x-1) (y-1):Nat):Int),((φ x (y-1):Nat):Int),((φ (x+1) (y-1):Nat):Int),((φ (x-1) y:Nat):Int),((φ (x+1) y:Nat):Int),((φ (x-1) (y+1):Nat):Int),((φ x (y+1):Nat):Int),((φ (x+1) (y+1):Nat):Int)]).toNat
noncomputable def sFN(r:Aw):Nat->(Int->Int->Nat)->Int->Int->Nat
|0,φ=>φ
|n+1,φ=>sF r (sFN r n φ)
theorem MD(r:Aw)(φ:D_)(n:Nat):∀m,sFN r (m+n) φ=sFN r m (sFN r n φ)
|0=>by rw[P0];rfl
|m+1=>by
 rw[show m+1+n=(m+n)+1 by lia];show sF r (sFN r (m+n) φ)=sF r (sFN r m (sFN r n φ));rw[MD r φ n m]
theorem Wz(r:Aw):∀(k:Nat)(x y:Int),(∀u v,x-k<=u->u<=x+k->y-k<=v->v<=y+k->φ u v=ψ (u+X) (v+Y))->sFN r k φ x y=sFN r k ψ (x+X) (y+Y)
|0,x,y,h=>h x y A3 A3 A3 A3
|k+1,x,y,h=>by
 erw[(c:∀u v,x-1<=u->u<=x+1->y-1<=v->v<=y+1->sFN r k φ u v=sFN r k ψ (u+X) (v+Y))=λu v d e f g=>Wz r k u v λa b i j l m=>h a b A3 A3 A3 A3,(_:sF r (sFN r k φ) x y=sF r (sFN r k ψ) (x+X) (y+Y)),¬sF,[c x y A3 A3 A3 A3,c (x-1) (y-1) (P7 rfl) A3 (P7 rfl) A3,c x (y-1) A3 A3 (P7 rfl) A3,c (x+1) (y-1) A3 (P7 rfl) (P7 rfl) A3,c (x-1) y (P7 rfl) A3 A3 A3,c (x+1) y A3 (P7 rfl) A3 A3,c (x-1) (y+1) (P7 rfl) A3 A3 (P7 rfl),c x (y+1) A3 A3 A3 (P7 rfl),c (x+1) (y+1) A3 (P7 rfl) A3 (P7 rfl)]];rw[show x-1+X=x+X-1 by lia,show y-1+Y=y+Y-1 by lia,show x+1+X=x+X+1 by lia,show y+1+Y=y+Y+1 by lia]
theorem JM(h:CF r 0 BE=0):∀k,sFN r k (λ_ _=>0)=λ_ _=>0
|0=>rfl
|k+1=>by
 show sF r (sFN r k λ_ _=>0)=_;rw[JM h k]
 funext x y
 show(CF r ((0:Nat):Int) BE).toNat=0;rw[show((0:Nat):Int)=0 from rfl,h];rfl
theorem JN(h:CF r 0 BE=0){k:Nat}(z:sFN r k φ x y≠0):∃u v,x-k<=u/\u<=x+k/\y-k<=v/\v<=y+k/\φ u v≠0:=by
 erw[A4h λno=>z ?_];have:=Wz r (φ:=φ) (ψ:=λ_ _=>0) (X:=0) (Y:=0) k x y λu v a b c d=>A4h λq=>no (u,v,a,b,c,d,q);rw[this,JM h]
theorem aAv(h:EC r){cell:Int}(f:0<=cell)(a:I_):0<=CF r cell a:=by
 cases e:JE r cell a with
 |none=>erw[[Ng e],f]
 |some i =>
  erw[xea (Nf e) λc b d=>?_,[d],(h.ok c (D0 b)).makes.1]
theorem OM{r:Aw}(e:EC r){c:Nat->Nat->Int}{φ:D_}{X Y:Int}:∀(k x y:Nat),k<=x->k<=y->(∀u v:Nat,x-k<=u->u<=x+k->y-k<=v->v<=y+k->c u v=(φ ((u:Int)+X) ((v:Int)+Y):Nat))->Bv r k c x y=(sFN r k φ ((x:Int)+X) ((y:Int)+Y):Nat)
|0,x,y,_,_,h=>h x y A3 A3 A3 A3
|k+1,x,y,hx,hy,h=>by
 have d:∀u v:Nat,x-1<=u->u<=x+1->y-1<=v->v<=y+1->Bv r k c u v=(sFN r k φ ((u:Int)+X) ((v:Int)+Y):Nat):=λu v f g i j=>OM e k u v A3 A3 λa b l m n o=>h a b A3 A3 A3 A3;show CF r (Bv r k c x y) [Bv r k c (x-1) (y-1),Bv r k c x (y-1),Bv r k c (x+1) (y-1),Bv r k c (x-1) y,Bv r k c (x+1) y,Bv r k c (x-1) (y+1),Bv r k c x (y+1),Bv r k c (x+1) (y+1)]=((sF r (sFN r k φ) ((x:Int)+X) ((y:Int)+Y):Nat):Int)
 erw[¬sF,[S8 (aAv e (O4 _) _)],[d x y (R8 _ _) (F5 _ _) (R8 _ _) (F5 _ _),d (x-1) (y-1) (C1 _) A3 (C1 _) A3,d x (y-1) (R8 _ _) (F5 _ _) (C1 _) A3,d (x+1) (y-1) A3 (C1 _) (C1 _) A3,d (x-1) y (C1 _) A3 (R8 _ _) (F5 _ _),d (x+1) y A3 (C1 _) (R8 _ _) (F5 _ _),d (x-1) (y+1) (C1 _) A3 A3 (C1 _),d x (y+1) (R8 _ _) (F5 _ _) A3 (C1 _),d (x+1) (y+1) A3 (C1 _) A3 (C1 _)]];rw[show((x-1:Nat):Int)+X=x+X-1 by lia,show((y-1:Nat):Int)+Y=y+Y-1 by lia,show((x+1:Nat):Int)+X=x+X+1 by lia,show((y+1:Nat):Int)+Y=y+Y+1 by lia]
theorem aEd{G:Gv}(ok:GOk G){r:Aw}(H:EC r)(F:CF r 0 BE=0){l e f k:Nat}(g:Al G f ((l+1+1:Nat):Int))(jr:JR r G e f k){φ:D_}(h:∀x y,fieldF G (l+1) f x y=φ x y)(b:∀x y,φ x y≠0->-(2^l)+2^e<=x/\x+2^e<2^l/\-(2^l)+2^e<=y/\y+2^e<2^l):Al G k ((l+1:Nat):Int)/\∀x y,fieldF G l k x y=sFN r (2^e) φ x y:=by
 erw[CP jr λa n o d s=>?_];have m:a=l:=by
  have:=n.one g;lia
 erw[<-m,(p:((2^(a+1):Nat):Int)=2^a+2^a)=by erw[[N6],Dg a]]
 erw[t=N6 2 a,M=N6 2 e];have L:((2^(a+2):Nat):Int)=2^a+2^a+(2^a+2^a):=by
  rw[N6];show(2:Int)^(a+2)=_;rw[show(2:Int)^(a+2)=2^(a+1)+2^(a+1)from Dg (a+1),Dg]
 erw[(le:2^e<=2^a)=P8 A6 o,(d,λx y=>?_),(z:-(2^a)<=x/\x<2^a/\-(2^a)<=y/\y<2^a)]
 .erw[xa3 z λi I j b2=>?_];have at':(fieldF G a k x y:Int)=Bv r (2^e) (CM G (a+2) f) ((x+2^a).toNat+2^a) ((y+2^a).toNat+2^a):=by
   rw[<-s _ _ A3 A3,SS ok d A3 A3];congr 2<;>lia
  have c:∀u:Int,-(2^a)<=u->((((u+2^a).toNat+2^a:Nat):Int)+-(2^(a+1)))=u:=λu K=>by
   rw[Dg,O6,t];lia
  rw[OM H (φ:=φ) (X:=-(2^(a+1))) (Y:=-(2^(a+1))) _ _ _ A3 A3 (λu v A B C D=>?_),c x i,c y j]at at'
  .erw[A4d at']
  .rw[SS ok g A3 A3,h];rfl
 .erw[¬fieldF,[A2f z],(A4h λq=>?_),Ci (JN F (λw=>q w.symm)) λu v A B C D E=>?_];have:=b u v E;lia
def Kg(r:Aw)(F:List (Int->Int->Nat))(T:Nat):KTy:=λl e ψ=>l<47/\((∀x y,x<2^(l+2)->y<2^(l+2)->ψ x y=0)\/∃φ∈F,∃(t:Nat)(i j:Int),t+2^e<=T/\∀x y,x<2^(l+2)->y<2^(l+2)->ψ x y=(sFN r t φ ((x:Int)+2^l*i) ((y:Int)+2^l*j):Nat))
theorem aGq{r:Aw}(w:EC r)(L:CF r 0 BE=0)(F:List (Int->Int->Nat))(T:Nat):ClK r (Kg r F T):=by
 erw[(o:∀l,2^(l+1)=2^l*2)=λl=>M6 ..,(s:∀l:Nat,(2:Int)^(l+1)=2^l*2)=λl=>A0b ..,(p:∀l,2^(l+2)=2^l*2*2)=λl=>by rw[M6,M6]]
 have q:∀l,2^(l+1+2)=2^l*2*2*2:=λl=>by rw[M6,M6,M6]
 have nine:∀{l e g ψ},Kg r F T (l+1) e ψ->2^g<=2^e->∀i j,i<3->j<3->Kg r F T l g λx y=>ψ (x+2^(l+1)*i) (y+2^(l+1)*j):=λ{l e g ψ} h M i j hi k=>by
  erw[(D:2^(l+1)*i<=2^(l+1)*2)=N7 _ (O8 hi),(b2:2^(l+1)*j<=2^(l+1)*2)=N7 _ (O8 k),A=o l,B=p l,C=q l,(by have:=h.1;lia,?_)];rcases h.2 with z|⟨φ,b,t,a,f,K,z⟩
  .erw[.inl λx y m n=>z _ _ A3 A3]
  .erw[.inr (φ,b,t,2*a+2*(i:Int),2*f+2*(j:Int),by lia,λx y m n=>?_),(_:ψ _ _=_),[z _ _ A3 A3]];have d:∀(x i:Nat)(a:Int),((x+2^(l+1)*i:Nat):Int)+2^(l+1)*a=(x:Int)+2^l*(2*a+2*(i:Int)):=λx i a=>by
    rw[O6,P5,N6];show(x:Int)+2^(l+1)*(i:Int)+2^(l+1)*a=_;rw[s,A1c,A1d,A1d];lia
   rw[d,d]
 erw[(λh _=>nine h (C1 _),λ{l φ} h=>nine h (by erw[[o],P4 _ _]),λ{l ψ} h i j hi k=>?_),(D:2^(l+1)*i<=2^(l+1)*1)=N7 _ (O8 hi),(b2:2^(l+1)*j<=2^(l+1)*1)=N7 _ (O8 k),A=o l,B=p l,C=q l,(by have:=h.1;lia,?_)];rcases h.2 with z|⟨φ,b,t,a,f,K,z⟩
 .erw[.inl λx y m n=>?_];have:=OM w (c:=ψ) (φ:=λ_ _=>0) (X:=0) (Y:=0) (2^l) (x+(2^(l+1)*i+2^l)) (y+(2^(l+1)*j+2^l)) A3 A3 λu v E G H I=>z u v A3 A3;rw[JM L]at this;erw[this]
 .erw[.inr (φ,b,t+2^l,2*a+(2*(i:Int)+1),2*f+(2*(j:Int)+1),by lia,λx y m n=>?_)];have:=OM w (c:=ψ) (φ:=sFN r t φ) (X:=2^(l+1)*a) (Y:=2^(l+1)*f) (2^l) (x+(2^(l+1)*i+2^l)) (y+(2^(l+1)*j+2^l)) A3 A3 λu v E G H I=>z u v A3 A3;show Bv r (2^l) ψ _ _=_;rw[this,<-MD,Nat.add_comm];have d:∀(x i:Nat)(a:Int),((x+(2^(l+1)*i+2^l):Nat):Int)+2^(l+1)*a=(x:Int)+2^l*(2*a+(2*(i:Int)+1)):=λx i a=>by
   rw[O6,O6,P5,N6,N6];show(x:Int)+(2^(l+1)*(i:Int)+2^l)+2^(l+1)*a=_;rw[s,A1c,A1c,A1d,A1d,Int.mul_one];lia
  rw[d,d]
noncomputable def wl(W T l:Nat):Nat:=(W+2*T)/2^l+5
noncomputable def sg(k T W D l:Nat):Nat:=1+k*(T*(wl W T l*wl D T l))
noncomputable def mg(k T W D e:Nat):Nat:=if 2^e<=T then((List.range 47).map (sg k T W D)).sum else 47
noncomputable def ng(k T W D:Nat):Nat:=s47 (mg k T W D)
noncomputable def aDO(ψ:D_)(l:Nat)(i j:Int):Sht:=λx y=>(ψ ((x:Int)+2^l*i) ((y:Int)+2^l*j):Nat)
abbrev Fbx:=(Int->Int->Nat)×Int×Int
noncomputable def ZF(r:Aw)(T W D l:Nat)(q:Fbx):List (Nat×Sht):=(List.range T).flatMap λt=>(List.range (wl W T l*wl D T l)).map λd=>#[l,aDO (sFN r t q.1) l ((q.2.1-T)/2^l-3+((d%wl W T l:Nat):Int)) ((q.2.2-T)/2^l-3+((d/wl W T l:Nat):Int))]
noncomputable def WS(r:Aw)(T W D:Nat)(qs:List Fbx)(e:Nat):List (Nat×Sht):=(List.range 47).flatMap λl=>#[l,λ_ _=>0]::if 2^e<=T then qs.flatMap (ZF r T W D l)else []
theorem Uy{α β:Type}(f:α->List β)(m:α->Nat):∀l:List α,(∀x∈l,(f x).length<=m x)->(l.flatMap f).length<=(l.map m).sum
|[],_=>by simp
|a::l,h=>by
 have:=Uy f m l λx b=>h x (D6 _ b);have:=h a D5;rw[V8,D3,J0,R0];lia
theorem Ze(r:Aw)(T W D:Nat)(qs:List Fbx)(e:Nat):(WS r T W D qs e).length<=mg qs.length T W D e:=by
 erw[¬WS mg,(h:2^e<=T)]
 .rw[A2h h];simp only[A2h h];erw[Uy _ _ _ λl _=>?_,[F2]];have:=OW (ZF r T W D l) (T*(wl W T l*wl D T l)) qs λq _=>by
   unfold ZF;have:=OW (λt=>(List.range (wl W T l*wl D T l)).map λd=>#[l,aDO (sFN r t q.1) l ((q.2.1-T)/2^l-3+((d%wl W T l:Nat):Int)) ((q.2.2-T)/2^l-3+((d/wl W T l:Nat):Int))]) (wl W T l*wl D T l) (List.range T) λt _=>by erw[[C0,P3],C1 _]
   rw[P3]at this;erw[this]
  unfold sg;lia
 .rw[A2f h];simp only[A2f h];have:=OW (λl=>[(#[l,λ_ _=>0]:Nat×Sht)]) 1 (List.range 47) λl _=>C1 _;rw[P3]at this;erw[this]
theorem aEr(h:Kg r F T l e φ)(q:Zy l φ ψ):Kg r F T l e ψ:=by
 erw[(h.1,?_)];rcases h.2 with c|⟨d,m,t,i,j,f,c⟩
 .erw[.inl λx y a b=>(q x y a b).symm.trans (c x y a b)]
 .erw[.inr (d,m,t,i,j,f,λx y a b=>(q x y a b).symm.trans (c x y a b))]
theorem ZG{l T W t:Nat}{x:Nat}{i X u:Int}(y:x<2^(l+2))(w:t<=T)(p:(x:Int)+2^l*i-t<=u)(r:u<=(x:Int)+2^l*i+t)(s:X<=u)(v:u<X+W):∃d,d<wl W T l/\i=(X-T)/2^l-3+((d:Nat):Int):=by
 have a:(0:Int)<2^l:=by have:=Bp l;erw[e=N6 2 l];lia
 have z:((2^(l+2):Nat):Int)=2^l*4:=by rw[N6];show(2:Int)^(l+2)=_;rw[A0b,A0b];lia
 have m:(((W+2*T)/2^l:Nat):Int)=((W:Int)+2*T)/2^l:=by rw[Int.natCast_ediv,N6];rfl
 generalize j:(2:Int)^l=P at *
 generalize f:(X-T)/P=q;erw[c=Int.emod_add_mul_ediv (X-T) P,g=T4 (X-T) (A2b a),h=R9 (X-T) a];rw[f]at c;erw[n=Int.emod_add_mul_ediv ((W:Int)+2*T) P,o=R9 ((W:Int)+2*T) a];generalize k:((W:Int)+2*T)/P=b at *
 have lo:P*(q-4)<P*i:=by rw[Int.mul_sub];lia
 have hi:P*i<P*(q+b+2):=by rw[A1c,A1c];lia
 erw[lo=Int.lt_of_mul_lt_mul_left lo (Z3 a),hi=Int.lt_of_mul_lt_mul_left hi (Z3 a),((i-q+3).toNat,?_,by lia),¬wl];lia
def InBx(F:List (Int->Int->Nat))(W D:Nat)(qs:List Fbx):Prop:=∀φ∈F,∀u v,φ u v≠0->∃X Y,#[φ,X,Y]∈qs/\X<=u/\u<X+W/\Y<=v/\v<Y+D
theorem aEs{r:Aw}(P:CF r 0 BE=0){F:List (Int->Int->Nat)}{T W D:Nat}{qs:List Fbx}(M:InBx F W D qs):Ni (Kg r F T) (ng qs.length T W D):=by
 erw[((mg qs.length T W D,C1 _,λe=>(WS r T W D qs e,Ze r T W D qs e,λl ψ h=>?_)),aEr),(o,d)=h,(zero:(∀x y,x<2^(l+2)->y<2^(l+2)->ψ x y=0)->∃f,#[l,f]∈WS r T W D qs e/\Zy l ψ f)=λz=>(λ_ _=>0,W3.mpr (l,N9.mpr o,D5),z)]
 rcases d with d|⟨φ,n,t,i,j,Q,d⟩
 .erw[zero d]
 .by_cases z:∀x y,x<2^(l+2)->y<2^(l+2)->ψ x y=0
  .erw[zero z]
  .erw[(x,z)=Classical.not_forall.mp z,(y,z)=Classical.not_forall.mp z,(g,z)=Classical.not_imp.mp z,(k,z)=Classical.not_imp.mp z];rw[d x y g k]at z;erw[(z:sFN r t φ ((x:Int)+2^l*i) ((y:Int)+2^l*j)≠0)=λq=>z (by rw[q];rfl),Ci (JN P z) λu v s w A b2 c=>Ci (M φ n u v c) λX Y m H I K L=>?_,R=Bp e,xea (ZG (T:=T) (W:=W) g A3 s w H I) λb p E=>xea (ZG (T:=T) (W:=D) k A3 A b2 K L) λa O G=>?_,(N:0<wl W T l)=by erw[¬wl,Nat.succ_pos _]]
   have C:(b+wl W T l*a)%wl W T l=b:=by rw[S2,R4 p]
   have B:(b+wl W T l*a)/wl W T l=a:=by rw[P9 _ _ N,P6 p,P0]
   have lt:b+wl W T l*a<wl W T l*wl D T l:=by
    have:wl W T l*(a+1)<=wl W T l*wl D T l:=N7 _ O;rw[Nat.mul_add]at this;lia
   erw[(aDO (sFN r t φ) l i j,W3.mpr (l,N9.mpr o,D6 _ ?_),λx y g k=>d x y g k),[A2h A3],W3.mpr (_,m,W3.mpr (t,N9.mpr A3,F0.mpr (b+wl W T l*a,N9.mpr lt,?_))),[C,B],(_:#[l,aDO (sFN r t φ) l ((X-T)/2^l-3+((b:Nat):Int)) ((Y-T)/2^l-3+((a:Nat):Int))]=_),[-E,-G]]
theorem aEe(ok:GOk G){T l f e t:Nat}(a:l<47)(g:Al G f ((l+1+1:Nat):Int))(m:φ∈F)(b:t+2^e<=T)(h:∀x y,fieldF G (l+1) f x y=sFN r t φ x y):Kg r F T l e (CM G (l+2) f):=by
 erw[(a,.inr (φ,m,t,-2,-2,b,λx y c d=>?_)),[SS ok g c d,h],(e:(2:Int)^(l+1)=2^l*2)=A0b ..,[e]];congr 2<;>lia
seal L2.PA L2.PE L2.PS L2.PSs L2.PT L2.PW
def QV(φ:D_)(k:Nat):Prop:=∀x y,φ x y≠0->-(2^40)+(k:Int)<=x/\x+k<2^40/\-(2^40)+(k:Int)<=y/\y+k<2^40
theorem nb1{x l w:Int}{k:Nat}(c:-2^40<=l-k)(d:l-k+(w+2*k)<=2^40)(a:l<=x)(b:x<l+w):-(2^40)+(k:Int)<=x/\x+k<2^40:=by lia
theorem nb2{l:Int}{k:Nat}(h:-(2^40)+(k:Int)<=l):-2^40<=l-k:=by lia
theorem nb3{l w:Int}{k:Nat}(h:l+w-1+k<2^40):l-k+(w+2*k)<=2^40:=by lia
theorem aBi {φ:D_} {b:Bx} (t:Qz (λx y=>φ x y≠0) b) (k:Nat):JG (b.l-k) (b.t-k) (b.w+2*k) (b.h+2*k) (2^40)↔QV φ k:=by
 constructor
 .erw[?f x y h,xa3 f λa c d e=>xa3 (t.inn x y h) λg i j m=>?_,q=nb1 a d g i,(q.1,q.2,nb1 c e j m)]
 .erw[?h,(n,a)=t.le,(o,c)=t.to,(p,d)=t.ri,(r,e)=t.bo,(nb2 (h _ _ a).1,nb2 (h _ _ c).2.2.1,nb3 (h _ _ d).2.1,nb3 (h _ _ e).2.2.2)]
section
variable{P:N_}{w:Q_}{K:O_}{mg:C_}{n6:T_}{a:Ad}
inductive aDT(a:Ad)(vs:List V)(H:Hp)(Q:VK):Prop
|mk (g:GA) (G:Gv) (f n k:Nat) (_:vs=[.ref g.p,.int f,.int (k:Int)]) (_:AR a H g G) (_:Al G f ((n+1:Nat):Int)) (_:n<48) (_:G.length<8000000) (_:QV (fieldF G n f) k) (_:∀H',FrQ g H H'->AR a H' g G->Q .non H'):aDT a vs H Q
def aEB(a:Ad):Sp:=λvs H Q _=>aDT a vs H Q
theorem aCu(F:Fun K "check_leap" "check_leap" IR f fd)(T:Top K mg a)(M:Cal P w K mg n6 CX0 1 "is_whole" Vv YE)(O:Cal P w K mg n6 CX0 102 "box_of" Vu (RW a))(L:Cal P w K mg n6 CX0 1 "lies_within" QM Tv):AJ P w K mg n6 CX0 103 f fd Jf (aEB a):=by
 erw[F.ok LO D_9 λR A r s H vs Q E p h=>?_]
 erw[(g,G,S,n,k,rfl,y,C,q,few,W,z)=h,(_,(Ac (AS (PW.pt (MF (DJ (Dk (AB M p (Aa pv2 Ab)))) (JP (Ay IC pv2 Ae (AF _))))) (Ag Bo) Az) (Ac (Ax 3 LO.nd (AB O p (Aa pv0 (Aa pv1 Ab)))) (Ag (AS (PW.pt (NB (Ay Si pv3 Dw (AF _)) (Lw (DJ (Dk (AB L p (Bb (AY Cs (Aj Ao pv3 Ae R_9) pv2 (AY Cs (Aj Ao pv3 Ae R_9) pv2 (AY AO (Aj Ao pv3 Ae R_9) (AE Ec Ae pv2) (AY AO (Aj Ao pv3 Ae R_9) (AE Ec Ae pv2) Ab)))) (Aa (Co Z T.aAW) Ab)))))))) (Ag Bo) Az)))),?_),Bn ?_,?r1 s1 k1 o X,xq1 Z ((k:Int),Z,o0,Z,Bj ?_),xwb Z Z Z (xq1 Z ?_),[A3a A3],Bj (o ?_),Bn ?_,?r2 s2 k2 d Y,xw2 Z Z (g,G,S,n,Z,y,C,q,few,λx i m b=>?_,λN x t i m b c=>?_)]
 .erw[d (xq1 Z (Z,o3,Z,Bj ?_)),z i m b]
 .erw[d ?_,D=Tk y.ok C x];generalize mvB (2^n) N=B at c D;erw[c=c,V=aBi D k,xq1 Z (Z,o0,Z,Cy ?_),xwi Z Z Z (SqT.of c) (Ai (j:=0) Z) (xwb Z Z Z ?_),xwi Z Z Z (SqT.of c) (Ai (j:=1) Z) (xwb Z Z Z ?_),xwi Z Z Z (SqT.of c) (Ai (j:=2) Z) (xwb Z Z Z (.inl (by decide,by decide),(xq2 Z Z ?_))),xwi Z Z Z (SqT.of c) (Ai (j:=3) Z) (xwb Z Z Z (.inl (by decide,by decide),(xq2 Z Z ?_))),(by show 4<=sizeLine;decide,λu U=>?_),(u,B.l-k,B.t-k,B.w+2*k,B.h+2*k,2^40,Z,Af,?_)];generalize v:upd i u _=I;erw[e=v▸AM U,-v,[A2g (V.mpr W)],(o0,Z,Bj (z I (m.trans (As.frq e)) (b.same e)))]
end
theorem aDq(e:G=G0++r)(ok:GOk G):Al G (bareN 1) ((0+1:Nat):Int)/\Lq G 0 (bareN 1)/\∀x y,fieldF G 0 (bareN 1) x y=0:=by
 erw[(IG e (n:=1) A6,.inl Z,λx y=>?_),¬fieldF,(z:-(2^0)<=x/\x<2^0/\-(2^0)<=y/\y<2^0)]
 .erw[[A2h z],FV e ok (n:=1) A6 (by show _<2;have:(2:Int)^0=1:=rfl;lia) (by show _<2;have:(2:Int)^0=1:=rfl;lia)]
 .rw[A2f z]
theorem nar{x a b c:Int}(h:-a<=x)(h':x<a)(e:a+c<=b):-b+c<=x/\x+c<b:=by lia
theorem aCm{k:Nat}(h:QV φ k)(a:φ x y≠0):k<2^40:=by
 have:=h x y a;lia
theorem nr1{x u:Int}{t k:Nat}(tk:t<=k)(c:x-t<=u)(d:u<=x+t)(a:-(2^40)+(k:Int)<=u)(b:u+k<2^40):-(2^40)<=x/\x<2^40:=by lia
theorem WM{r:Aw}(m:CF r 0 BE=0){φ:D_}{k t:Nat}(h:QV φ k)(tk:t<=k){x y:Int}(l:sFN r t φ x y≠0):-(2^40)<=x/\x<2^40/\-(2^40)<=y/\y<2^40:=by
 erw[Ci (JN m l) λu v e f g i j=>xa3 (h u v j) λa b c d=>?_,q=nr1 tk e f a b,(q.1,q.2,nr1 tk g i c d)]
theorem Wf(e:G=G0++r)(ok:GOk G)(c:n<=47)(t:Lq G n f)(h:∀x y,fieldF G n f x y≠0->-(2^40)<=x/\x<2^40/\-(2^40)<=y/\y<2^40):n<=40:=by
 erw[M4 λz=>?_];obtain⟨m,rfl⟩:∃m,n=m+1:=(n-1,by lia)
 erw[BM (Tj e ok A3 t) λx y b a=>?_];have:=h x y a;erw[(p:2^40<=2^m)=P8 A6 (O8 z),d=N6 2 m];lia
def aEO(Κ:KTy)(r:Aw)(φ:D_)(k:Nat):Prop:=∀(j l:Nat)(G:Gv)(f:Nat),k/2^j%2=1->j<=l->l<=41->GOk G->Al G f ((l+1+1:Nat):Int)->(∀x y,fieldF G (l+1) f x y=sFN r (k%2^j) φ x y)->Κ l j (CM G (l+2) f)
theorem aEq{T k t:Nat}(m:φ∈F)(h:k+t<=T):aEO (Kg r F T) r (sFN r t φ) k:=λj l G f e g a ok c b=>by
 erw[aEe (t:=k%2^j+t) ok (F3 a A6) c m ?_ λx y=>by rw[b,<-MD]]
 erw[d=O5 k (2^j),(p:2^j*1<=2^j*(k/2^j))=N7 _ A3];lia
def Yu(H:Hp)(G:Gv)(ψ:D_)(ts:H_):Prop:=∃(t:R_)(sq e res l:Nat),ts.getLast?=n8 t/\H t=n8 (.tup [.int sq,.int e,.int res])/\l<=41/\Al G res ((l+1:Nat):Int)/\∀x y,fieldF G l res x y=ψ x y
section
variable{P:N_}{w:Q_}{K:O_}{mg:C_}{n6:T_}{a:Ad}
inductive aDj(a:Ad)(vs:List V)(H:Hp)(Q:VK):Prop
|mk (p dx mem pr:R_) (g:GA) (G:Gv) (Κ:KTy) (φ:D_) (N b:Nat) (r:Aw) (m:MA) (f n k:Nat) (_:vs=[.ref p,.int f,.int (k:Int)]) (_:ZS a H g G Κ N b p dx mem pr r m) (_:Ni Κ N) (_:ClK r Κ) (_:aEO Κ r φ k) (_:Al G f ((n+1:Nat):Int)) (_:n<=40) (_:Lq G n f) (_:∀x y,fieldF G n f x y=φ x y) (_:QV φ k) (_:b+12000+10*N<7900000) (_:∀(L:R_)(ts:H_)(G':Gv)(H':Hp)(i:Nat),FrZ g m H H'->ZS a H' g G' Κ N (b+12000) p dx mem pr r m->AG G G' i->H L=n9->H' L=n8 (.lst (ts.map V.ref))->((ts=[]/\∀x y,sFN r k φ x y=φ x y)\/Yu H' G' (sFN r k φ) ts)->Q (.ref L) H'):aDj a vs H Q
def ZW(a:Ad):Sp:=λvs H Q _=>aDj a vs H Q
theorem aFI(F:Fun K "road" "road" Vi f fd)(T:Top K mg a)(cD:Cal P w K mg n6 CX0 103 "check_leap" Jf (aEB a))(aZ:Cal P w K mg n6 CX0 1 "bare_field" Sz (OL a))(cK:Cal P w K mg n6 CX0 5 "level_for" JX (aEH a))(cB:Cal P w K mg n6 CX0 5 "widened_to" Jc (aHf a))(bW:BY P w K mg n6 CX0 149 a.J5 "after" QP (GZ a 46))(aY:Cal P w K mg n6 CX0 4 "trimmed" Ew (Pe a)):AJ P w K mg n6 CX0 150 f fd Vm (ZW a):=by
 erw[F.ok Ek (λvs H Q E h=>?_) (λco A cb s H vs Q E hr h=>?_)]
 .apply Cr;intro G_ I;obtain⟨p,dx,mem,pr,g,G,Κ,φ,N,b,r,m,f',n,k,rfl,_⟩:=h;apply I;clear I G_;rfl
 .apply Cr;intro G_ I;obtain⟨p,dx,mem,pr,g,G,Κ,φ,N,b,r,m,f',n,k,rfl,zs,fin,cl,bb,lf,b9,tr,hf,nr,few,kn⟩:=h;apply I;erw[-I G_,(_,(Ac (Ax 3 Ek.nd (AA pv0 Z)) (Ac (Bq (AB cD hr (Aa pv3 (Aa pv1 (Aa pv2 Ab))))) (Ac (Ax 4 Ek.nd (BO Ab)) (Ac (Ax 5 Ek.nd pv1) (Ac (Ax 6 Ek.nd pv2) (Ac (Ax 7 Ek.nd Ae) (Ac (JQ A3g (PW.pt (NB (Ay Ua pv6 Ae (AF _)) (Lw (Ay IB pv5 (AB aZ hr (Aa pv3 Ab)) (AF _))))) (Ac (AS (Ay DR (AE Bu pv6 Ae) Ae (AF _)) (Ac (Ax 8 Ek.nd (AB cB hr (Aa pv3 (Aa pv5 (Aa (AB cK hr (Aa pv3 (Aa pv5 (Aa pv7 Ab)))) Ab))))) (Ac (Ax 9 Ek.nd (AD pv0 bW (rm hr) AQ (Aa pv8 (Aa pv7 Ab)))) (Ac (Bq (Dm A4a A4b A4c BI pv4 (Bb (Aa pv8 (Aa pv7 (Aa (pv 9) Ab))) Ab))) (Ag (Ax 5 Ek.nd (AB aY hr (Aa pv3 (Aa (pv 9) Ab)))))))) Az) (Ac (Ax 6 Ek.nd (AE CU pv6 Ae)) (Ag (Ax 7 Ek.nd (AE AO pv7 Ae)))))) (Ag (Av pv4))))))))),?_),sz=zs.jz.sz fin,re=zs.jz.jw.rest,ro=zs.jz.jw.rok,Bn ?_,?r1 s1 k1 bo E1,xwf Z Z zs.jz.jw.hp T.L4 T.M3 (EA _ _ _ _ _) (bo ?_),Bn ?_,?r2 s2 k2 bp E2,xw3 Z Z Z (g,G,f',n,k,Z,zs.fu,lf,by lia,by lia,(λx y h=>nr x y (by erw[[-hf],h])),λH1 fq be=>?_),au=zs.frQ fq be,(bf:FrZ g m H H1)=FrQ.z fq,bp (Bn ?_),?r3 s3 k3 bq E3,(by show 0<=sizeLine;decide,λL nL=>?_)];generalize eH:upd H1 L _=H2;erw[a6=eH▸AM nL,bj=eH▸Af,-eH,ci=au.same a6,(a5,cs)=au.new nL,M=au.ap nL,bq (Bn ?_),?r4 s4 k4 br E4,xq1 Z (br ?_),Bn ?_,?r5 s5 k5 bt E5,xq1 Z (bt ?_),Bn ?_,?r6 s6 k6 bu E6,bu (Bn ?_),?r7 s7 k7 bv E7];have ax:H L=n9:=by
   cases e:H L with
   |none=>rfl
   |some o =>
    erw[h1=fq L o e (λz=>a5 (by simp[z])) (λz=>a5 (by simp[z]))];rw[nL]at h1;cases h1
  erw[bg=bf.trans (As.z a6),(bn:k/2^0=k)=by rw[Nat.pow_zero,Nat.div_one]]
  have a2:k%2^0=0:=by rw[Nat.pow_zero,Nat.mod_one]
  erw[(fun μ σ H3=>∃(j:Nat)(B:Gv)(ts:H_)(h c:Nat)(u8 u9:Option V)(i:Nat),σ=[n8 (.ref p),n8 (.int f'),n8 (.int (k:Int)),n8 (.ref g.p),n8 (.ref L),n8 (.int h),n8 (.int ((k/2^j:Nat):Int)),n8 (.int (j:Int)),u8,u9]/\j+μ=41/\FrZ g m H H3/\ZS a H3 g B Κ N (b+270*ts.length) p dx mem pr r m/\AG G B i/\H3 L=n8 (.lst (ts.map V.ref))/\ts.length<=j/\(c<=40/\Al B h ((c+1:Nat):Int)/\Lq B c h/\∀x y,fieldF B c h x y=sFN r (k%2^j) φ x y)/\((ts=[]/\∀x y,sFN r (k%2^j) φ x y=φ x y)\/Yu H3 B (sFN r (k%2^j) φ) ts),(41,0,G,[],f',n,n9,n9,0,(by rw[bn];rfl),Z,bg,ci,AG.refl zs.fu.ok,bj,C1 _,(b9,lf,tr,by erw[[a2],hf]),.inl (Z,by erw[[a2],λ_ _=>Z])),?_)];rintro μ σ H3 ch;apply Cr;erw[?G_ I,(j,B,ts,h,c,u8,u9,i,rfl,jm,am,C,an,ao,tl,(ak,lh,th,fh),la)=ch];apply I;erw[-I G_,cy=C.jz.sz fin,(cv,e3)=C.fu.g0];have aj:(k/2^j=0\/h=bareN 1)->k7 [n8 (.ref p),n8 (.int f'),n8 (.int (k:Int)),n8 (.ref g.p),n8 (.ref L),n8 (.int h),n8 (.int ((k/2^j:Nat):Int)),n8 (.int (j:Int)),u8,u9] H3:=λex=>by
   have eq:sFN r k φ=sFN r (k%2^j) φ:=by
    rcases ex with ex|rfl
    .have:k%2^j=k:=by
      have:=O5 k (2^j);rw[ex,Nat.mul_zero,P0]at this;erw[this]
     rw[this]
    .erw[xa2 (aDq e3 C.fu.ok) λb1 b2 b3=>?_];have n0:c=0:=by
      have:=lh.one b1;lia
     subst n0;have z:sFN r (k%2^j) φ=λ_ _=>0:=by
      funext x y
      rw[<-fh,b3]
     have:=MD r φ (k%2^j) (2^j*(k/2^j));rw[O5]at this;rw[this,z,JM re]
   erw[bv (xq1 Z (kn L ts B H3 i am (C.mono A3) an ax ao ?_)),[eq],la]
  erw[xwb Z Z Z (xq1 Z (LL (λX=>?_) (λX=>?_)))]
  .erw[X=A4f X,(kj:k/2^j≠0)=by lia]
   erw[xw2 Z Z (g,B,Z,C.fu,Z,(xq1 Z ?_)),(hb:h=bareN 1)]
   .erw[<-hb,[A2g rfl],Bj (aj (.inr Z))]
   .erw[[A3a (λz=>hb (by injection z with z;erw[A4d z]))],Cy ?_];obtain⟨x0,y0,h0⟩:∃x y,φ x y≠0:=by
     erw[A4h λno=>hb ?_];have z:φ=λ_ _=>0:=by
      funext x y
      erw[A4h λz=>no (x,y,z)]
     erw[xa2 (aDq e3 C.fu.ok) λb1 b2 b3=>(VV e3 C.fu.ok A3 A6 lh b1 th b2 λx y=>?_).2,[b3,fh,z,JM re]]
    erw[b4=aCm nr h0];have bz:j<40:=by
     erw[K1 λz=>kj (P6 (D8 b4 (P8 A6 z)))]
    erw[(fun σ' R=>∃(j:Nat)(B:Gv)(ts:H_)(h c:Nat)(u8 u9:Option V)(i:Nat),σ'=[n8 (.ref p),n8 (.int f'),n8 (.int (k:Int)),n8 (.ref g.p),n8 (.ref L),n8 (.int h),n8 (.int ((k/2^j:Nat):Int)),n8 (.int (j:Int)),u8,u9]/\j+(μ-1)=41/\FrZ g m H R/\ZS a R g B Κ N (b+270*ts.length) p dx mem pr r m/\AG G B i/\R L=n8 (.lst (ts.map V.ref))/\ts.length<=j/\(c<=40/\Al B h ((c+1:Nat):Int)/\Lq B c h/\∀x y,fieldF B c h x y=sFN r (k%2^j) φ x y)/\((ts=[]/\∀x y,sFN r (k%2^j) φ x y=φ x y)\/Yu R B (sFN r (k%2^j) φ) ts),fun σ' R z=>(μ-1,by lia,z),?_),(dv:k/2^(j+1)=k/2^j/2)=by rw[M6,Nat.div_div_eq_div_mul]]
    erw[(md:k%2^(j+1)=k%2^j+2^j*(k/2^j%2))=Nat.mod_pow_succ,Bn ?_,?r8 s8 k8 bw E8];apply WQ (T:=k8) (fun σ' R=>∃(B:Gv)(ts:H_)(h c:Nat)(u8 u9:Option V)(i:Nat),σ'=[n8 (.ref p),n8 (.int f'),n8 (.int (k:Int)),n8 (.ref g.p),n8 (.ref L),n8 (.int h),n8 (.int ((k/2^j:Nat):Int)),n8 (.int (j:Int)),u8,u9]/\FrZ g m H R/\ZS a R g B Κ N (b+270*ts.length) p dx mem pr r m/\AG G B i/\R L=n8 (.lst (ts.map V.ref))/\ts.length<=j+1/\(c<=40/\Al B h ((c+1:Nat):Int)/\Lq B c h/\∀x y,fieldF B c h x y=sFN r (k%2^(j+1)) φ x y)/\((ts=[]/\∀x y,sFN r (k%2^(j+1)) φ x y=φ x y)\/Yu R B (sFN r (k%2^(j+1)) φ) ts))
    .erw[?Y,xwb Z Z Z (B8,Z,(xq1 Z (LL (λX=>?_) (λX=>?_))))]
     .have X:((k/2^j:Nat):Int)%2=1:=by
       have:=A4f X;injection this
      have od:k/2^j%2=1:=by lia
      have tk:2^j+k%2^j<=k:=by
       erw[d=O5 k (2^j),(p:2^j*1<=2^j*(k/2^j))=N7 _ A3];lia
      erw[Bn ?_,?r9 s9 k9 ar E9,xw3 Z Z Z (xw2 Z Z (g,B,h,c,j,Z,C.fu.at',lh,ak,M0 bz,λl ae nl jl le=>?_)),(el:c+(l+1-c)+1=l+2)=by lia]
      erw[(g,B,h,c,l+1-c,by rw[el];rfl,C.fu,lh,by lia,by lia,λv G2 R al S U wn lv=>?_),O=C.fr al S U,cz=O.jz.sz fin,(r4,e4)=S.g0];have wf:∀x y,fieldF G2 (l+1) v x y=sFN r (k%2^j) φ x y:=λx y=>by
       have:=LV e4 S.ok (k:=l+1-c) (w:=v) A3 wn x y;rw[show c+(l+1-c)=l+1 by lia]at this;rw[this,IE C.fu.ok U lh,fh]
      have af:Al G2 v ((l+1+1:Nat):Int):=by rw[show l+1+1=c+(l+1-c)+1 by lia];erw[lv]
      erw[aw=an.trans U,ar (Bn ?_),?ct cw cp a0 cm,xwn Z Z O.jz.jw.hp (YU _ _ _ _ _) Z (xq1 Z (p,dx,mem,pr,g,G2,Κ,N,_,r,m,v,l,j,Z,O.jz,fin,cl,af,F3 ae A6,jl,bb j l G2 v od jl ae S.ok af wf,by lia,λD G3 H5 i5 fj b0 ac jr up=>?_)),ah=O.aft fj b0 ac,c0=ah.jz.sz fin,(cg:∀x y,fieldF G3 (l+1) v x y=sFN r (k%2^j) φ x y)=λx y=>by erw[[IE S.ok ac af],wf x y]]
      obtain⟨lr,rs⟩:=aEd ah.fu.ok ro re (ac.lev af) jr cg (λx y ad=>by
       rw[<-fh]at ad;have a4:(2:Int)^c+2^j<=2^l:=by exact_mod_cast le
       refine xa3 (A4h λz:¬(-(2^c)<=x/\x<2^c/\-(2^c)<=y/\y<2^c)=>ad (by unfold fieldF;rw[A2f z])) λh1 h2 h3 h4=>?_;have q:=nar h1 h2 a4;exact(q.1,q.2,nar h3 h4 a4))
      have rs:∀x y,fieldF G3 l D x y=sFN r (k%2^(j+1)) φ x y:=λx y=>by rw[rs,<-MD,md,od,Nat.mul_one,Nat.add_comm]
      erw[ay=FrJ.z fj _ _ (Fr.z (m:=m) al _ _ ao M.n0 M.n1) M.n0 M.n1,a0 (Bn ?_),?cu cx cq a1 cn,xq1 Z (.inl (Z,_,SqL.of ay),(xw3 Z Z Z (by show 3<=sizeLine;decide,λt nt=>?_))),ag=AM (o:=.tup [.int (v:Int),.int (j:Int),.int (D:Int)]) nt,(as:upd H5 t (.tup [.int (v:Int),.int (j:Int),.int (D:Int)]) t=n8 (.tup [.int (v:Int),.int (j:Int),.int (D:Int)]))=Af];generalize upd H5 t (.tup [.int (v:Int),.int (j:Int),.int (D:Int)])=H6 at ag as⊢;erw[cj=ah.same ag,aq=ag _ _ ay,(L,(xq2 Z Z (aq,by erw[[C0],Dz A3],?_))),ai=cj.putL (o:=.lst (ts.map V.ref++[.ref t])) aq M,(a3:upd H6 L (.lst (ts.map V.ref++[.ref t])) t=n8 (.tup [.int (v:Int),.int (j:Int),.int (D:Int)]))=by erw[[Aq (AC as aq A4)],as]]
      have av:FrZ g m H (upd H6 L (.lst (ts.map V.ref++[.ref t]))):=λb' o e n1 n2=>by
       erw[[Aq (Am e ax)],ag _ _ (((am.trans (Fr.z al)).trans (FrJ.z fj)) _ _ e n1 n2)]
      have az:upd H6 L (.lst (ts.map V.ref++[.ref t])) L=n8 (.lst ((ts++[t]).map V.ref)):=by rw[Af,D4];rfl
      generalize upd H6 L (.lst (ts.map V.ref++[.ref t]))=H7 at ai a3 av az⊢;erw[a1 (xw2 Z Z (g,G3,D,l,Z,ai.fu,lr,by lia,λnw G8 H8 aa ab W ce=>?_)),ck=ai.fr aa ab W,(r8,e8)=ab.g0,CP (IJ e8 ab.ok (C9 ae A6) (W.lev lr) ce) λm8 cr b6 a7 bd=>?_,(fa:∀x y,fieldF G8 l D x y=sFN r (k%2^(j+1)) φ x y)=λx y=>by erw[[IE ah.fu.ok W lr],rs x y]]
      have fe:∀x y,fieldF G8 m8 nw x y=sFN r (k%2^(j+1)) φ x y:=λx y=>by rw[bd,fa]
      erw[(cc:k%2^(j+1)<=k)=Nat.mod_le _ _,b7=Wf e8 ab.ok A3 a7 (λx y ad=>WM re nr cc (by erw[[-fe],ad])),bx=ai.keep (Fr.z aa) a3 (by erw[?xs z,!z]) (by erw[?xs z,!z]) (by erw[?xs z,!z]),bm=Fr.z (m:=m) aa _ _ az M.n0 M.n1,bi=(aw.trans ac).trans W,Y _ _ (G8,ts++[t],nw,m8,_,_,_,Z,av.trans (Fr.z aa),ck.mono ?_,bi,bm,by erw[[D3],(_:ts.length+1<=_),U3 tl A6],(b7,b6,a7,fe),.inr (t,v,j,D,l,by rw[List.getLast?_append];rfl,bx,ae,W.lev lr,fa)),[D3],(_:_<=b+270*(ts.length+1))]
      lia
     .erw[(X:¬((k/2^j:Nat):Int)%2=1)=λz=>X (A2g (A4e V.int z)),(ev:k/2^j%2=0)=by lia]
      have md:k%2^(j+1)=k%2^j:=by rw[md,ev,Nat.mul_zero,A2a]
      erw[Y _ _ (B,ts,h,c,u8,u9,i,Z,am,C,an,ao,V6 tl,by erw[[md],(ak,lh,th,fh)],by erw[[md],la])]
    .rintro σ' R ba;erw[xe5 ba λG2 cf h2 ca v8 a8=>Ci a8 λv9 i2 bc bh O U a9=>xa3 a9 λbl cd b8 b5=>?_,-a8 a9,-ba,<-bc,bw (Bn ?_),?r9 s9 k9 ar E9,xwb Z Z Z ((by decide,by decide),?_),ar ?_,(ed:((k/2^j:Nat):Int)/2=((k/2^(j+1):Nat):Int))=by rw[dv];lia]
     have ej:(j:Int)+1=((j+1:Nat):Int):=by lia
     erw[xwb Z Z Z (j+1,G2,cf,h2,ca,v8,v9,i2,?_,by lia,bh,O,U,bl,cd,b8,b5),(A4e (λu:Int=>[n8 (V.ref p),n8 (V.int f'),n8 (V.int (k:Int)),n8 (V.ref g.p),n8 (V.ref L),n8 (V.int h2),n8 (V.int u),n8 (V.int ((j:Int)+1)),v8,v9]) ed).trans (A4e (λv:Int=>[n8 (V.ref p),n8 (V.int f'),n8 (V.int (k:Int)),n8 (V.ref g.p),n8 (V.ref L),n8 (V.int h2),n8 (V.int ((k/2^(j+1):Nat):Int)),n8 (V.int v),v8,v9]) ej)]
  .erw[(X:¬((k/2^j:Nat):Int) > 0)=λz=>X (A2g z),Bj (aj (.inl A3))]
end
theorem ifT{b:Bool}{A B:Prop}(h:b=o0)(x:A):if b=o0 then A else B:=by rw[h];erw[Cy x]
theorem ifF{b:Bool}{A B:Prop}(h:b=o3)(x:B):if b=o0 then A else B:=by rw[h];erw[Bj x]
structure Fv(G:Gv)(f:Nat)(φ:D_):Prop where
ex:∃n:Nat,n<=40/\Al G f ((n+1:Nat):Int)/\Lq G n f/\∀x y,fieldF G n f x y=φ x y
theorem Fv.app{k f:Nat}(ok:GOk G)(a:AG G b k)(h:Fv G f φ):Fv b f φ:=by
 erw[CP h.ex λn d c e g=>(n,d,a.lev c,e.app a,λx y=>by erw[[IE ok a c],g x y])]
theorem Fv.to(h:Fv G f φ)(e:∀x y,φ x y=ψ x y):Fv G f ψ:=by
 erw[CP h.ex λn a b c d=>(n,a,b,c,λx y=>by rw[d,e])]
section
variable{P:N_}{w:Q_}{K:O_}{mg:C_}{n6:T_}{a:Ad}
inductive aAe(a:Ad)(vs:List V)(H:Hp)(Q:VK):Prop
|mk (p dx mem pr:R_) (g:GA) (G:Gv) (Κ:KTy) (φ:D_) (N b:Nat) (r:Aw) (m:MA) (f k:Nat) (_:vs=[.ref p,.int f,.int (k:Int)]) (_:ZS a H g G Κ N b p dx mem pr r m) (_:Ni Κ N) (_:ClK r Κ) (_:aEO Κ r φ k) (_:Fv G f φ) (_:QV φ k) (_:b+12000+10*N<7900000) (_:∀(d:Nat)(G':Gv)(H':Hp)(i:Nat),FrZ g m H H'->ZS a H' g G' Κ N (b+12048) p dx mem pr r m->AG G G' i->Fv G' d (sFN r k φ)->Q (.int d) H'):aAe a vs H Q
def aEF(a:Ad):Sp:=λvs H Q _=>aAe a vs H Q
theorem aE6(F:Fun K "jump" "jump" Vj f fd)(T:Top K mg a)(dH:Cal P w K mg n6 CX0 150 "road" Vm (ZW a))(aY:Cal P w K mg n6 CX0 4 "trimmed" Ew (Pe a)):AJ P w K mg n6 CX0 151 f fd Vm (aEF a):=by
 erw[F.ok Wy D_9 λaf A ac s H vs Q E hr h=>?_]
 obtain⟨p,dx,mem,pr,g,G,Κ,φ,N,b,r,m,f',k,rfl,zs,fin,cl,C,fv,nr,few,kn⟩:=h;erw[CP (id fv.ex) λn ab lf tr hf=>(_,(Ac (Ax 3 Wy.nd (AB dH hr (Aa pv0 (Aa pv1 (Aa pv2 Ab))))) (Ac (AS (Ay DR (AH Br Z T.j_ A5c (Aa pv3 Ab)) Ae (AF _)) (Ag (Av pv1)) Az) (Ag (Av (AB aY hr (Aa (AA pv0 Z) (Aa (Aj Ao (Aj Ar pv3 (Fo Dp Ae) R_9) Ae R_9) Ab))))))),?_),Bn ?_,?r1 s1 k1 O E1,xw3 Z Z Z (.mk p dx mem pr g G Κ φ N b r m f' n k Z zs fin cl C lf ab tr hf nr few (λL ts G1 H1 i1 u c o nL hL D=>?_)),O (Bn ?_),?r2 s2 k2 R E2,(_,Z,L,_,Z,.inl (SqL.of hL),Z,_,Z,?_)];rcases D with ⟨rfl,D⟩|⟨t,sq,e,v,l,W,ht,U,X,rs⟩
 .erw[ifT Z (_,Z,kn f' G1 H1 i1 u (c.mono A3) o ((fv.app zs.fu.ok o).to λx y=>(D x y).symm))]
 .have ne:ts≠[]:=λz=>by rw[z]at W;cases W
  erw[tl=Y7.mpr ne,ifF (A3a (λz=>by injection z with z;rw[C0]at z;lia)) (R ?_)];have li:atI (ts.map V.ref) (-1)=n8 (.ref t):=by
   unfold atI;have:ixN (ts.map V.ref).length (-1)=n8 (ts.length-1):=by
    erw[¬ixN,[C0,A2f A6,A2h A3]];congr 1;lia
   rw[this];show(ts.map V.ref)[ts.length-1]?=_;rw[C3,<-List.getLast?_eq_getElem?,W];rfl
  erw[xwf Z Z c.jz.jw.hp T.L4 T.M3 (EA _ _ _ _ _) (_,Z,1,Z,L,_,-1,.ref t,Z,Z,SqL.of hL,li,t,_,2,.int (v:Int),Z,Z,SqT.of ht,Ai (j:=2) Z,?_),ah=c.jz.sz fin,(g,G1,v,l,Z,c.fu,X,by lia,λnh G8 H8 q d i ad=>?_),ae=c.fr q d i,(r8,e8)=d.g0,CP (IJ e8 d.ok (C9 U A6) (i.lev X) ad) λm8 ag Y B I=>?_,M=o.trans i,(fe:∀x y,fieldF G8 m8 nh x y=sFN r k φ x y)=λx y=>by erw[[I,IE c.fu.ok i X],rs x y]]
  erw[aa=Wf e8 d.ok A3 B (λx y S=>WM zs.jz.jw.rest nr (C1 k) (by erw[[-fe],S])),kn nh G8 H8 _ (u.trans (Fr.z q)) (ae.mono (C1 _)) M (m8,aa,Y,B,fe)]
end
end J
namespace J
open PySem L2
noncomputable def EU(G:Gv):Nat->Nat->Int->Int->List (List Int)
|0,i,x,y=>if i=0 then []else [[y,x,(i:Int)]]
|n+1,i,x,y=>match G[i]? with
 |some q=>(List.range 4).flatMap λk=>EU G n (q.parts.getD k 0).toNat (x+((k%2:Nat):Int)*2^n) (y+((k/2:Nat):Int)*2^n)
 |none=>[]
noncomputable def Ik(G:Gv)(n:Nat)(f:L_)(x y:Int)(k:Nat):List (List Int):=EU G n (f k) (x+((k%2:Nat):Int)*2^n) (y+((k/2:Nat):Int)*2^n)
theorem Qq{α β:Type}{f g:α->List β}:∀{l:List α},(∀x∈l,f x=g x)->l.flatMap f=l.flatMap g
|[],_=>rfl
|x::l,h=>by rw[V8,V8,h x (D5 ..),Qq λy a=>h y (D6 _ a)]
theorem Js{G:Gv}{n i:Nat}{q:Sq}{a b c d:Nat}(h:IH G n i q a b c d)(x y:Int):EU G (n+1) i x y=(List.range 4).flatMap (Ik G n (f4 a b c d) x y):=by
 rw[show EU G (n+1) i x y=(match G[i]? with|some q=>(List.range 4).flatMap λk=>EU G n (q.parts.getD k 0).toNat (x+((k%2:Nat):Int)*2^n) (y+((k/2:Nat):Int)*2^n)|none=>[])from rfl,h.g];erw[Qq λk e=>?_];have:=(h.nat (by simpa using e)).1;erw[¬Ik,[D9,this]];rfl
theorem Eg(ok:GOk G):∀{n i:Nat}{x y:Int},Al G i (n:Int)->((EU G n i x y).length:Int)=Cg G n i
|0,i,x,y,_=>by
 show(((if i=0 then []else [[y,x,(i:Int)]]:List (List Int)).length:Nat):Int)=if i=0 then 0 else 1;split<;>rfl
|n+1,i,x,y,h=>by
 erw[xe5 (BC ok h) λq a b c d e=>?_,[Js e,FU e],(_:(((Ik G n (f4 a b c d) x y 0++(Ik G n (f4 a b c d) x y 1++(Ik G n (f4 a b c d) x y 2++(Ik G n (f4 a b c d) x y 3++[])))).length:Nat):Int)=Cg G n a+(Cg G n b+(Cg G n c+(Cg G n d+0))))]
 erw[[-(Eg ok (x:=x+((0%2:Nat):Int)*2^n) (y:=y+((0/2:Nat):Int)*2^n) e.hx),-(Eg ok (x:=x+((1%2:Nat):Int)*2^n) (y:=y+((1/2:Nat):Int)*2^n) e.hy),-(Eg ok (x:=x+((2%2:Nat):Int)*2^n) (y:=y+((2/2:Nat):Int)*2^n) e.hz),-(Eg ok (x:=x+((3%2:Nat):Int)*2^n) (y:=y+((3/2:Nat):Int)*2^n) e.hw)]];simp only[D3,T0,O6];rfl
theorem aGc(v h:Nat):(v:Int)=((v/h:Nat):Int)*(h:Int)+((v%h:Nat):Int):=by
 have:=O5 v h;rw[<-P5,<-O6,K9,this]
theorem FS(ok:GOk G):∀{n i:Nat}{x y:Int}{r:I_},Al G i (n:Int)->(r∈EU G n i x y ↔ ∃u v:Nat,u<2^n/\v<2^n/\cellF G n i u v≠0/\r=[y+v,x+u,(cellF G n i u v:Int)])
|0,i,x,y,r,_=>by
 show r∈(if i=0 then []else [[y,x,(i:Int)]]:List (List Int))↔_;constructor
 .erw[?h,(z:i=0)]
  .rw[A2h z]at h;cases h
  .rw[A2f z]at h;erw[(0,0,by decide,by decide,z,?_),[C5.mp h],(_:[y,x,(i:Int)]=[y+0,x+0,(i:Int)])]
   rw[V9,V9]
 .erw[?m,CG m λu v g j ne f=>?_,-m,<-f,g=V5.mp g,j=V5.mp j,<-g j,(ne:i≠0)=ne,[A2f ne],(_:[y+0,x+0,(i:Int)]∈_),[V9,V9],C5.mpr Z]
|n+1,i,x,y,r,h=>by
 erw[xe5 (BC ok h) λq a b c d l=>?_,t=FG n,[Js l,W3]];constructor
 .erw[?s,xea s λk p I=>?_,(p:k<4)=by simpa using p]
  erw[CG ((FS ok (l.nat p).2).mp I) λu v g j ne f=>?_,<-f,xa4 (GG p g j) λw C E F H=>?_,e=BJ l w C];rw[E,F,H]at e;erw[(_,_,w,C,by erw[[e],ne],?_),[e,-t,O6,P5,O6,P5,A2c ((k/2:Nat):Int),A2c ((k%2:Nat):Int),A1e,A1e,Int.add_comm (v:Int),Int.add_comm (u:Int)]]
 .erw[?o,CG o λu v g j ne f=>?_,-o,<-f];rw[BJ l g j]at ne⊢;erw[D=DD g j,(quad n u v,by simpa using D,(FS ok (l.nat D).2).mpr (u%2^n,v%2^n,N4 _ (Bp n),N4 _ (Bp n),ne,?_))];have K:quad n u v/2=v/2^n:=by
   have:=Fe g;unfold quad;generalize u/2^n=A at *
   generalize v/2^n=B at *
   lia
  have L:quad n u v%2=u/2^n:=by
   have:=Fe g;unfold quad;generalize u/2^n=A at *
   generalize v/2^n=B at *
   lia
  rw[K,L,<-t,A1e,A1e,<-aGc,<-aGc]
theorem Oo(ok:GOk G):∀{n i:Nat}{x y:Int},Al G i (n:Int)->(EU G n i x y).Nodup
|0,i,x,y,_=>by
 show(if i=0 then []else [[y,x,(i:Int)]]:List (List Int)).Nodup;split
 .erw[Q0]
 .simp
|n+1,i,x,y,h=>by
 erw[xe5 (BC ok h) λq a b c d o=>?_,[Js o,O2,List.pairwise_flatMap],(λk g=>?_,?_)]
 .have g:k<4:=by simpa using g
  erw[O2.mp (Oo ok (o.nat g).2)]
 .erw[List.Pairwise.imp_of_mem (λ{k j} g s I r F N t e=>I ?_) (O2.mp (List.nodup_range (n:=4))),<-e,(g:k<4)=by simpa using g]
  have s:j<4:=by simpa using s
  erw[CG ((FS ok (o.nat g).2).mp F) λu v D H ne E=>CG ((FS ok (o.nat s).2).mp t) λp O m w K l=>?_];rw[E]at l;injection l with f1 l
  injection l with f2 l
  rw[<-(FG n)]at f1 f2;have f:∀{A B h u p:Nat},A<2->B<2->u<h->p<h->(A:Int)*(h:Int)+u=(B:Int)*(h:Int)+p->A=B:=by
   erw[?A B h u p z C D m e,(z:A=0\/A=1)=by lia]
   have C:B=0\/B=1:=by lia
   rcases z with rfl|rfl<;>rcases C with rfl|rfl<;>simp at e<;>first|rfl|lia
  erw[L=f (A:=k/2) (B:=j/2) A3 A3 H w A3,M=f (A:=k%2) (B:=j%2) A3 A3 D m A3];lia
noncomputable def stC:List Cl->Int->Int->Nat
|[],_,_=>0
|c::cs,x,y=>if x=c.x/\y=c.y then c.s else stC cs x y
theorem Zo(a:G=G0++v)(ok:GOk G)(h:Te G cs n f):(∀c∈cs,c.s<8)->Lq G n f/\∀x y,fieldF G n f x y=stC cs x y:=by
 induction h with
 |nil =>
  intro _;erw[(.inl Z,λx y=>?_),¬fieldF];split
  .rename_i z;erw[FV a ok A6 (GM z.1 z.2.1) (GM z.2.2.1 z.2.2.2)]
  .rfl
 |@cons cs c n f r k w i m h l p o j =>
  erw[?b,(t,e)=j λc g=>b c (D6 _ g),CP (TW a ok (b c (D5 ..)) p) λu _ q A d=>?_];have:u=m:=by
   have:=A4d (q.uniq o);lia
  erw[<-this,(A,λx y=>?_),[d x y,e x y]];rfl
noncomputable def kvC(ds:List Cl):List (List Key×V):=ds.map λc=>#[kOf [c.x,c.y],V.int (c.s:Int)]
theorem MU:∀{ds:List Cl},(ds.map λc=>#[c.x,c.y]).Nodup->∀{c:Cl},c∈ds->BQ (kvC ds) (kOf [c.x,c.y])=n8 (.int (c.s:Int))
|d::ds,nd,c,a=>by
 rw[J0,N8]at nd;show BQ (#[kOf [d.x,d.y],V.int (d.s:Int)]::kvC ds) (kOf [c.x,c.y])=_;rcases C4.mp a with rfl|a
 .erw[BZ Z]
 .rw[BF λz=>?_]
  .erw[MU nd.2 a]
  .erw[z=LD z];injection z with z1 z
   injection z with z2 z
   erw[nd.1 (F0.mpr (c,a,by rw[z1,z2]))]
noncomputable def aFe(c:Cl):List Int:=[c.y,c.x,(c.s:Int)]
noncomputable def Mi(ds:List Cl)(c:Cl):List Cl:=if ds.any (λd=>decide (d.x=c.x/\d.y=c.y))=o0 then ds.map (λd=>if d.x=c.x/\d.y=c.y then c else d)else ds++[c]
theorem Ur{c d:Cl}:d∈Mi ds c↔d=c\/(d∈ds/\¬(d.x=c.x/\d.y=c.y)):=by
 erw[¬Mi,(h:ds.any (λd=>decide (d.x=c.x/\d.y=c.y))=o0)]
 .erw[[A2h h,F0],xea (K8.mp h) λz j i=>?_];constructor
  .erw[?b,xea b λe g f=>?_,-b,<-f,(q:e.x=c.x/\e.y=c.y)]
   .erw[[A2h q],.inl Z]
   .erw[[A2f q],.inr (g,q)]
  .rintro(rfl|⟨a,q⟩)
   .exact(z,j,A2h (A4f i))
   .exact(d,a,A2f q)
 .erw[[A2f h,J9,C5],(no:∀e∈ds,¬(e.x=c.x/\e.y=c.y))=λe g q=>h (K8.mpr (e,g,A2g q))];constructor
  .rintro(a|rfl)
   .erw[.inr (a,no d a)]
   .erw[.inl Z]
  .rintro(rfl|⟨a,_⟩)
   .erw[.inr Z]
   .erw[.inl a]
theorem Uu(ds:List Cl)(c:Cl):(Mi ds c).length<=ds.length+1:=by
 unfold Mi;split
 .erw[[C0],F5 _ _]
 .erw[[D3],C1 _]
theorem WN  {c:Cl} (h:(ds.map λc=>#[c.x,c.y]).Nodup):((Mi ds c).map λc=>#[c.x,c.y]).Nodup:=by
 erw[¬Mi,(q:ds.any (λd=>decide (d.x=c.x/\d.y=c.y))=o0)]
 .rw[A2h q,N5];have:((λc:Cl=>#[c.x,c.y]) ∘ λd=>if d.x=c.x/\d.y=c.y then c else d)=λd=>#[d.x,d.y]:=by
   funext d
   show#[(if d.x=c.x/\d.y=c.y then c else d).x,(if d.x=c.x/\d.y=c.y then c else d).y]=#[d.x,d.y]
   split
   .rename_i z;rw[z.1,z.2]
   .rfl
  erw[[this],h]
 .erw[[A2f q,D4,Q6],(h,by simp,λa i b g e=>q ?_),xea (F0.mp i) λd j f=>?_,<-f];rw[J0,Z2,C5]at g;rw[g]at e;injection e with e1 e2
  erw[K8.mpr (d,j,A2g (e1,e2))]
theorem aCd(ds:List Cl)(c:Cl):EL (kvC ds) (kOf [c.x,c.y]) (.int (c.s:Int))=kvC (Mi ds c):=by
 have a:∀d:Cl,(kOf [d.x,d.y]=kOf [c.x,c.y])↔(d.x=c.x/\d.y=c.y):=λd=>(λz=>by
  erw[z=LD z];injection z with z1 z
  injection z with z2 z
  exact(z1,z2),λz=>by rw[z.1,z.2])
 erw[¬EL Mi kvC,[List.any_map]];have:((λb:List Key×V=>decide (b.1=kOf [c.x,c.y])) ∘ λc:Cl=>#[kOf [c.x,c.y],V.int (c.s:Int)])=λd=>decide (d.x=c.x/\d.y=c.y):=by
  funext d
  erw[decide_eq_decide.mpr (a d)]
 rw[this];split
 .rw[N5,N5];congr 1
  funext d
  show(if kOf [d.x,d.y]=kOf [c.x,c.y]then#[kOf [d.x,d.y],V.int (c.s:Int)]else#[kOf [d.x,d.y],V.int (d.s:Int)])=#[kOf [(if d.x=c.x/\d.y=c.y then c else d).x,(if d.x=c.x/\d.y=c.y then c else d).y],V.int ((if d.x=c.x/\d.y=c.y then c else d).s:Int)]
  erw[(q:d.x=c.x/\d.y=c.y)]
  .rw[A2h ((a d).mpr q),A2h q,q.1,q.2]
  .rw[A2f λz=>q ((a d).mp z),A2f q]
 .rw[D4];rfl
structure Of(G:Gv)(n f:Nat)(ds:List Cl):Prop where
nd:(ds.map λc=>#[c.x,c.y]).Nodup
mem:∀c:Cl,c∈ds↔(1<=c.s/\fieldF G n f c.x c.y=c.s)
theorem Zb(ok:GOk G)(l:Al G f ((n+1:Nat):Int)):r∈EU G (n+1) f (-(2^n)) (-(2^n)) ↔ ∃x y:Int,fieldF G n f x y≠0/\r=[y,x,(fieldF G n f x y:Int)]:=by
 erw[c=FG n,e=Rg n,[FS ok l]];constructor
 .erw[?b,CG b λu v p q ne h=>?_,-b,<-h];have i:fieldF G n f (-(2^n)+u) (-(2^n)+v)=cellF G (n+1) f u v:=by
   erw[¬fieldF,[A2h (by lia,by lia,by lia,by lia)]];congr 1<;>lia
  erw[(-(2^n)+u,-(2^n)+v,by erw[[i],ne],by rw[i])]
 .erw[?d,BM d λx y ne g=>?_,-d,<-g,a=ne];unfold fieldF at a;split at a
  .rename_i z;erw[xa3 z λj k m o=>((x+2^n).toNat,(y+2^n).toNat,GM j k,GM m o,a,?_)]
   unfold fieldF;rw[A2h (j,k,m,o),show -(2^n)+(((y+2^n).toNat:Nat):Int)=y by lia,show -(2^n)+(((x+2^n).toNat:Nat):Int)=x by lia]
  .erw[absurd Z a]
theorem Of.perm(ok:GOk G)(l:Al G f ((n+1:Nat):Int))(h:Of G n f ds):(EU G (n+1) f (-(2^n)) (-(2^n))).Perm (ds.map aFe):=by
 erw[(List.perm_ext_iff_of_nodup (Oo ok l) ?_).mpr λr=>?_]
 .erw[[O2,Q5],k=h.nd];rw[O2,Q5]at k;erw[k.imp λ{c d} j e=>j ?_];injection e with e1 e
  injection e with e2 e
  rw[e1,e2]
 .rw[Zb ok l,F0];constructor
  .erw[?a,BM a λx y ne i=>?_,-a,<-i,((x,y,fieldF G n f x y),(h.mem _).mpr (Z5 ne,Z),Z)]
  .erw[?b,xea b λc o g=>?_,-b,<-g,(p,m)=(h.mem c).mp o,(c.x,c.y,by lia,by rw[m];rfl)]
theorem Of.cnt(ok:GOk G)(l:Al G f ((n+1:Nat):Int))(h:Of G n f ds):Cg G (n+1) f=(ds.length:Int):=by
 rw[<-Eg ok (x:=-(2^n)) (y:=-(2^n)) l,(h.perm ok l).length_eq,C0]
theorem aGd{D t:R_}{c:Cl}(e:H D=n8 (.dT (kvC ds)))(b:H t=n8 (.tup [.int c.x,.int c.y]))(a:ds.length<1000):Mt H D (.ref t) (.int (c.s:Int)) (upd H D (.dT (kvC (Mi ds c)))):=by
 erw[[-aCd],Mt.t (k:=kOf [c.x,c.y]) e b (Dz (by rw[show(kvC ds).length=ds.length from C0 _];erw[D8 a A6]))]
theorem TL:∀{l m:List (List Int)},l.Pairwise (λp q=>Dc q p=o3)->m.Pairwise (λp q=>Dc q p=o3)->l.Perm m->l=m
|[],m,_,_,h=>(List.nil_perm.mp h).symm
|a::l,[],_,_,h=>absurd h.length_eq B0
|a::l,b::m,h1,h2,h=>by
 rw[A1g]at h1 h2;have e:a=b:=by
  erw[c=h.mem_iff.mp (D5 ..),d=h.mem_iff.mpr (D5 ..)];rcases C4.mp c with z|z
  .erw[z]
  .rcases C4.mp d with y|y
   .erw[y.symm]
   .erw[Ut (h2.1 a z) (h1.1 b y)]
 erw[<-e,[TL h1.2 h2.2 h.cons_inv]]
structure Ms(ds:List Cl)(φ:D_):Prop where
nd:(ds.map λc=>#[c.x,c.y]).Nodup
mem:∀c:Cl,c∈ds↔(1<=c.s/\φ c.x c.y=c.s)
theorem aFk(h:Ms ds φ)(x y:Int):stC ds.reverse x y=φ x y:=by
 have g:∀{a:List Cl},(∀c∈a,1<=c.s/\φ c.x c.y=c.s)->(∃c∈a,c.x=x/\c.y=y)->stC a x y=φ x y:=by
  intro a;induction a with
  |nil=>intro _ j;erw[xea j λc b _=>?_,!b]
  |cons d a f =>
   intro e ⟨c,b,k,l⟩;erw[(_:(if x=d.x/\y=d.y then d.s else stC a x y)=_),(q:x=d.x/\y=d.y)]
   .erw[[A2h q,q.1,q.2],(e d (D5 ..)).2.symm]
   .erw[[A2f q],f (λc b=>e c (D6 _ b)) ?_];rcases C4.mp b with rfl|b
    .erw[absurd (k.symm,l.symm) q]
    .exact(c,b,k,l)
 have i:∀{a:List Cl},(∀c∈a,¬(c.x=x/\c.y=y))->stC a x y=0:=by
  intro a;induction a with
  |nil=>intro _;rfl
  |cons d a f =>
   erw[?e,(_:(if x=d.x/\y=d.y then d.s else stC a x y)=_),[A2f λq=>e d (D5 ..) (q.1.symm,q.2.symm)],f λc b=>e c (D6 _ b)]
 erw[(z:φ x y=0)]
 .erw[[z],i λc b q=>?_,(n,m)=(h.mem c).mp (K3.mp b)];rw[q.1,q.2,z]at m;lia
 .erw[g (λc b=>(h.mem c).mp (K3.mp b)) ((x,y,φ x y),K3.mpr ((h.mem _).mpr (by show 1<=φ x y;lia,Z)),Z,Z)]
seal L2.PA L2.PE L2.PS L2.PSs L2.PT L2.PW
noncomputable def aCG(q:It3):List Int:=q.y::q.x::q.r
theorem aCg{α:Type}{f:Nat->List α}{j:Nat}(a:j<=4):((List.range j).flatMap f).length<=((List.range 4).flatMap f).length:=by
 match j,a with
 |0,_=>simp
 |1,_=>simp[Q7]
 |2,_=>simp[Q7]
 |3,_=>simp[Q7]
 |4,_=>erw[C1 _]
section
variable{P:N_}{w:Q_}{K:O_}{mg:C_}{n6:T_}{a:Ad}
theorem aC2(F:Fun K "by_rows" "by_rows" Ny f fd)(T:Top K mg a):AJ P w K mg n6 CX0 1 f fd YY LN:=by
 erw[F.ok Vg (λvs H Q E h=>?_) (λg A d s H vs Q E l h=>?_)]
 .erw[xe4 h λt x y r b=>xa b λc _=>?_,-b,-h,<-c];rfl
 .erw[xe4 h λt x y r b=>xa2 b λc e k=>?_,-b,-h,<-c,(_,(Ag (Av (Dv (Aa (Aj Ao pv0 Ae R_9) (Aa (Aj Ao pv0 Ae R_9) Ab))))),?_),(_,Z,t,_,1,.int y,Z,Z,SqT.of e,Ai (j:=1) Z,_,Z,t,_,0,.int x,Z,Z,SqT.of e,Ai (j:=0) Z,S_2,λu i=>k u i)]
inductive aGC(a:Ad)(n:Nat)(vs:List V)(H:Hp)(Q:VK):Prop
|mk (g:GA) (G:Gv) (i l:Nat) (x y:Int) (L:R_) (it0:List It3) (_:vs=[.ref g.p,.int i,.int x,.int y,.ref L]) (_:AR a H g G) (_:Al G i (l:Int)) (_:l<n) (_:H L=n8 (.lst (it0.map λq=>V.ref q.a))) (_:L∉CN g) (_:(it0.length:Int)+Cg G l i<=5000) (_:∀(items:List It3)(H':Hp),Fx [L] H H'->H' L=n8 (.lst ((it0++items).map λq=>V.ref q.a))->(∀q∈items,H' q.a=n8 (.tup (q.ns.map V.int)))->items.map aCG=EU G l i x y->Q .non H'):aGC a n vs H Q
def aFh(a:Ad)(n:Nat):Sp:=λvs H Q _=>aGC a n vs H Q
theorem aD0(F:Fun K "gather_cells" "gather_cells" Gc f fd)(T:Top K mg a)(hm:mg "gather_cells" = n8 (.ref f))(Bi:CO K fd Dx [])(aI:BY P w K mg n6 CX0 4 a.L0 "state_of" Lj (Wo a)):∀n,AJ P w K mg n6 CX0 (n+5) f fd Dx (aFh a n)
|0=>by
 erw[F.ok Ct (λvs H Q E h=>?_) (λal A ad s H vs Q E hr h=>?_)]
 .erw[(g,G,i,l,x,y,L,C,rfl,_,_,h0,_)=h,absurd h0 (O1 _)]
 .erw[(g,G,i,l,x,y,L,C,rfl,_,_,h0,_)=h,absurd h0 (O1 _)]
|n+1=>by
 have aX:Cal P w K mg n6 CX0 (n+5) "gather_cells" Dx (aFh a n):=(f,fd,aD0 F T hm Bi aI n,hm,F.kp,Bi)
 erw[F.ok Ct (λvs H Q E h=>?_) (λal A ad s H vs Q E hr h=>?_)]
 .erw[(g,G,i,l,x,y,L,C,rfl,_)=h];rfl
 .erw[(g,G,i,l,x,y,L,C,rfl,c,hl,ln,hL,nL,cn,k)=h,xea (id hl) λq0 O l0=>?_,(ah:l<=48)=by have:=(c.ok.lev O).2;lia]
  erw[(r0,e0)=c.g0,(aq:∀z∈CN g,z∉[L])=λz hz m=>nL (by rw[C5]at m;erw[[-m],hz]),(_,(Ac (Ax 5 Ct.nd (Aj Ar (AA pv0 Z) pv1 R_9)) (Ac (AS (Ay DR pv1 (Aj Ar (AA pv0 Z) pv5 R_9) (AF _)) (Ag WG) Az) (Ac (AS (Ay DR pv5 Ae (AF _)) (Ac (Bq (Dm A4a A4b A4c BI pv4 (Bb (Aa pv2 (Aa pv3 (Aa (AD pv0 aI (rm hr) AQ (Aa pv1 Ab)) Ab))) Ab))) (Ag WG)) Az) (Ac (Ax 6 Ct.nd (AE NH Ae (AE Cs pv5 Ae))) (Ag (BN A3g Z (MJ o0 Z T.g_ (Aa (Aj Ar (AA pv0 Z) pv1 R_9) Ab)) (ND Z (CZ (AV (i:=7) Ct.nd Z O_9) (CZ (AV (i:=8) Ct.nd Z O_9) Ly))) (Ag (Bq (AB aX hr (Aa pv0 (Aa pv8 (AY AO pv2 (AE Ec pv6 (AE Bu pv7 Ae)) (AY AO pv3 (AE Ec pv6 (AE CU pv7 Ae)) (Aa pv4 Ab)))))))))))))),?_),(_,Z,g.p,_,g.dx,_,_,Z,c.at'.hp,T.J4,T.Q1,ET g,_,Z,g.lv,_,(i:Int),.int q0.lev,Z,Z,SqL.of c.at'.lv,Ai (by rw[C3,O];rfl),?_),(_,Z,_,Z,g.p,_,g.dx,_,_,Z,c.at'.hp,T.J4,T.Q2,Jp g,_,Z,g.br,_,q0.lev,.int (bareN l:Int),Z,Z,SqL.of c.br,by erw[[l0],Ai (aAE ah)],Z,_,Z,?_),(z:i=bareN l)]
  .erw[[A2g (by rw[z])],Cy (k [] H (Fx.refl _ _) (by erw[[T3],hL]) (λq B=>nomatch B) ?_),(List.eq_nil_iff_forall_not_mem.mpr λr hr=>?_).symm,CG ((FS c.ok hl).mp hr) λu v hu hv ne _=>?_];rw[z]at ne;erw[ne (FV e0 c.ok ah hu hv)]
  erw[[A3a (by intro e;injection e with e;erw[z A3])],Bj (_,Z,Z,_,Z,?_)];cases l with
  |zero =>
   erw[[A2g (by rw[l0];rfl)],(i0:i≠0)=λq=>z (by rw[q];rfl),d=Fj G 0 i,Cy (_,Z,.inl (Z,_,SqL.of hL),_,Z,_,Z,_,Z,g.p,g.dx,_,Z,c.at'.hp,PM g,_,Z,g,G,i,q0,Z,c.at',O,l0,S_3,λt ht=>?_),s1=AM (o:=.tup [.int x,.int y,.int i]) ht,aa=s1 _ _ hL,(L,_,.ref t,Z,Z,aa,Dz (by rw[C0];lia),k [(t,x,y,[(i:Int)])] _ ((As.fx s1).trans (aGk aa (λz=>z))) ?_ (λq B=>?_) ?_)]
   .erw[[D4],Af]
   .erw[[C5.mp B,Aq (AC Af aa A4)],Af]
   .show _=if i=0 then []else [[y,x,(i:Int)]];rw[A2f i0];rfl
  |succ m =>
   erw[[A3a (by erw[[l0],?z];injection z with z;lia)],xe5 (BC c.ok hl) λq d D I M W=>?_,eq=A3h (O.symm.trans W.g),<-eq,AK (GT c.at' W) λts t h3 et ht=>?_,ar=OO m,U=WH (l:=m) A3,Bj (_,Z,_,_,Z,Z,_,_,Z,Z,(by lia,by lia,by decide),?_)];rw[show(λ(i j:Int)=>V.int (i*2^j.toNat)) 1 (q0.lev-1)=V.int (2^m)from A4e V.int (by show(1:Int)*2^(q0.lev-1).toNat=2^m;rw[show(q0.lev-1).toNat=m by lia];lia)];erw[(_,Z,g.p,_,g.dx,_,_,Z,c.at'.hp,T.J4,T.L3,CC g,_,Z,g.pt,_,(i:Int),.ref t,Z,Z,SqL.of h3,Ai et,t,Z,(_,SqT.of ht),?_),whole=Js W x y,ai=Eg c.ok (x:=x) (y:=y) hl];rw[whole]at ai;erw[Lm (b:=o0) (xs:=[.int (d:Int),.int (D:Int),.int (I:Int),.int (M:Int)]) (λj σ S=>∃(items:List It3)(u7 u8:Option V),σ=[n8 (.ref g.p),n8 (.int i),n8 (.int x),n8 (.int y),n8 (.ref L),n8 (.int q0.lev),n8 (.int (2^m)),u7,u8]/\Fx [L] H S/\S L=n8 (.lst ((C++items).map λq=>V.ref q.a))/\(∀q∈items,S q.a=n8 (.tup (q.ns.map V.int)))/\items.map aCG=(List.range j).flatMap (Ik G m (f4 d D I M) x y)) ([],n9,n9,Z,Fx.refl _ _,(by erw[[T3],hL]),(λq B=>nomatch B),Z) (λj σ S _ z=>SqT.of (by erw[Dl z λ_ _ _ _ fx _=>?_,fx.tup ht])) ?_ ?_]
   .erw[?j v σ S T' N aj nT,Ch aj λitems u7 u8 X Y ab ac ei=>?_,-aj,<-X,hj=(C2.mp N).1];have am:v=.int (f4 d D I M j:Int):=by
     match j,hj,N with
     |0,_,N=>cases N;rfl
     |1,_,N=>cases N;rfl
     |2,_,N=>cases N;rfl
     |3,_,N=>cases N;rfl
    erw[<-am,s4=AM (o:=.tup [.int j,.int (f4 d D I M j)]) nT,Ql Af ?_];generalize upd S T' (.tup [.int j,.int (f4 d D I M j)])=H4 at s4⊢;erw[af=Y.trans (As.fx s4),lj=(W.nat hj).2];have next:(List.range (j+1)).flatMap (Ik G m (f4 d D I M) x y)=(List.range j).flatMap (Ik G m (f4 d D I M) x y)++EU G m (f4 d D I M j) (x+((j%2:Nat):Int)*2^m) (y+((j/2:Nat):Int)*2^m):=by
     rw[Q7,List.flatMap_append];simp only[V8,List.flatMap_nil,T3];rfl
    erw[bd=aCg (f:=Ik G m (f4 d D I M) x y) (j:=j+1) hj];rw[next,D3,<-ei,C0]at bd;erw[lc=Eg c.ok (x:=x+((j%2:Nat):Int)*2^m) (y:=y+((j/2:Nat):Int)*2^m) lj,(ex:x+2^m*((j:Int)%2)=x+((j%2:Nat):Int)*2^m)=by rw[A2c];rfl]
    have ey:y+2^m*((j:Int)/2)=y+((j/2:Nat):Int)*2^m:=by rw[A2c];rfl
    erw[(_,Z,_,Z,_,Z,_,Z,_,Z,_,_,Z,Z,B8,_,_,Z,Z,.inl (by lia,U),_,_,Z,Z,?_),(_,Z,_,Z,_,Z,_,_,Z,Z,(by decide,by decide),_,_,Z,Z,.inl (by lia,U),_,_,Z,Z,_,Z,?_),(g,G,f4 d D I M j,m,x+2^m*((j:Int)%2),y+2^m*((j:Int)/2),L,C++items,Z,(c.fx af aq),lj,by lia,s4 _ _ ab,nL,by rw[D3];lia,λR H5 ag an ao ae=>?_),(items++R,_,_,Z,af.trans ag,by erw[[-O3],an],λq B=>?_,?_)]
    .rcases J9.mp B with B|B
     .erw[ag.tup (s4 _ _ (ac q B))]
     .erw[ao q B]
    .rw[ex,ey]at ae;rw[next,D4,ei,ae]
   .erw[?σ S ak,Ch ak λitems u7 u8 X Y ab ac ei=>?_,-ak,<-X,k items S Y ab ac (by rw[ei,whole];rfl)]
theorem Wd {out:List It3} (h:QA out) (e:(out.map λq=>#[q.x,q.y]).Nodup):(out.map aCG).Pairwise (λp q=>Dc q p=o3):=by
 rw[O2,Q5]at e;erw[[Q5],(h.and e).imp λ{p q} ⟨b,f⟩=>?_,(_:(if q.y=p.y then(if q.x=p.x then Dc q.r p.r else decide (q.x<p.x))else decide (q.y<p.y))=o3),(b:(if q.y=p.y then(if q.x=p.x then Dc [] []else decide (q.x<p.x))else decide (q.y<p.y))=o3)=b,(c:q.y=p.y)]
 .rw[A2h c]at b⊢;erw[(d:q.x=p.x)]
  .erw[absurd (by rw[c,d]) f]
  .rw[A2f d]at b⊢;erw[b]
 .rw[A2f c]at b⊢;erw[b]
theorem Fx.fresh{H c d:Hp}(s:As H c)(f:Fx (x::l) c d)(n:H x=n9):Fx l H d:=λb o e z=>f b o (s _ _ e) λm=>by
 rcases C4.mp m with rfl|m
 .rw[n]at e;cases e
 .erw[z m]
noncomputable def frL(g:GA):List Addr:=[g.am,g.bx]
inductive Yq(a:Ad)(vs:List V)(H:Hp)(Q:VK):Prop
|mk (g:GA) (G:Gv) (f n:Nat) (_:vs=[.ref g.p,.int f]) (_:AR a H g G) (_:Al G f ((n+1:Nat):Int)) (_:n<48) (_:G.length<9000000) (_:Cg G (n+1) f<=4096) (_:∀(L:R_)(out:List It3)(H':Hp),Fx (frL g) H H'->AR a H' g G->H L=n9->H' L=n8 (.lst (out.map λq=>V.ref q.a))->(∀q∈out,H' q.a=n8 (.tup (q.ns.map V.int)))->(out.map aCG).Perm (EU G (n+1) f (-(2^n)) (-(2^n)))->QA out->Q (.ref L) H'):Yq a vs H Q
def aEC(a:Ad):Sp:=λvs H Q _=>Yq a vs H Q
theorem aE3(F:Fun K "cells_of" "cells_of" Mf f fd)(T:Top K mg a)(bK:BY P w K mg n6 CX0 51 a.L0 "living" Lj (aEG a))(aC:Cal P w K mg n6 CX0 4 "reach_of" Vu (IK a))(aX:Cal P w K mg n6 CX0 55 "gather_cells" Dx (aFh a 50))(cU:Cal P w K mg n6 CX0 1 "by_rows" YY LN):AJ P w K mg n6 CX0 56 f fd Vu (aEC a):=by
 erw[F.ok JJ D_9 λaa A O s H vs Q E C h=>?_]
 erw[(g,G,f,n,rfl,B,D,N,few,cn,k)=h,(_,(Ac (AS (Ay Ua (AD pv0 bK (rm C) AQ (Aa pv1 Ab)) (Co Z T.aAP) (AF _)) (Ag Bo) Az) (Ac (Ax 2 JJ.nd (AB aC C (Aa pv0 (Aa pv1 Ab)))) (Ac (Ax 3 JJ.nd (BO Ab)) (Ac (Bq (AB aX C (Aa pv0 (Aa pv1 (Aa (Fo Dp pv2) (Aa (Fo Dp pv2) (Aa pv3 Ab))))))) (Ag (Av (PB cU (rm C) Z T.aAR Z (Aa pv3 Ab)))))))),?_),(_,Z,g.p,g.dx,_,Z,B.at'.hp,YR g,_,Z,g,G,f,n+1,Z,B,D,few,λI M b=>?_),(_,_,Z,Z,_,Z,?_),[A3a (Int.not_lt_of_ge cn)],Bj (_,Z,_,Z,g,G,f,n,Z,b.at',D,N,S_0,λL hL=>?_),R=AM (o:=.lst []) hL,(r:upd I L (.lst []) L=n8 (.lst (([]:List It3).map λq=>V.ref q.a)))=Af];generalize upd I L (.lst [])=H2 at R r⊢;erw[i=b.same R];have W:L∉CN g:=λz=>by
  erw[(o,e)=b.nw.s L z];rw[hL]at e;cases e
 erw[Y=FrQ.fx M B,(_,Z,_,Z,_,Z,_,Z,_,Z,_,Z,_,Z,g,G,f,n+1,-(2^n),-(2^n),L,[],Z,i,D,by lia,r,W,(by show(0:Int)+_<=5000;lia),λitems H3 l t u U=>?_),(x3:Fx (frL g) I H3)=Fx.fresh R (l.mono B0) hL,j=i.fx l λz hz m=>W (by rw[C5]at m;erw[[-m],hz])];have li:items.length<=4096:=by
  have:=Eg B.ok (x:=-(2^n)) (y:=-(2^n)) D;rw[<-U,C0]at this;lia
 erw[(_,Z,L,items,Z,SqL.of (by rw[Y5]at t;erw[t]),C9 li A6,u,λv out H4 S c X ru=>?_),d=As.trans S (AM (o:=.lst (out.map λq=>V.ref q.a)) c),k v out _ ((Y.trans x3).trans (As.fx d)) (j.same d) ?_ Af (λq hq=>d _ _ (u q (X.mem_iff.mp hq))) (by erw[[-U],X.map _]) ru];cases e:H v with
 |none=>rfl
 |some o =>
  exfalso;erw[(m:v∈CN g)]
  .erw[(o2,e2)=j.nw.s v m];have:=S _ _ e2;rw[c]at this;cases this
  .have:=S _ _ ((Y.trans x3).get (λz=>m (by simp[frL,CN]at *;lia)) e);rw[c]at this;cases this
end
def FrO(d:R_)(H H':Hp):Prop:=∀b o,H b=n8 o->b≠d->H' b=n8 o
theorem FrO.fx{c:R_}(a:Rd H c (.dT kvs))(f:FrO c H d):Fx [c] H d:=λb o e z=>by
 erw[f b o e λy=>?_,<-y];rcases a with a|⟨g,a⟩<;>rw[e]at a<;>cases a<;>exact(z (C5.mpr Z))
theorem OI:∀(cs:List Cl)(x y:Int),(∃c∈cs,c.x=x/\c.y=y/\stC cs x y=c.s)\/((∀c∈cs,¬(c.x=x/\c.y=y))/\stC cs x y=0)
|[],_,_=>.inr ((λc g=>nomatch g),Z)
|c::cs,x,y=>by
 erw[(z:x=c.x/\y=c.y)]
 .erw[.inl (c,D5,z.1.symm,z.2.symm,A2h z)]
 .erw[(e:stC (c::cs) x y=stC cs x y)=A2f z,[e]];rcases OI cs x y with ⟨d,a,h⟩|⟨b,f⟩
  .erw[.inl (d,D6 _ a,h)]
  .erw[.inr (λd a=>?_,f)];rcases C4.mp a with rfl|a
   .erw[λq=>z (q.1.symm,q.2.symm)]
   .erw[b d a]
def ByC(es:List Cl):Prop:=es.Pairwise λp q=>Dc [q.y,q.x] [p.y,p.x]=o3
noncomputable def clI(q:It3):Cl:=(q.x,q.y,(q.r.headD 0).toNat)
theorem WC:∀{ts:H_}{ds:List Cl},Paired (Lu H) ts ds->∃items:List It3,(items.map λq=>V.ref q.a)=ts.map V.ref/\items.map clI=ds/\∀q∈items,Lu H q.a (clI q)/\H q.a=n8 (.tup (q.ns.map V.int))
|_,_,.nil=>([],Z,Z,λq b=>by cases b)
|t::ts,c::ds,.cons h pr=>by
 erw[AI (WC pr) λitems f g d=>?_,(e:clI (t,c.x,c.y,[(c.s:Int)])=c)=rfl,((t,c.x,c.y,[(c.s:Int)])::items,by rw[J0,f];rfl,by rw[J0,g,e],λq b=>?_)];rcases C4.mp b with rfl|b
 .exact(by erw[[e],h],h)
 .erw[d q b]
theorem PF:∀{out:List It3},(∀q∈out,Lu H q.a (clI q))->Paired (Lu H) (out.map (·.a)) (out.map clI)
|[],_=>.nil
|q::out,h=>.cons (h q (D5 ..)) (PF λq b=>h q (D6 _ b))
theorem Ms.perm(h:Ms ds φ)(p:a.Perm ds):Ms a φ:=((p.map _).nodup_iff.mpr h.nd,λc=>by rw[p.mem_iff];exact h.mem c)
structure Dd(ds:List Cl)(n:Nat)(x y:Int):Prop where
nd:(ds.map λc=>#[c.x,c.y]).Nodup
ok:∀c∈ds,(Zz c/\1<=c.s)/\x<=c.x/\c.x<x+5/\y<=c.y/\c.y<y+4
len:ds.length<=n
theorem Dd.nil(x y:Int):Dd [] 0 x y:=(by simp,(λc a=>by cases a),C1 _)
theorem Dd.put{c:Cl}(h:Dd ds n x y)(f:Zz c)(b:1<=c.s)(e:x<=c.x/\c.x<x+5/\y<=c.y/\c.y<y+4):Dd (Mi ds c) (n+1) x y:=by
 erw[(WN h.nd,λd a=>?_,C9 (Uu ds c) (R3 h.len))];rcases Ur.mp a with rfl|⟨a,_⟩
 .exact((f,b),e)
 .erw[h.ok d a]
theorem aFf {ds:List Cl} (b:(ds.map λc=>#[c.x,c.y]).Nodup) {c d:Cl} (g:c∈ds) (h:d∈ds) (e:d.x=c.x) (f:d.y=c.y):d.s=c.s:=by
 erw[a=MU b h];rw[e,f,(MU b g)]at a;injection a with a
 injection a with a
 lia
theorem Dd.dk{ds:List Cl}{n:Nat}{x y:Int}(h:Dd ds n x y):Ms ds (stC ds):=by
 erw[(h.nd,λc=>(λf=>((h.ok c f).1.2,?_),λ⟨j,i⟩=>?_))]
 .rcases OI ds c.x c.y with ⟨d,g,a,b,e⟩|⟨no,_⟩
  .erw[[e],aFf h.nd f g a b]
  .erw[absurd (Z,Z) (no c f)]
 .rcases OI ds c.x c.y with ⟨d,g,a,b,e⟩|⟨_,e⟩
  .rw[e]at i;have:d=c:=by
    erw[!d,!c,!a,!b,!i];rfl
   erw[this▸g]
  .lia
section
variable{P:N_}{w:Q_}{K:O_}{mg:C_}{n6:T_}{a:Ad}
theorem aFJ(F:Fun K "_law_by_rows" "_law_by_rows" Gg f fd)(T:Top K mg a):AJ P w K mg n6 CX0 1 f fd Qb LN:=by
 erw[F.ok Ox (λvs H Q E h=>?_) (λg A d s H vs Q E i h=>?_)]
 .erw[xe4 h λt x y r b=>xa b λc _=>?_,-b,-h,<-c];rfl
 .erw[xe4 h λt x y r b=>xa2 b λc e k=>?_,-b,-h,<-c,(_,(Ag (Av (Dv (Aa (Aj Ao pv0 Ae R_9) (Aa (Aj Ao pv0 Ae R_9) Ab))))),(xwi Z Z Z (SqT.of e) (Ai (j:=1) Z) (xwi Z Z Z (SqT.of e) (Ai (j:=0) Z) (S_2,k))))]
inductive aDb(vs:List V)(H:Hp)(Q:VK):Prop
|mk (D:R_) (ds:List Cl) (_:vs=[.ref D]) (_:Rd H D (.dT (kvC ds))) (_:(ds.map λc=>#[c.x,c.y]).Nodup) (_:ds.length<=5000) (_:∀(o:Obj)(L:R_)(ts:H_)(cs:List Cl)(H':Hp),FrO D H H'->H' D=n8 (.frz o (.dT (kvC ds)))->H L=n9->H' L=n8 (.lst (ts.map V.ref))->Paired (Lu H') ts cs->cs.Perm ds->ByC cs->Q (.ref L) H'):aDb vs H Q
def Wr:Sp:=λvs H Q _=>aDb vs H Q
theorem aFB(F:Fun K "_law_listed" "_law_listed" Ig f fd)(T:Top K mg a)(bV:Cal P w K mg n6 CX0 1 "_law_by_rows" Qb LN):AJ P w K mg n6 CX0 5 f fd Fc Wr:=by
 erw[F.ok FX D_9 λad A ab s H vs Q E hr h=>?_]
 erw[(D,ds,rfl,rd,nd,ae,k)=h,(_,(Ac (Ax 1 FX.nd (BO Ab)) (Ac (BN A3g Z (Pz pv0) (AV (i:=2) FX.nd Z O_9) (Ag (Bq (Dm A4a A4b A4c BI pv1 (Bb (Aa (Aj Ao pv2 Ae R_9) (Aa (Aj Ao pv2 Ae R_9) (Aa (Sh (Ei hr) pv0 pv2 R_9) Ab))) Ab))))) (Ag (Av (PB bV (rm hr) Z T.aAR Z (Aa pv1 Ab)))))),?_)];have X:∀{x:R_},H x=n9->x≠D:=λ{x} n z=>by
  rw[z]at n;rcases rd with y|⟨o,y⟩
  .rw[y]at n;cases n
  .rw[y]at n;cases n
 erw[(S_0,λS p=>?_),Y=AM (o:=.lst []) p,(h1:upd H S (.lst []) S=n8 (.lst []))=Af];generalize upd H S (.lst [])=H1 at Y h1⊢;have ac:Rd H1 D (.dT (kvC ds)):=by
  rcases rd with y|⟨o,y⟩
  .erw[.inl (Y _ _ y)]
  .erw[.inr (o,Y _ _ y)]
 erw[xq1 Z (D,kvC ds,Z,ac,λo H2 m fr2=>?_),(g:FrO D H H2)=λb u e n=>fr2 _ _ (Y _ _ e) n,(aa:(kvC ds).length=ds.length)=C0 _,aEf (kvs:=kvC ds) (λj σ d=>∃(ts:H_)(u2:Option V),σ=[n8 (.ref D),n8 (.ref S),u2]/\(∀b u,H2 b=n8 u->b≠S->d b=n8 u)/\d S=n8 (.lst (ts.map V.ref))/\Paired (Lu d) ts (ds.take j)) ([],n9,Z,λb u e _=>e,(fr2 _ _ h1 (X p)),.nil) (λj σ d _ z=>by erw[AK z λ_ _ _ z _=>?_,z _ _ m (A3f (X p))]) ?_ ?_]
 .erw[?j kb kv v σ d ev hb R,CG R λts u2 l r W O=>?_,-R,<-l];obtain⟨c,B,ee⟩:∃c,ds[j]?=n8 c/\#[kOf [c.x,c.y],V.int (c.s:Int)]=#[kv,v]:=by
   unfold kvC at ev;rw[C3]at ev;erw[xea (D7.mp ev) λc B e=>(c,B,e)]
  erw[!ee,(jl:j<ds.length)=(C2.mp B).1,(G:d kb=n8 (.tup [.int c.x,.int c.y]))=hb,lt=A3e O];rw[J8]at lt;erw[xq1 Z (.inl (Z,_,SqL.of W),(xwi Z Z Z (SqT.of G) (Ai (j:=0) Z) (xwi Z Z Z (SqT.of G) (Ai (j:=1) Z) (xw2 Z Z (D,.int (c.s:Int),Z,?_,?_)))))]
  .erw[.inr (kvC ds,kOf [c.x,c.y],kb,.inr (o,(r _ _ m (A3f (X p)))),Z,hb,(MU nd (D0 B)).symm)]
  erw[(S_3,λt ht=>?_),s6=AM (o:=.tup [.int c.x,.int c.y,.int (c.s:Int)]) ht,(M:Lu (upd d t (.tup [.int c.x,.int c.y,.int (c.s:Int)])) t c)=Af];generalize upd d t (.tup [.int c.x,.int c.y,.int (c.s:Int)])=H6 at s6 M⊢;erw[h6=s6 _ _ W,(S,(xq2 Z Z (h6,by erw[[C0],Dz A3],?_))),(tp:∀{b:R_}{ys:List V},H6 b=n8 (.tup ys)->upd H6 S (.lst (ts.map V.ref++[.ref t])) b=n8 (.tup ys))=λ{b ys} e=>by erw[[Aq (AC e h6 A4)],e]]
  erw[(ts++[t],(xq1 Z (λb u e n=>?_,by rw[Af,D4];rfl,?_)))]
  .erw[[Aq n],s6 _ _ (r _ _ e n)]
  .erw[[F9,B,R7],A5d (PairedM.imp (λb c z=>tp (s6 _ _ z)) O) (tp M)]
 .erw[?σ d U,CG U λts u2 l r W O=>?_,-U,<-l];rw[aa,J7]at O;erw[AI (WC O) λitems e1 e2 I=>?_,(li:items.length=ds.length)=by rw[<-e2,C0]]
  erw[xq1 Z (S,items,Z,by erw[[e1],SqL.of W],by lia,λq hq=>(I q hq).2,λL out H4 kp N pm ru=>?_),C=kp _ _ (r _ _ m (A3f (X p))),s5=AM (o:=.lst (out.map λq=>V.ref q.a)) N,(h5:upd H4 L (.lst (out.map λq=>V.ref q.a)) L=n8 (.lst ((out.map (·.a)).map V.ref)))=by rw[Af,N5];rfl]
  generalize upd H4 L (.lst (out.map λq=>V.ref q.a))=H5 at s5 h5⊢;erw[k o L (out.map (·.a)) (out.map clI) H5 (λb u e n=>s5 _ _ (kp _ _ (r _ _ (g _ _ e n) (Am e p)))) (s5 _ _ C) ?_ h5 (PF λq hq=>s5 _ _ (kp _ _ (I q (pm.mem_iff.mp hq)).1)) (by erw[[-e2],pm.map _]) (Q5.mpr ru)];cases e:H L with
  |none=>rfl
  |some u =>
   erw[(z:L=D)]
   .rw[z,C]at N;cases N
   .rw[kp _ _ (r _ _ (g _ _ e z) (Am e p))]at N;cases N
inductive aDS(K:O_)(vs:List V)(H:Hp)(Q:VK):Prop
|mk (l:R_) (ns:I_) (fi x y:Int) (m:Nat) (_:vs=[.ref l,.int fi,.int (m:Int),.int x,.int y]) (_:SqL K H l (ns.map V.int)) (_:0<=fi) (_:m<=100) (_:-(2^38)<=x) (_:x<2^38) (_:-(2^38)<=y) (_:y<2^38) (_:∀(D:R_)(ds:List Cl)(H':Hp),As H H'->H D=n9->H' D=n8 (.dT (kvC ds))->Dd ds m x y->Q (.ref D) H'):aDS K vs H Q
def aEA(K:O_):Sp:=λvs H Q _=>aDS K vs H Q
theorem aEz(F:Fun K "_law_cells_by" "_law_cells_by" FA f fd)(T:Top K mg a)(R:Cal P w K mg n6 CX0 1 "_law_at" Za (aDH K))(aB:Cal P w K mg n6 CX0 1 "_law_mix" EQ Rc)(aA:Cal P w K mg n6 CX0 1 "_law_state_by" OB ZU):AJ P w K mg n6 CX0 2 f fd FD (aEA K):=by
 erw[F.ok CL D_9 λaa A Y s H vs Q E r h=>?_]
 erw[(l,ns,S,x,y,m,rfl,W,f0,m1,x1,x2,y1,y2,k)=h,(_,(Ac (Ax 5 CL.nd (Dv (AY Bu (AB R r (Aa pv0 (AN Ab))) Ae (AY Bu (AB R r (Aa pv0 (AN Ab))) Ae Ab)))) (Ac (Ax 6 CL.nd MK) (Ac (BN A3g Z (Ce Z T.V_ (Aa pv2 Ab)) (AV (i:=7) CL.nd Z O_9) (Ac (Ax 8 CL.nd (AB aB r (Aa (AB R r (Aa pv0 (AY AO pv1 pv7 Ab))) (AY AO Ae pv7 Ab)))) (Ag (FN (Ei r) pv6 (Dv (AY AO pv3 (AE Bu pv8 Ae) (AY AO pv4 (AE Bu (AE CU pv8 Ae) Ae) Ab))) (AH (RC Z) Z T.aAM A6h (AN (Aa (AB aA r (Aa pv5 (AY CU pv8 Ae Ab))) Ab))) Z)))) (Ag (Av pv6))))),?_),xq1 Z (l,ns,0,Z,W,by decide,(xq2 Z Z (B6,(xq1 Z (l,ns,1,Z,W,by decide,?_))))),(_,_,Z,Z,B6,S_2,λu X=>?_),N=AM (o:=.tup [.int (atN ns 0%8),.int (atN ns 1%8)]) X,(hM:Wb (upd H u (.tup [.int (atN ns 0%8),.int (atN ns 1%8)])) u)=(_,_,Af,(T4 _ A6,R9 _ A6),(T4 _ A6,R9 _ A6))]
 show(YD _ _) _ _ (upd H u (.tup [.int (atN ns 0%8),.int (atN ns 1%8)]));generalize upd H u (.tup [.int (atN ns 0%8),.int (atN ns 1%8)])=O at N hM⊢;erw[λD U=>?_,s1=AM (o:=.dT []) U,(z:upd O D (.dT []) D=n8 (.dT (kvC [])))=Af];generalize upd O D (.dT [])=H1 at s1 z⊢;erw[xw2 Z Z (by lia,by lia,?_),[M9],BX (n:=m) (λj σ q=>∃(ds:List Cl)(u7 u8:Option V),σ=[n8 (.ref l),n8 (.int S),n8 (.int (m:Int)),n8 (.int x),n8 (.int y),n8 (.ref u),n8 (.ref D),u7,u8]/\As O q/\q D=n8 (.dT (kvC ds))/\Dd ds j x y) ([],n9,n9,Z,s1,z,Dd.nil x y) ?_ ?_]
 .erw[?j σ q hj I,Fk I λds u7 u8 g C p M=>?_,-I,<-g,xq1 Z (xq1 Z (xq1 Z (xq2 Z Z (l,ns,_,Z,(N.trans C).seq W,by show 0<=S+(0+(j:Int));lia,?_))))];generalize atN ns (S+(0+(j:Int)))=c;erw[xq1 Z (xq2 Z Z (c,_,Z,by lia,by lia,λv v0=>?_)),AK (hM.same C) λmx my hm hx hy=>xw2 Z Z (xq2 Z Z ((by decide,by decide),u,mx,my,v/20,Z,hm,hx,hy,λd hd=>(_,_,Z,?_))),(st,B)=L6 (show 0<=(if d > 1 then d else 1) by split<;>lia)];have G:1<=st/\st<8:=by
   erw[(d0,d8)=hd];split at B<;>lia
  rw[show V.int (if d > 1 then d else 1)=V.int (st:Int)from A4e V.int B];erw[xw3 Z Z Z (xq2 Z Z ((by show(0:Int)<5;decide),(xq2 Z Z (xw2 Z Z (xq2 Z Z ((by decide,by decide),(xq2 Z Z (B4,(xq2 Z Z (S_2,λt ht=>?_)))))))))),s6=AM (o:=.tup [.int (x+v%5),.int (y+v/5%4)]) ht,(h6:upd q t (.tup [.int (x+v%5),.int (y+v/5%4)]) t=n8 (.tup [.int (x+v%5),.int (y+v/5%4)]))=Af,dl=M.len,(D,(xq1 Z (aGd (c:=(x+v%5,y+v/5%4,st)) (s6 _ _ p) h6 A3,?_))),(Mi ds (x+v%5,y+v/5%4,st),_,_,Z,λb o e=>?_,Af,M.put (?_,G.2) G.1 ?_)]
  .erw[[Aq (Am e U)],s6 _ _ (C _ _ e)]
  .unfold JG;dsimp only;erw[(by lia,by lia,by lia,by lia)]
  .dsimp only;erw[(by lia,by lia,by lia,by lia)]
 .erw[?σ q L,Fk L λds u7 u8 g C p M=>?_,-L,<-g,xq1 Z (k D ds q (N.trans C) (As.noneN N U) p M)]
theorem aEc(C:AR a H g G)(hL:H L=n8 (.lst (ts.map V.ref)))(ap:Ap g L)(E:Paired (Lu H) ts cs)(A:cs.Perm ds)(dk:Ms ds φ)(ok:∀c∈ds,Zz c)(l:ds.length<=40)(few:G.length<6000000)(k:∀(r:Nat)(o:Gv)(t:Hp),Fr g H t->AR a t g o->AG G o 16000->Fv o r φ->Q (.int r) t):aAc a [.ref g.p,.ref L] H Q:=by
 erw[I=A.length_eq,(m:∀c∈cs,Zz c)=λc z=>ok c (A.mem_iff.mp z),(g,G,L,ts,cs,Z,C,hL,ap.1,ap.2.1,E,m,by lia,λB D q x f b h j i e=>?_),(F,y)=b.g0,(n,d)=Zo y b.ok e (λc z=>(m c (K3.mp z)).s),k B q x f b (h.mono A3) (D,j,i,n,λu v=>by rw[d,aFk (dk.perm A)])]
end
end J
namespace J
open PySem L2
theorem Jv.new(c:AL a H g G)(nl:H m.l=n9)(nk:H m.kc=n9)(j:b m.tp=n8 (.tup [.ref m.l,.ref m.kc]))(k:b m.l=n8 (.lst (m.ds.map V.ref)))(o:b m.kc=n8 (.dT []))(q:∀d∈m.ds,b d=n8 (.dK []))(s:m.ds.length=47)(t:m.ds.Nodup):Jv b g G N M r m:=by
 erw[xea c.pt λts i _=>(j,k,(A3f (Am c.lv nl),A3f (Am i nl),A3f (Am c.nm nk)),s,t,λe d h=>([],q d (D0 h),L7 _,λp u=>(nomatch u),λn v f=>by cases f),([],o,L7 _,λks v f=>by cases f))]
noncomputable def zL(g:GA)(m:MA):List Addr:=[g.lv,g.pt,g.nm,g.am,g.bx,m.kc]++m.ds
section
variable{a:Ad}{H H':Hp}{g:GA}{G G':Gv}{Κ:KTy}{N b i:Nat}{p dx mem pr:R_}{r:Aw}{m:MA}
theorem FrZ.fx(h:ZS a H g G Κ N b p dx mem pr r m)(f:FrZ g m H H'):Fx (zL g m) H H':=λx o e z=>by
 erw[xea h.fu.at'.pt λts q _=>xea h.fu.am λt d _=>xea h.fu.bx λu k _=>xea h.jz.jw.me.ce λv l _=>f x o e (λy=>?_) (λy=>?_)]
 .erw[c=z (J9.mpr (.inl y)),-z];simp only[C4,F7,A5a]at y;rcases y with y|y|y|y|y|y<;>subst y
  .rw[h.fu.at'.lv]at e;erw[!e,c]
  .rw[q]at e;erw[!e,c]
  .rw[h.fu.at'.nm]at e;erw[!e,c]
  .rw[d]at e;erw[!e,c]
  .rw[k]at e;erw[!e,c]
  .rw[l]at e;erw[!e,c]
 .erw[c=z (J9.mpr (.inr y)),(j,s)=J6 y,xea (h.jz.jw.me.sq j x s) λw n _=>?_];rw[n]at e;erw[!e,c]
theorem aGp{c:Hp}(v:AR a c g G)(ro:EC r)(rz:CF r 0 BE=0)(V:BL a c pr (AZ r) r)(W:c p=n9)(P:c dx=n9)(S:dx≠p)(few:G.length<=b)(k:∀(n:Hp)(mem:R_)(m:MA),As c n->ZS a n g G Κ N b p dx mem pr r m->(∀y∈m.l::m.kc::m.ds,c y=n9)->n mem=n8 (.dK (mK [#[AZ r,m]]))->c mem=n9->mem∉m.ds->Q .non n):Td a [.ref p,.ref g.p,.ref pr] (upd (upd c dx (.own p)) p (.ins a.J5 dx [])) Q:=by
 have nq:upd c dx (.own p) p=n9:=by erw[[Aq (A3f S)],W]
 erw[(U:As c (upd (upd c dx (.own p)) p (.ins a.J5 dx [])))=(show As c _ from An P).trans (An nq),(p,dx,g.p,pr,AZ r,r,Z,Af,V.same U,λn mem m F D K q f L hl B A O R T=>?_),(s:As c n)=λb o e=>F b o (U b o e) (Am e W),(t:∀{y:R_},upd (upd c dx (.own p)) p (.ins a.J5 dx []) y=n9->c y=n9)=λ{y} e=>As.noneN U e,d=v.same s,(hw:Jv n g G N (b+10*N) r m)=(Jv.new (N:=0) (M:=0) v.at' (t f.2.1) (t f.2.2.1) L hl B A O R).mono (L7 _) (L7 _),(h:∀u∈m.ds,c u=n9)=λu I=>t (f.2.2.2 u I),(aa,X)=v.g0];have E:Bs G:=λj hj=>by
  have:=MX j hj;erw[[X],LE this]
 erw[xea v.am λka w _=>xea v.bx λkb x _=>k n mem m s (((d.at',d.ok,E,d.br,(d.n1,d.n2),K,V.same s,ro,rz,hw),λ_=>0,λe u Y=>([],A u (D0 Y),Z,Q0,λk hk=>nomatch hk),C9 few (F5 _ _),[],B,L7 _),d,λz=>?_,λz=>?_) (λy C=>?_) q (t D) (λz=>T mem z Z)]
 .rw[h _ z]at w;cases w
 .rw[h _ z]at x;cases x
 .rcases C4.mp C with rfl|C
  .erw[t f.2.1]
  .rcases C4.mp C with rfl|C
   .erw[t f.2.2.1]
   .erw[h y C]
end
theorem Qp{lo:Int}{n:Nat}{g:TG}{h:TS}{D:II}{σ:St}{H:Hp}(c:Nat->St->Hp->Prop)(j:c 0 σ H)
  (l:∀i (e:II),(∀{σ H},c (i+1) σ H->e.nx σ H)->∀σ H,i<n->c i σ H->g (.int (lo+i)) σ H fun a d=>h e a d) (k:∀σ H,c n σ H->D.nx σ H) :
  ∃W:Nat->Nat->St->Hp->Prop,(∃m,W 0 m σ H)/\∀i m σ H,W i m σ H ->
   ((Itr lo n).stop i H/\D.nx σ H)\/((Itr lo n).go i H/\∃N:St->Hp->Prop,(∀σ' b,N σ' b->∃f,f<m/\W (i+1) f σ' b)/\∀x b,(Itr lo n).yld i H x b->g x σ b fun a d=>h {D with nx:=N,ct:=N,bk:=D.nx} a d) :=
 BX c j (λi σ H hi p=>l i _ (λz=>z) σ H hi p) k
theorem aGj       (h:∀(a:TS) R,(∀{D:II}{σ:St}{H:Hp},b D σ H->a D σ H)->(∀{J c},aFq (λ_ _ R=>R J c) g a D σ H->R J c)->I σ H R):aFq I g b D σ H:=h b _ (λz=>z) λz=>z
theorem gnm(h:Q (σ.set i (n8 v)) H):JB i v σ H Q:=h
theorem aCE{D t:R_}(b:Rd H D (.dT a))(e:H t=n8 (.tup ys)):t≠D:=λz=>by
 rw[z]at e;rcases b with h|⟨o,h⟩<;>rw[h]at e<;>cases e
theorem aD6(b:Rd H D (.dT a))(n:H x=n9):x≠D:=λz=>by
 rw[z]at n;rcases b with h|⟨o,h⟩<;>rw[h]at n<;>cases n
theorem aD8(c:Rd H D (.dT b))(s:As H a):Rd a D (.dT b):=by
 rcases c with h|⟨o,h⟩
 .erw[.inl (s _ _ h)]
 .erw[.inr (o,s _ _ h)]
noncomputable def Uc:List (Int×Int):=[#[-1,-1],#[0,-1],#[1,-1],#[-1,0],#[1,0],#[-1,1],#[0,1],#[1,1]]
def UU(H:Hp)(t:R_)(p:Int×Int):Prop:=H t=n8 (.tup [.int p.1,.int p.2])
noncomputable def arF(φ:D_)(x y:Int):List Int:=Uc.map λo=>((φ (x+o.1) (y+o.2):Nat):Int)
theorem aHO(a:EC r)(φ:D_)(x y:Int):CF r (φ x y:Nat) (arF φ x y)=((sF r φ x y:Nat):Int):=by
 erw[¬sF,[S8 (aAv a (O4 _) _)],¬arF Uc];simp only[J0,Z2,V9];rfl
theorem aBF{D t:R_}(a:H D=n8 (.frz o (.dT (kvC cs))))(b:H t=n8 (.tup [.int x,.int y])):GL H D (.ref t) (BQ (kvC cs) (kOf [x,y])):=.inr (kvC cs,kOf [x,y],t,.inr (o,a),Z,b,Z)
theorem ZJ:∀{e:List Cl},(∀c∈e,¬(c.x=x/\c.y=y))->BQ (kvC e) (kOf [x,y])=n9
|[],_=>rfl
|c::e,h=>by
 erw[(_:BQ (#[kOf [c.x,c.y],V.int (c.s:Int)]::kvC e) (kOf [x,y])=n9),[BF (λz=>h c (D5 ..) (by erw[z=z];have:=LD z;injection this with a b;injection b with b;exact(a,b)))],ZJ λd f=>h d (D6 _ f)]
theorem ZK(dk:Ms ds φ):(BQ (kvC ds) (kOf [x,y])).getD (V.int 0)=V.int (φ x y:Nat):=by
 erw[(z:φ x y=0)]
 .rw[ZJ λc d ⟨a,b⟩=>by
   have:=(dk.mem c).mp d;rw[a,b,z]at this;lia,z]
  rfl
 .rw[MU dk.nd (c:=(x,y,φ x y)) ((dk.mem _).mpr (Z5 z,rfl))];rfl
structure UV(ψ:D_)(P:Int->Int->Prop)(ds:List Cl)(n:Nat):Prop where
nd:(ds.map λc=>#[c.x,c.y]).Nodup
mem:∀c:Cl,c∈ds↔((1<=c.s/\ψ c.x c.y=c.s)/\P c.x c.y)
len:ds.length<=n
theorem UV.imp(h:UV ψ P ds n)(i:∀u v,ψ u v≠0->(P u v↔a u v))(l:n<=b):UV ψ a ds b:=(h.nd,λc=>by
 rw[h.mem];exact and_congr_right λ⟨e,d⟩=>i _ _ (by rw[d];lia),C9 h.len l)
theorem UV.put(h:UV ψ P ds n)(e:ψ x y=s)(p:1<=s)(j:¬P x y)(i:∀u v,f u v↔(P u v\/(u=x/\v=y))):UV ψ f (Mi ds (x,y,s)) (n+1):=by
 erw[(WN h.nd,λc=>?_,C9 (Uu ds _) (R3 h.len)),[Ur,h.mem,i]];dsimp only;constructor
 .rintro(rfl|⟨⟨d,a⟩,_⟩)
  .exact((p,e),.inr (Z,Z))
  .exact(d,.inl a)
 .rintro⟨⟨d,a⟩,b|⟨b,g⟩⟩
  .erw[.inr (((d,a),b),λ⟨k,l⟩=>j (by erw[[-k,-l],b]))]
  .erw[.inl ?_,(m,o,cs)=c,!b,!g,!e.symm.trans a];rfl
noncomputable def coC(k:Nat)(c:Cl):Int:=if k=0 then c.x else c.y
theorem aA1{K:O_}{fin:List V->Hp->Prop}(k:Nat)(w:k<2)(kk:Int)(r:kk=(k:Int))(u:H D=n8 (.frz o (.dT (kvC ds))))(B:ds.length<=1000)(q:∀(m:Hp),As H m->fin ((ds.map (coC k)).map V.int) m):Ft 1 [] (JB 0) aFu (tOp (JO K) (DX 0) (tC (V.int kk))) (Itd D o (kvC ds)) σ H fin:=by
 erw[(h:(kvC ds).length=ds.length)=C0 _,aEU (kvs:=kvC ds) (λj a b=>As H b/\a=((ds.take j).map (coC k)).map V.int) (As.refl H,Z) (λj a b _ z=>by erw[(d,_)=z,d _ _ u]) ?_ ?_]
 .erw[?j n A v a b g t i,(d,rfl)=i];obtain⟨c,f,p⟩:∃c,ds[j]?=n8 c/\#[kOf [c.x,c.y],V.int (c.s:Int)]=#[A,v]:=by
   unfold kvC at g;rw[C3]at g;erw[xea (D7.mp g) λc f e=>(c,f,e)]
  erw[!p,jl=(C2.mp f).1,(([n8 (.ref n)],Z,Z),by erw[[C0,C0,J8],Dz A3],EF ?_),(_,Z,n,_,(k:Int),.int (coC k c),Z,by rw[r],SqT.of t,Ai ?_,d,?_)]
  .match k,w with
   |0,_=>rfl
   |1,_=>rfl
  .rw[F9,f,R7,D4,D4];rfl
 .erw[?a b l,(d,rfl)=l,[h,J7],q b d]
seal L2.PA L2.PE L2.PS L2.PSs L2.PT L2.PW
theorem ptsn{c:List (Int×Int)}{t:R_}(f:As b H)(d:Paired (UU H) us c)(n:H t=n9)(e:upd H t (.tup [.int x,.int y])=a):As b a/\Paired (UU a) (us++[t]) (c++[#[x,y]]):=by
 erw[<-e,s=AM (o:=.tup [.int x,.int y]) n,(As.trans f s,A5d (PairedM.imp (λ_ _ z=>s _ _ z) d) Af)]
theorem aGU      (h:ts σ H λxs a=>xs.length<=sizeLine/\∀p,a p=n9->D.nx (σ.set i (n8 (.ref p))) (upd a p (.lst xs))):aDK (aDM ts) (JB i) D σ H:=h
theorem ng1{q:VK}(z:q (.int (-1)) H):tUn (rU λi=>V.int (-i)) (tC (V.int 1)) σ H q:=(_,Z,z)
theorem tc0{q:VK}(z:q v H):tC v σ H q:=z
theorem pt2        {c:List (Int×Int)} (e:∀{H:Hp}{q:VK},q (.int x) H->X σ H q) (f:∀{H:Hp}{q:VK},q (.int y) H->Y σ H q) (h:As b H) (g:Paired (UU H) us c) (k:∀(t:R_)(a:Hp),As b a->Paired (UU a) (us++[t]) (c++[#[x,y]])->R σ a λxs d=>Q (.ref t::xs) d):CH (YC (CH X (CH Y Pd))) R σ H Q :=
 e (f (S_2,λt n=>by
  obtain⟨s,p⟩:=ptsn h g n Z;exact k t _ s p))
def InW(ψ:D_)(X Y:Int)(W D:Nat):Prop:=∀u v,ψ u v≠0->X<=u/\u<X+W/\Y<=v/\v<Y+D
section
variable{P:N_}{w:Q_}{K:O_}{mg:C_}{n6:T_}{a:Ad}
inductive aDn(vs:List V)(H:Hp)(Q:VK):Prop
|mk (H0:Hp) (q D:R_) (r:Aw) (ds:List Cl) (φ:D_) (X Y:Int) (W B:Nat) (_:vs=[.ref q,.ref D]) (_:LU H0 q r) (_:EC r) (_:CF r 0 BE=0) (_:As H0 H) (_:H0 D=n9) (_:Rd H D (.dT (kvC ds))) (_:Ms ds φ) (_:InW φ X Y W B) (_:ds.length<=500) (_:W<=19/\B<=18) (_:-(2^41)<=X/\X<=2^41/\-(2^41)<=Y/\Y<=2^41) (_:∀(D':R_)(ds':List Cl)(H':Hp),FrO D H H'->Rd H' D (.dT (kvC ds))->H D'=n9->H' D'=n8 (.dT (kvC ds'))->Ms ds' (sF r φ)->ds'.length<=500->Q (.ref D') H'):aDn vs H Q
def ZT:Sp:=λvs H Q _=>aDn vs H Q
theorem aFN(F:Fun K "_law_step" "_law_step" Ef f fd)(T:Top K mg a)(aR:Cal P w K mg n6 CX0 3 "_law_becomes" Gw aFg):AJ P w K mg n6 CX0 4 f fd Lb ZT:=by
 erw[F.ok Cb D_9 λct A cn s H vs Q E hr h=>?_]
 erw[(H0,q,D,r,ds,φ,X,Y,W,B,rfl,hq,ro,re,s0,n0,rd,dk,cj,ld,(cr,cq),(X1,X2,Y1,Y2),k)=h,(_,(Ac (Ax 2 Cb.nd (BO (Bb (Aa (Fo Dp Ae) (Aa (Fo Dp Ae) Ab)) (Bb (AN (Aa (Fo Dp Ae) Ab)) (Bb (AN (Aa (Fo Dp Ae) Ab)) (Bb (Aa (Fo Dp Ae) (AN Ab)) (Bb (AN (AN Ab)) (Bb (Aa (Fo Dp Ae) (AN Ab)) (Bb (AN (AN Ab)) (Bb (AN (AN Ab)) Ab)))))))))) (Ac (Ax 3 Cb.nd MK) (Ac (AS (Ay DR (AH Zw rfl T.j_ A5c (Aa pv1 Ab)) Ae (AF _)) (Ag (Av pv3)) Az) (Ac (CB (i:=4) rfl Cb.nd rfl rfl (Bd.of (So:=Ah Ef) (No:=GV) (N:=["_law_place"]) (k:=1) (cs:=[]) rfl rfl A0) (Pz pv1) (λ_ _ _=>(AW (i:=0) A0 rfl rfl)) (λ_ _ _=>Be) (λ_ _ _=>(Aj (GX (K:=K) rfl) pv0 Ae R_9))) (Ac (CB (i:=5) rfl Cb.nd rfl rfl (Bd.of (So:=Ah Ef) (No:=GV) (N:=["_law_place"]) (k:=1) (cs:=[]) rfl rfl A0) (Pz pv1) (λ_ _ _=>(AW (i:=0) A0 rfl rfl)) (λ_ _ _=>Be) (λ_ _ _=>(Aj (GX (K:=K) rfl) pv0 Ae R_9))) (Ac (BN A3g rfl (Lx rfl T.V_ (AY Cs (AH (LH rfl) rfl T.aAN A6g (Aa pv5 Ab)) Ae (AY AO (AH (LI rfl) rfl T.aAM A6h (Aa pv5 Ab)) Ae Ab))) (AV (i:=6) Cb.nd rfl (Or.inr rfl)) (Ag (BN A3g rfl (Lx rfl T.V_ (AY Cs (AH (LH rfl) rfl T.aAN A6g (Aa pv4 Ab)) Ae (AY AO (AH (LI rfl) rfl T.aAM A6h (Aa pv4 Ab)) Ae Ab))) (AV (i:=7) Cb.nd rfl (Or.inr rfl)) (Ac (CB (i:=8) rfl Cb.nd rfl rfl (Bd.of (So:=Ah Ef) (No:=GV) (N:=["_law_dx","_law_dy","_law_states","_law_y","_law_x"]) (k:=2) (cs:=[1,6,7]) rfl rfl A0) (BH pv2) (λ_ _ _=>(TX (i:=0) (j:=1) rfl A0 rfl rfl rfl rfl)) (λ_ _ _=>Be) (λ_ _ _=>(TZ (Ei hr) pv2 (Dv (AY AO pv4 pv0 (AY AO pv3 pv1 Ab))) Ae (rfl,rfl,rfl,rfl)))) (Ac (Ax 9 Cb.nd (AB aR hr (Aa pv0 (Aa (TZ (Ei hr) pv1 (Dv (Aa pv7 (Aa pv6 Ab))) Ae (rfl,rfl,rfl,rfl)) (Aa pv8 Ab))))) (Ag (AS (Ay IB (pv 9) Ae (AF _)) (Ag (FN (Ei hr) pv3 (Dv (Aa pv7 (Aa pv6 Ab))) (pv 9) rfl)) Az))))))) (Ag (Av pv3)))))))),?_),Bn ?_,?r1 s1 k1 b7 E1,aGU ?_];obtain⟨bp,bd⟩:As H H/\Paired (UU H) [] []:=(As.refl H,.nil)
 erw[pt2 (x:=-1) (y:=-1) ng1 ng1 bp bd λt1 H1 bq be=>?_,-bp bd,pt2 (x:=0) (y:=-1) tc0 ng1 bq be λt2 H2 br bf=>?_,-bq be,pt2 (x:=1) (y:=-1) tc0 ng1 br bf λt3 H3 bt bg=>?_,-br bf,pt2 (x:=-1) (y:=0) ng1 tc0 bt bg λt4 H4 bu bh=>?_,-bt bg,pt2 (x:=1) (y:=0) tc0 tc0 bu bh λt5 H5 bv bi=>?_,-bu bh,pt2 (x:=-1) (y:=1) ng1 tc0 bv bi λt6 H6 bw bj=>?_,-bv bi,pt2 (x:=0) (y:=1) tc0 tc0 bw bj λt7 H7 bx bl=>?_,-bw bj,pt2 (x:=1) (y:=1) tc0 tc0 bx bl λt8 H8 au bm=>?_,-bx bl,((by show 8<=sizeLine;decide),λO hO=>?_),sO=As.trans au (AM (o:=.lst [.ref t1,.ref t2,.ref t3,.ref t4,.ref t5,.ref t6,.ref t7,.ref t8]) hO),(eO:upd H8 O (.lst [.ref t1,.ref t2,.ref t3,.ref t4,.ref t5,.ref t6,.ref t7,.ref t8]) O=n8 (.lst (([t1,t2,t3,t4,t5,t6,t7,t8]:H_).map V.ref)))=Af,(M:Paired (UU (upd H8 O (.lst [.ref t1,.ref t2,.ref t3,.ref t4,.ref t5,.ref t6,.ref t7,.ref t8]))) [t1,t2,t3,t4,t5,t6,t7,t8] Uc)=PairedM.imp (λ_ _ z=>AM hO _ _ z) bm,(nO:H O=n9)=As.noneOf au hO,(_:E1.nx _ (upd H8 O (.lst [.ref t1,.ref t2,.ref t3,.ref t4,.ref t5,.ref t6,.ref t7,.ref t8])))];generalize upd H8 O (.lst [.ref t1,.ref t2,.ref t3,.ref t4,.ref t5,.ref t6,.ref t7,.ref t8])=H9 at sO eO M⊢;generalize ([t1,t2,t3,t4,t5,t6,t7,t8]:H_)=us at eO M;erw[-au bm hO,b7 (Bn ?_),?r2 s2 k2 b8 E2,λZ hZ=>?_,(nZ:H Z=n9)=As.noneOf sO hZ,(cm:Z≠O)=A3f (Am eO hZ),sZ=AM (o:=.dT []) hZ,(eZ:upd H9 Z (.dT []) Z=n8 (.dT (kvC [])))=Af];generalize upd H9 Z (.dT [])=aa at sZ eZ⊢;erw[(sm:As H aa)=As.trans sO sZ,ag=sZ _ _ eO,(ah:Paired (UU aa) us Uc)=PairedM.imp (λ_ _ z=>sZ _ _ z) M,L=aD8 rd sm,(nD:∀{x:R_},H x=n9->x≠D)=λn=>aD6 rd n,-sO eO M sZ hZ,b8 (Bn ?_),?r3 s3 k3 b9 E3,xq1 rfl (D,kvC ds,rfl,L,rfl,(xq1 rfl ?_)),(ck:(kvC ds).length=ds.length)=C0 _];have ao:∀u v,sF r φ u v≠0->∃c∈ds,u-1<=c.x/\c.x<=u+1/\v-1<=c.y/\c.y<=v+1:=λu v z=>by
  erw[Ci (JN (k:=1) re (show sFN r 1 φ u v≠0 from z)) λx' y' S h2 h3 h4 nz=>((x',y',φ x' y'),(dk.mem _).mpr (Z5 nz,rfl),by erw[(_:u-1<=x'),S],by erw[(_:x'<=u+1),h2],by erw[(_:v-1<=y'),h3],by erw[(_:y'<=v+1),h4])]
 erw[(z0:ds=[])]
 .erw[[A2g (by rw[z0];rfl)],Cy (xq1 rfl (k Z [] aa (λb u e _=>sm _ _ e) L nZ eZ (by simp,λc=>((λz=>nomatch z),λ⟨S,h2⟩=>?_)) A6)),xea (ao c.x c.y A3) λc' a9 _=>?_];rw[z0]at a9;cases a9
 erw[[A3a (by intro z;injection z with z;rw[ck]at z;erw[z0 (List.length_eq_zero_iff.mp A3)])],Bj (b9 ?_),Bn ?_,?r4 s4 k4 ca E4,xq1 rfl (D,kvC ds,rfl,L,λo1 G1 am a2=>aA1 0 A6 0 rfl am (C9 ld A6) λJ1 aq L1 a5=>?_)];generalize e5:upd J1 L1 _=av;erw[(U,hX)=alc a5 e5,(af:∀b u,aa b=n8 u->b≠D->av b=n8 u)=λb u e n=>U _ _ (aq _ _ (a2 b u e n)),ab=U _ _ (aq _ _ am),-e5 a5 U aq a2 am,ca (Bn ?_),?r5 U k5 cb E5,xq1 rfl (D,kvC ds,rfl,.inr (_,ab),λo2 G2 an fr2=>aA1 1 A6 1 rfl an (C9 ld A6) λJ2 ar L2 a6=>?_)];generalize e6:upd J2 L2 _=G;erw[(s6,hY)=alc a6 e6,(C:∀b u,av b=n8 u->b≠D->G b=n8 u)=λb u e n=>s6 _ _ (ar _ _ (fr2 b u e n)),(I:∀b u,aa b=n8 u->b≠D->G b=n8 u)=λb u e n=>C _ _ (af b u e n) n,hD=s6 _ _ (ar _ _ an)];replace hX:=C _ _ hX (AC hX ab A4);erw[(a3:∀b u,H b=n8 u->b≠D->G b=n8 u)=λb u e n=>I _ _ (sm _ _ e) n,hZ=I _ _ eZ (nD nZ),hO=I _ _ ag (nD nO),(M:Paired (UU G) us Uc)=PairedM.imp (λt p z=>I _ _ z (aCE L z)) ah,-e6 a6 s6 ar fr2 an C af I ab eZ ag ah L sm,cb (Bn ?_),?r6 s6 k6 cc E6,aGj ?_,?cv R1 ch b5,(ne:∀i,ds.map (coC i)≠[])=λi z=>z0 (Q8.mp z)];have ae:∀c∈ds,(X<=c.x/\c.x<X+W)/\Y<=c.y/\c.y<Y+B:=λc hc=>by
  erw[h=(dk.mem c).mp hc,xa3 (cj c.x c.y A3) λS h2 h3 h4=>((S,h2),h3,h4)]
 erw[xq1 rfl (L2,ds.map (coC 1),rfl,SqL.of hY,ne 1,λy0 a0 b0=>(xq2 rfl rfl (xq1 rfl (L2,ds.map (coC 1),rfl,SqL.of hY,ne 1,λy1 a1 b1=>?_)))),xea (F0.mp a0) λc0 m0 l=>?_,<-l,xea (F0.mp a1) λc1 m1 l=>?_,<-l,(i0:Y<=coC 1 c0/\coC 1 c0<Y+B)=(ae c0 m0).2,(i1:Y<=coC 1 c1/\coC 1 c1<Y+B)=(ae c1 m1).2];obtain⟨y0,ay⟩:∃y,coC 1 c0-1=y:=(_,rfl)
 obtain⟨y1,az⟩:∃y,coC 1 c1+2=y:=(_,rfl)
 have yb:∀u v,sF r φ u v≠0->y0<=v/\v<y1:=λu v z=>by
  erw[CP (ao u v z) λc hc _ _ d=>xa d λh3 h4=>?_,(g0:coC 1 c0<=c.y)=b0 _ (F0.mpr (c,hc,rfl)),(g1:c.y<=coC 1 c1)=b1 _ (F0.mpr (c,hc,rfl)),(by lia,by lia)]
 erw[xq2 rfl rfl (y0,y1,by rw[<-ay,<-az],(by lia,by lia,by lia,by lia),?_)];generalize en:(y1-y0).toNat=n;have cu:n<=20:=by lia
 erw[-b0 b1 a0 a1 m0 m1 i0 i1 ay az,b5 (Qp (n:=n) (λj σ H3=>∃(R:List Cl)(u6 u7 u8 u9:Option V),σ=[n8 (.ref q),n8 (.ref D),n8 (.ref O),n8 (.ref Z),n8 (.ref L1),n8 (.ref L2),u6,u7,u8,u9]/\(∀b u,G b=n8 u->b≠Z->H3 b=n8 u)/\H3 Z=n8 (.dT (kvC R))/\UV (sF r φ) (λ_ v=>v<y0+j) R (21*j)) ([],n9,n9,n9,n9,rfl,λb u e _=>e,hZ,(by simp,λc=>((λz=>nomatch z),λ⟨⟨S,h2⟩,h3⟩=>?_),C1 _)) ?_ ?_)]
 .have:=(yb c.x c.y A3).1;lia
 .erw[?j D1 cf σ H3 hj bz,xe5 bz λR u6 u7 u8 u9 d=>xa3 d λaj f3 ak pt=>?_,-d,-bz,<-aj,bb=AC hX hZ A4];generalize ey:y0+(j:Int)=y;erw[gnm (ch (aGj ?_)),?cw R2 ci b6,xq1 rfl (L1,ds.map (coC 0),rfl,SqL.of (f3 _ _ hX bb),ne 0,λx0 a0 b0=>(xq2 rfl rfl (xq1 rfl (L1,ds.map (coC 0),rfl,SqL.of (f3 _ _ hX bb),ne 0,λx1 a1 b1=>?_)))),xea (F0.mp a0) λc0 m0 l=>?_,<-l,xea (F0.mp a1) λc1 m1 l=>?_,<-l,(i0:X<=coC 0 c0/\coC 0 c0<X+W)=(ae c0 m0).1,(i1:X<=coC 0 c1/\coC 0 c1<X+W)=(ae c1 m1).1];obtain⟨x0,aw⟩:∃y,coC 0 c0-1=y:=(_,rfl)
  obtain⟨x1,ax⟩:∃y,coC 0 c1+2=y:=(_,rfl)
  have xb:∀u v,sF r φ u v≠0->x0<=u/\u<x1:=λu v z=>by
   erw[CP (ao u v z) λc hc h3 h4 _=>?_,(g0:coC 0 c0<=c.x)=b0 _ (F0.mpr (c,hc,rfl)),(g1:c.x<=coC 0 c1)=b1 _ (F0.mpr (c,hc,rfl)),(by lia,by lia)]
  erw[xq2 rfl rfl (x0,x1,by rw[<-aw,<-ax],(by lia,by lia,by lia,by lia),?_)];generalize em:(x1-x0).toNat=m;have cl:m<=21:=by lia
  have x2:-(2^42)<=x0:=by lia
  erw[-b0 b1 a0 a1 m0 m1 i0 i1 aw ax,b6 (Qp (n:=m) (λi σ H4=>∃(R:List Cl)(u7 u8 u9:Option V),σ=[n8 (.ref q),n8 (.ref D),n8 (.ref O),n8 (.ref Z),n8 (.ref L1),n8 (.ref L2),n8 (.int y),u7,u8,u9]/\(∀b u,G b=n8 u->b≠Z->H4 b=n8 u)/\H4 Z=n8 (.dT (kvC R))/\UV (sF r φ) (λu v=>v<y\/(v=y/\u<x0+i)) R (21*j+i)) (R,u7,u8,u9,rfl,f3,ak,pt.imp (λu v z=>?_) (C1 _)) ?_ ?_)]
  .have:=(xb u v z).1;constructor
   .erw[λh=>.inl A3]
   .rintro(h|⟨S,h2⟩)<;>lia
  .erw[?i D2 ba σ H4 hi b2,xe4 b2 λR u7 u8 u9 d=>xa3 d λai f4 al pt=>?_,-d,-b2,<-ai];generalize ex:x0+(i:Int)=x at pt⊢;erw[a7=f4 _ _ hO (A3f cm),ad=f4 _ _ hD (A3f (nD nZ)),gnm (ci (Bn ?_)),?r7 s7 k7 cd E7,xq1 rfl (O,rfl,(_,SqL.of a7),?_),Ca (xs:=us.map V.ref) (λi ac H5=>As H4 H5/\ac=((Uc.take i).map λo=>((φ (x+o.1) (y+o.2):Nat):Int)).map V.int) (As.refl _,rfl) (λi ac H5 _ z=>SqL.of (z.1 _ _ a7)) ?_ ?_]
   .erw[?i v ac H5 ev co,(U,rfl)=co];rw[C3]at ev;erw[xea (D7.mp ev) λt et l=>?_,<-l,xea (PairedM.getL M et) λoo eo ho=>?_,i8=(C2.mp eo).1,cg=f4 _ _ ho (AC (show G t=n8 _ from ho) hZ A4),Ql (U _ _ cg) (([n8 (.int oo.1),n8 (.int oo.2)],rfl,rfl),by erw[[C0,C0,J8],Dz (by have:Uc.length=8:=rfl;lia)],EF (xq1 rfl (D,rfl,.inr (_,.inr (o2,U _ _ ad)),(xw2 rfl rfl (xq2 rfl rfl (xw2 rfl rfl (xq2 rfl rfl (S_2,λt6 h6=>?_))))))))];generalize e6:upd H5 t6 _=H6;erw[(s6,g6)=alc h6 e6,(_,aBF (s6 _ _ (U _ _ ad)) g6,?_),[ZK dk],(As.trans U s6,?_),[F9,eo],(_:_=((Uc.take i++[oo]).map _).map _),[D4,D4]];rfl
   .erw[?ac H5 cp A1 a4,(U,rfl)=cp,[C0,A3e M,J7]];generalize e6:upd H5 A1 _=H6;erw[(s6,hA)=alc a4 e6];replace hA:H6 A1=n8 (.lst ((arF φ x y).map V.int)):=hA;erw[as=As.trans U s6,-e6 a4 U s6,cd (Bn ?_),?r8 s8 k8 ce E8,xw2 rfl rfl (D,rfl,.inr (_,.inr (o2,as _ _ ad)),(xw2 rfl rfl (S_2,λt7 h7=>?_)))];generalize e7:upd H6 t7 _=H7;erw[(s7,g7)=alc h7 e7,s47=As.trans as s7,(_,aBF (s47 _ _ ad) g7,?_),[ZK dk],(bc:As H0 H7)=λb u e=>s47 _ _ (f4 _ _ (a3 _ _ (s0 _ _ e) (Am e n0)) (Am (s0 _ _ e) nZ)),xq1 rfl (q,A1,r,_,arF φ x y,rfl,hq.same bc,ro,s7 _ _ hA,rfl,λH8 bo=>?_),[aHO ro]];obtain⟨v,ev⟩:∃v,sF r φ x y=v:=(_,rfl)
    erw[[ev],bn=As.trans s47 bo,a8=bn _ _ al,(f8:∀b u,G b=n8 u->b≠Z->H8 b=n8 u)=λb u e n=>bn _ _ (f4 b u e n),-e7 h7 s7 g7 s47 bo hA as bc,ce (xq1 rfl (rfl,(xq1 rfl ?_))),(nz:v=0)]
    .erw[Ot (by rw[nz];rfl) (ba (R,_,_,_,rfl,f8,a8,pt.imp (λu w z=>?_) A3)),(h:u=x)]
     .erw[(h':w=y)]
      .rw[h,h',ev,nz]at z;erw[absurd rfl z]
      .erw[or_congr_right (and_congr_right λe=>absurd e h')]
     .erw[or_congr_right (and_congr_right λ_=>(λg=>by lia,λg=>by lia))]
    .erw[[A3a (by intro e;injection e with e;lia)],Cy (xw2 rfl rfl (xw2 rfl rfl (S_2,λt9 h9=>?_)))];generalize e9:upd H8 t9 _=H9;erw[(s9,g9)=alc h9 e9,(Z,(xq1 rfl (aGd (c:=(x,y,v)) (s9 _ _ a8) g9 (by have:=pt.len;lia),ba (Mi R (x,y,v),_,_,_,rfl,λb u e n=>?_,Af,pt.put ev A3 A3 λu w=>?_))))]
     .erw[[Aq n],s9 _ _ (f8 b u e n)]
     .constructor
      .rintro(h|⟨S,h2⟩)
       .erw[.inl (.inl h)]
       .erw[(e:u=x)]
        .erw[.inr (e,S)]
        .erw[.inl (.inr (S,by lia))]
      .rintro((h|⟨S,h2⟩)|⟨S,h2⟩)
       .erw[.inl h]
       .erw[.inr (S,by lia)]
       .erw[.inr (h2,by lia)]
  .erw[?σ H4 b3,xe4 b3 λR u7 u8 u9 d=>xa3 d λai f4 al pt=>?_,-d,-b3,<-ai,cf (R,_,_,_,_,rfl,f4,al,pt.imp (λu v z=>?_) (U7 cl _))];have:=(xb u v z).2;constructor
   .rintro(h|⟨S,h2⟩)<;>lia
   .intro h;rcases Int.lt_or_eq_of_le (show v<=y by lia)with h'|h'
    .erw[.inl h']
    .erw[.inr (h',by lia)]
 .erw[?σ H3 b4,xe5 b4 λR u6 u7 u8 u9 d=>xa3 d λaj f3 ak pt=>?_,-d,-b4,<-aj,cc (xq1 rfl (k Z R H3 (λb u e n=>f3 _ _ (a3 b u e n) (Am e nZ)) (.inr (_,f3 _ _ hD (A3f (nD nZ)))) nZ ak (pt.nd,λc=>?_) (by have:=pt.len;lia))),[pt.mem],(λh=>h.1,λh=>(h,?_))];have:=(yb c.x c.y A3).2;lia
end
theorem aEt(K:O_):kitOne K (.type "list") (.type "list")=n8 o0:=by kernel_rfl
theorem aEu(K:O_):kitOne K (.type "tuple") (.type "tuple")=n8 o0:=by kernel_rfl
section
variable{P:N_}{w:Q_}{K:O_}{mg:C_}{n6:T_}{a:Ad}
inductive aGM(vs:List V)(H:Hp)(Q:VK):Prop
|mk (L M:R_) (ts us:H_) (es:List Cl) (_:vs=[.ref L,.ref M]) (_:H L=n8 (.lst (ts.map V.ref))) (_:H M=n8 (.lst (us.map V.ref))) (_:Paired (Lu H) ts es) (_:Paired (Lu H) us es) (_:es.length<=500) (_:Q (.bl o0) H):aGM vs H Q
def aHc:Sp:=λvs H Q _=>aGM vs H Q
theorem aG9(F:Fun K "_law_right" "_law_right" IT f fd)(T:Top K mg a):AJ P w K mg n6 CX0 1 f fd Jg aHc:=by
 erw[F.ok Ib (λvs H Q E h=>?_) (λY A O s H vs Q E hr h=>?_)]
 .apply Cr;erw[?j b,(L,M,ts,us,D,rfl,_)=h];apply b;clear b j;rfl
 .apply Cr;erw[?j b,(L,M,ts,us,D,rfl,hL,G,pt,X,l1,k)=h];apply b;erw[-b j,(_,(Ac (AS (PW.pt (MF (DJ (Dk (AH Fs Z T.U_ A5b (Aa pv0 (Aa (GS (v:=.ty "list") Z T.aAt PyProof.Rows.boot_list Z) Ab))))) (JP (Ay IB (AH Br Z T.j_ A5c (Aa pv0 Ab)) (AH Br Z T.j_ A5c (Aa pv1 Ab)) (AF _))))) (Ag (Av JT)) Az) (Ac (BN A3g Z (Ce Z T.V_ (Aa (AH Br Z T.j_ A5c (Aa pv1 Ab)) Ab)) (AV (i:=2) Ib.nd Z O_9) (Ac (AS (PW.pt (MF (DJ (Dk (AH Fs Z T.U_ A5b (Aa (Aj Ar pv0 pv2 R_9) (Aa (GS (v:=.ty "tuple") Z T.l_ A5f Z) Ab))))) (MF (Ay IB (AH Br Z T.j_ A5c (Aa (Aj Ar pv0 pv2 R_9) Ab)) Ae (AF _)) (JP (Ay (YK hr.units) (Aj Ar pv0 pv2 R_9) (Aj Ar pv1 pv2 R_9) (AF _)))))) (Ag (Av JT)) Az) (Ag (BN A3g Z (Py (Aj Ar pv0 pv2 R_9)) (AV (i:=3) Ib.nd Z O_9) (Ag (AS (PW.pt (MF (DJ (Dk (AH Fs Z T.U_ A5b (Aa pv3 (Aa (GS (v:=.ty "int") Z T.aAQ A7f Z) Ab))))) (JP (Dk (AH Fs Z T.U_ A5b (Aa pv3 (Aa (GS (v:=.ty "bool") Z T.aAs PyProof.Rows.boot_bool Z) Ab))))))) (Ag (Av JT)) Az)))))) (Ag (Av JT)))),?_),W=A3e X,xq1 Z (_,_,_,.type "list",o0,Z,Z,.of (.lst hL),aEt K,o0,Z,Bj (xq1 Z (L,(xq1 Z (.inl (SqL.of hL),(xq1 Z (M,(xq1 Z (.inl (SqL.of G),Z,(xq1 Z ?_)))))))))),[C0,C0,(A3e pt),W],Ot Z (xq1 Z (M,(xq1 Z (.inl (SqL.of G),(xq1 Z (by rw[C0];lia,by rw[C0];lia,?_)))))),[C0,M9,W],BX (n:=D.length) (λi σ C=>H=C/\∃R p:Option V,σ=[n8 (.ref L),n8 (.ref M),R,p]) (Z,n9,n9,Z) ?_ ?_]
  .rintro i σ C I S;apply Cr;erw[?j b,(rfl,R,p,rfl)=S];apply b;clear b j;obtain⟨c,U⟩:∃c,D[i]?=n8 c:=(_,C7 I)
   erw[xea (PairedM.get pt U) λt et o=>xea (PairedM.get X U) λu eu hu=>?_,o=o];have B:atI (ts.map V.ref) (0+(i:Int))=n8 (.ref t):=by
    erw[[U6],Ai (by rw[C3,et];rfl)]
   have N:atI (us.map V.ref) (0+(i:Int))=n8 (.ref u):=by
    erw[[U6],Ai (by rw[C3,eu];rfl)]
   erw[xwj Z Z Z Z (SqL.of hL) B (_,_,_,.type "tuple",o0,Z,Z,.of (.tup o),aEu K,o0,Z,Bj ?_),xwj Z Z Z Z (SqL.of hL) B (t,(xq1 Z (.inr (SqT.of o),Z,(xq1 Z (Ot Z ?_))))),xwj Z Z Z Z (SqL.of hL) B (xwj Z Z Z Z (SqL.of G) N (t,u,[c.x,c.y,(c.s:Int)],[c.x,c.y,(c.s:Int)],Z,Z,SqT.of o,SqT.of hu,(xq1 Z (Ot Z ?_)))),xwj Z Z Z Z (SqL.of hL) B (t,Z,(_,SqT.of o),?_),aCX (xs:=[.int c.x,.int c.y,.int (c.s:Int)]) (λn σ r=>H=r/\∃p:Option V,σ=[n8 (.ref L),n8 (.ref M),n8 (.int (0+(i:Int))),p]) (Z,p,Z) (λn σ r _ ⟨e,_⟩=>SqT.of (e▸o)) ?_ ?_]
   .erw[?n v σ r ev q,xa q λl d=>xe d λu4 m=>?_,-d,-q,<-l,<-m];obtain⟨z,rfl⟩:∃z:Int,v=.int z:=by
     have:=D0 ev;simp only[C4,F7,A5a]at this;rcases this with e|e|e<;>exact(_,e)
    erw[xq1 Z (_,_,_,.type "int",o0,Z,Z,.of (.int z),(WW K).1,o0,Z,Bj (xq1 Z (_,_,_,.type "int",o3,Z,Z,.of (.int z),(WW K).2,o3,Z,Bj (Z,_,Z))))]
   .erw[?σ r g,xa g λl d=>xe d λu4 m=>?_,-d,-g,<-l,<-m,(Z,_,_,Z)]
  .rintro σ C g;apply Cr;erw[?j b,(rfl,R,p,rfl)=g];apply b;erw[-b j,k]
end
theorem Ye:∀{out:List It3}{d:List Cl},out.map aCG=d.map aFe->(∀q∈out,H q.a=n8 (.tup (q.ns.map V.int)))->Paired (Lu H) (out.map (·.a)) d
|[],[],_,_=>.nil
|[],_::_,e,_=>by cases e
|_::_,[],e,_=>by cases e
|q::out,c::d,e,h=>by
 rw[J0,J0]at e;injection e with b e2
 erw[.cons ?_ (Ye e2 λp g=>h p (D6 _ g)),f=h q (D5 ..),b=b];injection b with y1 b
 injection b with x1 r1
 have:q.ns=[c.x,c.y,(c.s:Int)]:=by
  show q.x::q.y::q.r=_;rw[y1,x1,r1]
 rw[this]at f;erw[f]
noncomputable def itC(c:Cl):It3:=(0,c.x,c.y,[(c.s:Int)])
theorem aCP {a:List Cl} (h:ByC a) (b:(a.map λc=>#[c.x,c.y]).Nodup):(a.map aFe).Pairwise (λp q=>Dc q p=o3):=by
 have:=Wd (out:=a.map itC) (Q5.mpr h) (by erw[[N5],b]);rw[N5]at this;erw[this]
theorem aGZ(j:AR a H g G)(v:Fv G f φ)(dk:Ms d φ)(u:ByC d)(z:d.length<=500)(few:G.length<9000000)(k:∀(L:R_)(ts:H_)(b:Hp),Fx (frL g) H b->AR a b g G->H L=n9->b L=n8 (.lst (ts.map V.ref))->Paired (Lu b) ts d->Q (.ref L) b):Yq a [.ref g.p,.int f] H Q:=by
 erw[CP v.ex λn s m D e=>?_,(o:Of G n f d)=(dk.nd,λc=>by erw[[e],dk.mem c])]
 erw[(g,G,f,n,Z,j,m,F3 s A6,few,by rw[o.cnt j.ok m];lia,λL out b x l A hL w B C=>?_),h=B.trans (o.perm j.ok m)];have i:(out.map λq=>#[q.x,q.y]).Nodup:=by
  erw[t=h.map λr=>#[r.getD 1 0,r.getD 0 0]]
  rw[N5,N5]at t;erw[t.nodup_iff.mpr dk.nd]
 erw[k L (out.map (·.a)) b x l A ?_ (Ye (TL (Wd C i) (aCP u dk.nd) h) w),[N5],hL]
end J
namespace J
open PySem L2
def Dj(m m':MA):Prop:=m.kc≠m'.kc/\∀d∈m.ds,d∉m'.ds
theorem AG.len{G a:Gv}{i n:Nat}(h:AG G a i)(l:a.length<=G.length+n):AG G a n:=(h.ok,h.pre,l)
structure Pk(H:Hp)(g:GA)(G:Gv)(Κ:KTy)(N b:Nat)(r:Aw)(m:MA):Prop where
me:Jv H g G N (b+10*N) r m
cn:∃f,Cn H G m Κ b f
na:g.am∉m.ds
nb:g.bx∉m.ds
section
variable{a:Ad}{H H':Hp}{g:GA}{G G':Gv}{Κ Κ2:KTy}{N b i N2 b2 b3:Nat}{p dx mem pr p2 dx2 mem2 pr2:R_}{r r2:Aw}{m m2:MA}
theorem Pk.oth(h:Pk H g G Κ N b r m)(s:ZS a H g G Κ2 N2 b2 p2 dx2 mem2 pr2 r2 m2)(f:FrZ g m2 H H')(X:ZS a H' g G' Κ2 N2 b3 p2 dx2 mem2 pr2 r2 m2)(I:AG G G' i)(dj:Dj m m2):Pk H' g G' Κ N (b+i) r m:=by
 erw[c=h.me,q=s.fu,(A,n,T,_)=c.ce,(S:∀{x:R_}{o:HO},H x=n8 o->(∀xs,o≠.lst xs)->(∀ks,o≠.dK ks)->(∀ks,o≠.dT ks)->H' x=n8 o)=λ{x o} e O P Q=>s.keep f e O P Q,(ts,K,_)=q.at'.pt,(U,C,_)=q.am,(W,D,_)=q.bx,(R,F,_)=s.jz.jw.me.ce];have u:∀d∈m.ds,∀o,H d=n8 o->H' d=n8 o:=λd y o e=>by
  erw[(j,t)=J6 y,(L,k,_)=c.sq j d t];rw[k]at e;erw[!e,f d _ k (λz=>?_) (dj.2 d y)];simp only[C4,F7,A5a]at z;rcases z with z|z|z|z|z|z
  .rw[z,q.at'.lv]at k;cases k
  .rw[z,K]at k;cases k
  .rw[z,q.at'.nm]at k;cases k
  .erw[h.na (z▸y)]
  .erw[h.nb (z▸y)]
  .rw[z,F]at k;cases k
 have v:∀o,H m.kc=n8 o->H' m.kc=n8 o:=λo e=>by
  rw[n]at e;erw[!e,f _ _ n (λz=>?_) (λz=>?_)]
  .simp only[C4,F7,A5a]at z;rcases z with z|z|z|z|z|z
   .rw[z,q.at'.lv]at n;cases n
   .rw[z,K]at n;cases n
   .erw[c.ap.2.2 z]
   .rw[z,C]at n;cases n
   .rw[z,D]at n;cases n
   .erw[dj.1 z]
  .erw[(j,t)=J6 z,(L,k,_)=s.jz.jw.me.sq j _ t];rw[n]at k;cases k
 have kl:H' m.l=n8 (.lst (m.ds.map V.ref)):=by
  erw[f _ _ c.l (λz=>?_) (λz=>?_)]
  .erw[e=c.l];simp only[C4,F7,A5a]at z;rcases z with z|z|z|z|z|z
   .erw[c.ap.1 z]
   .erw[c.ap.2.1 z]
   .rw[z,q.at'.nm]at e;cases e
   .rw[z,C]at e;cases e
   .rw[z,D]at e;cases e
   .rw[z,F]at e;cases e
  .erw[(j,t)=J6 z,(L,k,_)=s.jz.jw.me.sq j _ t,e=c.l];rw[k]at e;cases e
 have B:Jv H' g G' N (b+i+10*N) r m:=(c.kp q.ok I λx o e w=>by
  rcases w with rfl|rfl|w|rfl
  .rw[c.tp]at e;erw[!e,S c.tp B1 B1 B1]
  .rw[c.l]at e;erw[!e,kl]
  .erw[u x w o e]
  .exact v o e).mono (C1 _) A3
 erw[(M,E)=h.cn,(B,(M,E.kp q.ok I u λA e=>(A,v _ e,by lia)),h.na,h.nb)]
theorem ZS.pk(h:ZS a H g G Κ N b p dx mem pr r m):Pk H g G Κ N b r m:=(h.jz.jw.me,h.jz.cn,h.na,h.nb)
theorem Pk.zs(h:Pk H g G Κ N b r m)(c:AR a H g G)(f:H p=n8 (.ins a.J5 dx (jf5 g.p mem pr m.l m.kc)))(o:BL a H pr (AZ r) r)(rok:EC r)(k:CF r 0 BE=0):ZS a H g G Κ N b p dx mem pr r m:=by
 erw[(n,d)=c.g0,(((c.at',c.ok,λj e=>by erw[[d],LE (MX j e)],c.br,(c.n1,c.n2),f,o,rok,k,h.me),h.cn),c,h.na,h.nb)]
theorem Pk.fr2{x y:R_}{E F:HO}(h:Pk H g G Κ N b r m)(u:AR a H g G)(K:H x=n8 E)(A:H y=n8 F)(L:∃c d fs,E=.ins c d fs)(Q:y∉m.ds)(fr:∀b o,H b=n8 o->b≠x->b≠y->H' b=n8 o)(M:∃ks,F=.dK ks):Pk H' g G Κ N b r m:=by
 erw[(c,d,fs,rfl)=L,(ks,rfl)=M,k=h.me,(kp:∀z o,H z=n8 o->(∀c d fs,o≠.ins c d fs)->z≠y->H' z=n8 o)=λz o e O P=>fr z o e (λq=>by rw[q,K]at e;erw[!e,O _ _ _ Z]) P];have n:∀d∈m.ds,∀o,H d=n8 o->H' d=n8 o:=λd D o e=>by
  erw[(j,I)=J6 D,(R,C,_)=k.sq j d I];rw[C]at e;erw[!e,kp _ _ C B3 λz=>Q (z▸D)]
 erw[(v,t,_)=k.ce];have s:∀o,H m.kc=n8 o->H' m.kc=n8 o:=λo e=>by
  rw[t]at e;erw[!e,kp _ _ t B3 λz=>by rw[z,A]at t;cases t]
 erw[(f,B)=h.cn,(k.kp u.ok (AG.refl u.ok) λz o e w=>?_,(f,B.kp (i:=0) u.ok (AG.refl u.ok) n λv e=>(v,s _ e,C1 _)),h.na,h.nb)];rcases w with rfl|rfl|w|rfl
 .rw[k.tp]at e;erw[!e,kp _ _ k.tp B3 λz=>by have:=k.tp;rw[z,A]at this;cases this]
 .rw[k.l]at e;erw[!e,kp _ _ k.l B3 λz=>by have:=k.l;rw[z,A]at this;cases this]
 .erw[n z w o e]
 .erw[s o e]
end
section
variable{a:Ad}{H H':Hp}{g:GA}{G G':Gv}{Κ Κ2:KTy}{N b i:Nat}{p dx mem pr pr':R_}{r r':Aw}{m m':MA}{ms ms':List (Str×MA)}{Q:VK}
def FrW(p mem:R_)(H H':Hp):Prop:=∀b o,H b=n8 o->b≠p->b≠mem->H' b=n8 o
theorem FrW.kp(c:H p=n8 (.ins a.J5 dx (jf5 g.p mem pr m.l m.kc)))(fr:FrW p mem H H'){x:R_}{o:HO}(e:H x=n8 o)(n:∀C d f,o≠.ins C d f)(y:x≠mem):H' x=n8 o:=fr x o e (λz=>by rw[z,c]at e;cases e;exact n _ _ _ Z) y
theorem FrW.tup(d:H p=n8 (.ins a.J5 dx (jf5 g.p mem pr m.l m.kc)))(c:H mem=n8 (.dK (mK ms)))(fr:FrW p mem H H'){x:R_}{xs:List V}(e:H x=n8 (.tup xs)):H' x=n8 (.tup xs):=FrW.kp d fr e B3 λz=>by rw[z,c]at e;cases e
theorem FrW.lst(d:H p=n8 (.ins a.J5 dx (jf5 g.p mem pr m.l m.kc)))(c:H mem=n8 (.dK (mK ms)))(fr:FrW p mem H H'){x:R_}{xs:List V}(e:H x=n8 (.lst xs)):H' x=n8 (.lst xs):=FrW.kp d fr e B3 λz=>by rw[z,c]at e;cases e
theorem AR.chg(A:AR a H g G)(c:H p=n8 (.ins a.J5 dx (jf5 g.p mem pr m.l m.kc)))(d:H mem=n8 (.dK (mK ms)))(I:mem≠g.am)(K:mem≠g.bx)(fr:FrW p mem H H'):AR a H' g G:=by
 erw[(at',ok,B,s,(ks,D,E),(h,F,o),j,k,L)=A,(f,M,(ts,O,P),n,R)=at'];have C:H' g.p=n8 (.ins a.L0 g.dx (fl6 g)):=by
  erw[fr _ _ f (AC f c λz=>?_) λz=>by rw[z,d]at f;cases f]
  injection z with _ _ z
  have:=ET g;rw[z,Jo _ _ _ _ _ A0 A0 A0 A0 A0]at this;cases this
 erw[((C,fr.lst c d M,(ts,fr.lst c d O,PairedM.imp (λt q z=>fr.tup c d z) P),fr.kp c n B3 (λz=>by rw[z,d]at n;cases n),R),ok,B,fr.lst c d s,(ks,fr.kp c D B3 (A3f I),E),(h,fr.kp c F B3 (A3f K),o.keys,λi v e=>?_),j,k,L),Fk (o.val i v e) λl b t u w x y=>(l,b,t,u,w,x,fr.tup c d y)]
theorem jchg(o:AR a H g G)(j:H p=n8 (.ins a.J5 dx (jf5 g.p mem pr m.l m.kc)))(h:H mem=n8 (.dK (mK ms)))(l:ms.length<=10)(s:mem≠g.am)(t:mem≠g.bx)(n:∀e∈ms,H e.2.tp=n8 (.tup [.ref e.2.l,.ref e.2.kc]))(q:BL a H pr' (AZ r') r')(k:∀(H':Hp)(m':MA)(ms':List (Str×MA)),FrW p mem H H'->AR a H' g G->H' p=n8 (.ins a.J5 dx (jf5 g.p mem pr' m'.l m'.kc))->H' mem=n8 (.dK (mK ms'))->ZA H H' (AZ r') ms ms' m'->Q .non H'):Yr a [.ref p,.ref pr'] H Q :=
 (p,dx,mem,pr',_,_,r',ms,Z,j,aCa _ _ _ _ _,by rw[SM];show 5<=10;decide,h,by lia,n,q,λH' m' ms' fr d f c=>k H' m' ms' fr (o.chg j h s t fr) (by rw[aCb]at d;exact d) f c)
theorem FrW.nv(f:H p=n8 (.ins a.J5 dx (jf5 g.p mem pr m.l m.kc)))(d:H mem=n8 (.dK (mK ms)))(fr:FrW p mem H H'):∀b o,H b=n8 o->Nv o->H' b=n8 o:=λb o e n=>fr b o e (λz=>by
 rw[z,f]at e;cases e;cases n with
 |ins h c =>
  rw[SM]at c;exact absurd c (by show ¬5<=3;decide)) λz=>by
 rw[z,d]at e;erw[!e,!n]
theorem Pk.nw(j:AR a H g G)(c:H m'.tp=n9/\H m'.l=n9/\H m'.kc=n9/\∀d∈m'.ds,H d=n9)(t:H' m'.tp=n8 (.tup [.ref m'.l,.ref m'.kc]))(u:H' m'.l=n8 (.lst (m'.ds.map V.ref)))(n:H' m'.kc=n8 (.dT []))(o:∀d∈m'.ds,H' d=n8 (.dK []))(v:m'.ds.length=47)(w:m'.ds.Nodup):Pk H' g G Κ N G.length r' m':=by
 erw[xea j.am λy f _=>xea j.bx λA h _=>((Jv.new (N:=0) (M:=0) j.at' c.2.1 c.2.2.1 t u n o v w).mono (L7 _) (L7 _),(λ_=>0,λe q s=>([],o q (D0 s),Z,Q0,λk x=>nomatch x),F5 _ _,[],n,L7 _),λz=>?_,λz=>?_)]
 .rw[c.2.2.2 _ z]at f;cases f
 .rw[c.2.2.2 _ z]at h;cases h
theorem Pk.dj(h:Pk H g G Κ N b r m)(c:H m'.kc=n9/\∀d∈m'.ds,H d=n9):Dj m m':=by
 erw[xea h.me.ce λo f _=>(λz=>?_,λd l e=>?_)]
 .rw[z,c.1]at f;cases f
 .erw[xe (J6 l) λj n=>xea (h.me.sq j d n) λq k _=>?_];rw[c.2 d e]at k;cases k
theorem Dj.sym'(h:Dj m m'):Dj m' m:=(A3f h.1,λd e c=>h.2 d c e)
theorem ApZ.oth{x:R_}{o:HO}(ap:ApZ g m x)(e:H x=n8 o)(fr:∀y∈m'.l::m'.kc::m'.ds,H y=n9):ApZ g m' x:=by
 erw[c=ap.n0,(ne:∀y∈m'.l::m'.kc::m'.ds,x≠y)=λy d z=>by rw[z,fr y d]at e;cases e]
 erw[(λz=>?_,λz=>ne x (by simp[z]) Z,ap.n2,ne _ B0)];simp only[C4,F7,A5a,B0d]at c z;rcases z with z|z|z|z|z|z
 .erw[c.1 z]
 .erw[c.2.1 z]
 .erw[c.2.2.1 z]
 .erw[c.2.2.2.1 z]
 .erw[c.2.2.2.2.1 z]
 .erw[ne _ B0 z]
theorem Pk.same(h:Pk H g G Κ N b r m)(c:AR a H g G)(s:As H H'):Pk H' g G Κ N b r m:=by
 erw[xe h.cn λf j=>(h.me.kp c.ok (AG.refl c.ok) λz o e _=>s _ _ e,(f,j.kp (i:=0) c.ok (AG.refl c.ok) (λd _ o e=>s _ _ e) λk e=>(k,s _ _ e,C1 _)),h.na,h.nb)]
theorem ZS.nv(zs:ZS a H g G Κ N b p dx mem pr r m)(f:FrZ g m H H'):∀b o,H b=n8 o->Nv o->H' b=n8 o:=λ_ _ e nv=>zs.keep f e (by intro _ z;rw[z]at nv;cases nv) (by intro _ z;rw[z]at nv;cases nv) (by intro _ z;rw[z]at nv;cases nv)
end
theorem ng62:ng 2 3 5 4<=21000:=by decide +kernel
structure JRc where
p:Addr
dx:Addr
mem:Addr
pr:Addr
r:Aw
m:MA
ms:List (Str×MA)
structure JOk(a:Ad)(H:Hp)(g:GA)(G:Gv)(F:List (Int->Int->Nat))(R:List Aw)(c:Nat)(j:JRc):Prop where
hp:H j.p=n8 (.ins a.J5 j.dx (jf5 g.p j.mem j.pr j.m.l j.m.kc))
hm:H j.mem=n8 (.dK (mK j.ms))
ru:BL a H j.pr (AZ j.r) j.r
iR:j.r∈R
cu:#[AZ j.r,j.m]∈j.ms
nd:(j.ms.map (·.1)).Nodup
ks:∀e∈j.ms,∃r∈R,e.1=AZ r/\∃b,b<=G.length+c/\Pk H g G (Kg r F 3) 21000 b r e.2
ap:∀e∈j.ms,ApZ g e.2 j.mem
dj:∀e∈j.ms,∀e'∈j.ms,e.1≠e'.1->Dj e.2 e'.2
section
variable{a:Ad}{Hd H H':Hp}{g:GA}{G G':Gv}{F:List (Int->Int->Nat)}{R:List Aw}{c c' i b2 b3:Nat}{j j':JRc}{p2 dx2 mem2 pr2:R_}{r2:Aw}{m2:MA}
theorem JOk.same(h:JOk a H g G F R c j)(k:AR a H g G)(s:As H H'):JOk a H' g G F R c j :=
 (s _ _ h.hp,s _ _ h.hm,h.ru.same s,h.iR,h.cu,h.nd,λe m=>by
  exact AI (h.ks e m) λr n f d=>xea d λb l pk=>(r,n,f,b,l,pk.same k s),h.ap,h.dj)
theorem JOk.jmp(h:JOk a H g G F R c j)(zs:ZS a H g G (Kg r2 F 3) 21000 b2 p2 dx2 mem2 pr2 r2 m2)(f:FrZ g m2 H H')(p:ZS a H' g G' (Kg r2 F 3) 21000 b3 p2 dx2 mem2 pr2 r2 m2)(m:AG G G' i)(t:b3<=G'.length+c')(w:c<=c')(o:r2∈R)(ap:ApZ g m2 j.mem)(q:∀e∈j.ms,(e.2=m2/\e.1=AZ r2)\/Dj e.2 m2):JOk a H' g G' F R c' j:=by
 erw[(k:AG G G' (G'.length-G.length))=m.len A3,le=m.le,(zs.keep f h.hp B1 B1 B1,f _ _ h.hm ap.n0 ap.n1,h.ru.kp (zs.nv f),h.iR,h.cu,h.nd,λe n=>?_,h.ap,h.dj)];rcases q e n with ⟨s,d⟩|dj
 .exact(r2,o,d,b3,t,by erw[[s],p.pk])
 .erw[AI (h.ks e n) λr v d l=>xea l λb u pk=>(r,v,d,b+(G'.length-G.length),by lia,pk.oth zs f p k dj)]
theorem JOk.zs(h:JOk a H g G F R c j)(k:AR a H g G)(inj:∀r∈R,∀s∈R,AZ r=AZ s->r=s)(ok:∀r∈R,EC r/\CF r 0 BE=0):∃b,b<=G.length+c/\ZS a H g G (Kg j.r F 3) 21000 b j.p j.dx j.mem j.pr j.r j.m:=by
 erw[AI (h.ks _ h.cu) λr n f d=>xea d λb l pk=>?_,e=inj _ h.iR _ n f];rw[<-e]at pk;exact(b,l,pk.zs k h.hp h.ru (ok _ h.iR).1 (ok _ h.iR).2)
theorem Uz:∀{ks:K_}{ts:K_},ks.Nodup->(∀k∈ks,k∈ts)->ks.length<=ts.length
|[],_,_,_=>L7 _
|k::ks,ts,nd,h=>by
 erw[b=N8.mp nd,d=h k D5];have:=Uz (ks:=ks) (ts:=ts.erase k) b.2 λx e=>(List.mem_erase_of_ne (λ(z:x=k)=>b.1 (z▸e))).mpr (h x (D6 _ e));erw[l=List.length_erase_of_mem d,p=List.length_pos_of_mem d,[F2]];lia
theorem JOk.few(h:JOk a H g G F R c j)(n:R.length<=3):j.ms.length<=10:=by
 have:=Uz (ks:=j.ms.map (·.1)) (ts:=R.map AZ) h.nd λk l=>by
  erw[xea (F0.mp l) λe f b=>?_,<-b,AI (h.ks e f) λr m d _=>F0.mpr (r,m,d.symm)]
 rw[C0,C0]at this;lia
theorem JOk.oth(h:JOk a H g G F R c j)(l:AR a H g G)(h':JOk a H g G F R c j')(fr:FrW j'.p j'.mem H H')(o:j.p≠j'.p)(nm:j.mem≠j'.mem)(ap:∀e∈j.ms,ApZ g e.2 j'.mem):JOk a H' g G F R c j:=by
 erw[(fr _ _ h.hp o λz=>?_,fr _ _ h.hm (λz=>?_) nm,h.ru.kp (fr.nv h'.hp h'.hm),h.iR,h.cu,h.nd,λe f=>?_,h.ap,h.dj)]
 .erw[e=h.hp];rw[z,h'.hm]at e;cases e
 .erw[e=h.hm];rw[z,h'.hp]at e;cases e
 .erw[AI (h.ks e f) λr n k d=>xea d λb m pk=>(r,n,k,b,m,pk.fr2 l h'.hp h'.hm (_,_,_,Z) (ap e f).n1 fr (_,Z))]
theorem JOk.chg{t:R_}{o:Aw}{f:MA}{n:List (Str×MA)}(h:JOk a H g G F R c j)(N:AR a H g G)(fr:FrW j.p j.mem H H')(A:H' j.p=n8 (.ins a.J5 j.dx (jf5 g.p j.mem t f.l f.kc)))(w:H' j.mem=n8 (.dK (mK n)))(X:BL a H t (AZ o) o)(s:o∈R)(ch:ZA H H' (AZ o) j.ms n f):JOk a H' g G F R c (j.p,j.dx,j.mem,t,o,f,n)/\∀e∈n,e∈j.ms\/(e=#[AZ o,f]/\∀y∈f.l::f.kc::f.ds,H y=n9):=by
 erw[C=X.kp (fr.nv h.hp h.hm)];have B:∀e∈j.ms,∃r∈R,e.1=AZ r/\∃b,b<=G.length+c/\Pk H' g G (Kg r F 3) 21000 b r e.2:=λe d=>by
  erw[AI (h.ks e d) λr P M u=>xea u λb O pk=>(r,P,M,b,O,pk.fr2 N h.hp h.hm (_,_,_,Z) (h.ap e d).n1 fr (_,Z))]
 cases ch with
 |old E I =>
  erw[<-I,((A,w,C,s,E,h.nd,B,h.ap,h.dj),λe d=>.inl d)]
 |new E I k Q S T U V W =>
  subst E;have v:∀y∈f.l::f.kc::f.ds,H y=n9:=λy q=>by
   rcases C4.mp q with rfl|q
   .erw[k.2.1]
   .rcases C4.mp q with rfl|q
    .erw[k.2.2.1]
    .erw[k.2.2.2 y q]
  have K:∀e∈j.ms,Dj e.2 f:=λe d=>by
   erw[AI (h.ks e d) λr P M u=>xea u λb O pk=>pk.dj (k.2.2.1,k.2.2.2)]
  have sp:∀{e:Str×MA},e∈j.ms++[#[AZ o,f]]->e∈j.ms\/e=#[AZ o,f]:=λ{e} d=>by
   rcases J9.mp d with d|d
   .erw[.inl d]
   .erw[.inr (C5.mp d)]
  erw[((A,w,C,s,by simp,?_,λe d=>?_,λe d=>?_,λe d L m ne=>?_),λe d=>?_)]
  .erw[[D4,Q6],(h.nd,by simp,λx Y y q z=>?_)];rw[J0,Z2,C5]at q;erw[xea (F0.mp Y) λe d D=>?_,<-D,I e d (z.trans q)]
  .rcases sp d with d|rfl
   .erw[B e d]
   .exact(o,s,Z,G.length,by lia,Pk.nw N k Q S T U V W)
  .rcases sp d with d|rfl
   .erw[h.ap e d]
   .exact(h.ap _ h.cu).oth h.hm v
  .rcases sp d with d|rfl
   .rcases sp m with m|rfl
    .erw[h.dj e d L m ne]
    .erw[K e d]
   .rcases sp m with m|rfl
    .exact(K L m).sym'
    .erw[absurd Z ne]
  .rcases sp d with d|rfl
   .erw[.inl d]
   .erw[.inr (Z,v)]
end
theorem WX{α:Type}:∀{c:List (Str×α)},(c.map (·.1)).Nodup->∀{e b:Str×α},e∈c->b∈c->e.1=b.1->e=b
|[],_,_,_,h,_,_=>nomatch h
|q::c,nd,e,b,h,h',z=>by
 erw[a=N8.mp nd];rcases C4.mp h with x|x
 .rcases C4.mp h' with y|y
  .erw[x.trans y.symm]
  .erw[absurd (F0.mpr (b,y,by rw[<-z,x])) a.1]
 .rcases C4.mp h' with y|y
  .erw[absurd (F0.mpr (e,x,by rw[z,y])) a.1]
  .erw[WX a.2 x y z]
structure Bf(F:List (Int->Int->Nat)):Prop where
fin:∀r:Aw,CF r 0 BE=0->Ni (Kg r F 3) 21000
near:∀φ∈F,QV φ 3
structure Rs3(R:List Aw):Prop where
ok:∀r∈R,EC r/\CF r 0 BE=0
inj:∀r∈R,∀s∈R,AZ r=AZ s->r=s
len:R.length<=3
structure W62(a:Ad)(Hd H:Hp)(g:GA)(G:Gv)(F:List (Int->Int->Nat))(R:List Aw)(c:Nat)(j j':JRc):Prop where
fu:AR a H g G
j1:JOk a H g G F R c j
j2:JOk a H g G F R c j'
pp:j.p≠j'.p
mm:j.mem≠j'.mem
dj:∀e∈j.ms,∀e'∈j'.ms,Dj e.2 e'.2
a1:∀e∈j.ms,ApZ g e.2 j'.mem
a2:∀e∈j'.ms,ApZ g e.2 j.mem
sm:As Hd H
nn:∀e∈j.ms,∀y∈zL g e.2,Hd y=n9
n2:∀e∈j'.ms,∀y∈zL g e.2,Hd y=n9
np:Hd j.p=n9/\Hd j.mem=n9
np2:Hd j'.p=n9/\Hd j'.mem=n9
section
variable{a:Ad}{Hd H H':Hp}{g:GA}{G G':Gv}{F:List (Int->Int->Nat)}{R:List Aw}{c c' i:Nat}{j j':JRc}{Q:VK}
theorem W62.symm(w:W62 a Hd H g G F R c j j'):W62 a Hd H g G F R c j' j :=
 (w.fu,w.j2,w.j1,A3f w.pp,A3f w.mm,λe f d b=>(w.dj d b e f).sym',w.a2,w.a1,w.sm,w.n2,w.nn,w.np2,w.np)
theorem W62.same(w:W62 a Hd H g G F R c j j')(s:As H H'):W62 a Hd H' g G F R c j j' :=
 (w.fu.same s,w.j1.same w.fu s,w.j2.same w.fu s,w.pp,w.mm,w.dj,w.a1,w.a2,w.sm.trans s,w.nn,w.n2,w.np,w.np2)
theorem aCl{φ:D_}{k n:Nat}(h:QV φ n)(l:k<=n):QV φ k:=λu v z=>by
 erw[xa3 (h u v z) λb d e f=>(by lia,by lia,by lia,by lia)]
theorem W62.stp{b h:Nat}(w:W62 a Hd H g G F R c j j')(zs:ZS a H g G (Kg j.r F 3) 21000 b j.p j.dx j.mem j.pr j.r j.m)(f:FrZ g j.m H H')(z:ZS a H' g G' (Kg j.r F 3) 21000 h j.p j.dx j.mem j.pr j.r j.m)(k:AG G G' i)(l:h<=G'.length+c')(n:c<=c'):W62 a Hd H' g G' F R c' j j':=by
 erw[(z.fu,w.j1.jmp zs f z k l n w.j1.iR (w.j1.ap _ w.j1.cu) λe d=>?_,w.j2.jmp zs f z k l n w.j1.iR (w.a1 _ w.j1.cu) λe d=>.inr (w.dj _ w.j1.cu e d).sym',w.pp,w.mm,w.dj,w.a1,w.a2,As.fxn w.sm (f.fx zs) (w.nn _ w.j1.cu),w.nn,w.n2,w.np,w.np2),(q:e.1=AZ j.r)]
 .erw[.inl (A4e (·.2) (WX w.j1.nd d w.j1.cu q),q)]
 .erw[.inr (w.j1.dj e d _ w.j1.cu q)]
theorem W62.jump{f k:Nat}(w:W62 a Hd H g G F R c j j')(n:Bf F)(l:Rs3 R)(e:φ∈F)(s:k<=3)(o:Fv G f φ)(few:G.length+c<=6000000)(u:∀(d:Nat)(G':Gv)(H':Hp)(i:Nat),W62 a Hd H' g G' F R (c+12048) j j'->AG G G' i->G'.length<=G.length+c+222048->Fv G' d (sFN j.r k φ)->Q (.int d) H'):aAe a [.ref j.p,.int (f:Int),.int (k:Int)] H Q:=by
 erw[xea (w.j1.zs w.fu l.inj l.ok) λb x zs=>?_,ok=l.ok _ w.j1.iR,fin=n.fin j.r ok.2,(j.p,j.dx,j.mem,j.pr,g,G,_,_,21000,b,j.r,j.m,f,k,Z,zs,fin,aGq ok.1 ok.2 _ _,aEq (t:=0) e A3,o,aCl (n.near φ e) s,by lia,λd G' H' i q z h v=>u d G' H' i (w.stp zs q z h (by have:=h.le;lia) A3) h ?_ v)];have:=z.jz.sz fin;lia
theorem W62.chg{n:R_}{v:Aw}(w:W62 a Hd H g G F R c j j')(P:Rs3 R)(I:BL a H n (AZ v) v)(C:v∈R)(O:∀(H':Hp)(D:MA)(m:List (Str×MA)),W62 a Hd H' g G F R c (j.p,j.dx,j.mem,n,v,D,m) j'->Q .non H'):Yr a [.ref j.p,.ref n] H Q:=by
 erw[ap=w.j1.ap _ w.j1.cu,u=ap.n0];simp only[C4,F7,A5a,B0d]at u;erw[jchg w.fu w.j1.hp w.j1.hm (w.j1.few P.len) u.2.2.2.1 u.2.2.2.2.1 (λe f=>?_) I λH' D m fr z B A ch=>O H' D m ?_]
 .erw[AI (w.j1.ks e f) λr N K q=>xea q λb L pk=>pk.me.tp]
 .erw[xa (w.j1.chg w.fu fr B A I C ch) λh sp=>?_,(x:As Hd H')=λb o e=>fr b o (w.sm b o e) (Am e w.np.1) (Am e w.np.2),(z,h,w.j2.oth w.fu w.j1 fr (A3f w.pp) (A3f w.mm) w.a2,w.pp,w.mm,λe f E s=>?_,λe f=>?_,w.a2,x,λe f y t=>?_,w.n2,w.np,w.np2)]
  .rcases sp e f with f|⟨rfl,l⟩
   .erw[w.dj e f E s]
   .erw[AI (w.j2.ks E s) λr N K q=>xea q λb L pk=>(pk.dj (l _ B0,λd M=>l d (by simp[M]))).sym']
  .rcases sp e f with f|⟨rfl,l⟩
   .erw[w.a1 e f]
   .exact(w.a1 _ w.j1.cu).oth w.j2.hm l
  .rcases sp e f with f|⟨rfl,l⟩
   .erw[w.nn e f y t]
   .erw[k=w.nn _ w.j1.cu];simp only[zL,W4,Y5,C4]at t k;rcases t with rfl|rfl|rfl|rfl|rfl|rfl|t
    .erw[k _ B0]
    .erw[k _ B0]
    .erw[k _ B0]
    .erw[k _ B0]
    .erw[k _ B0]
    .erw[As.noneN w.sm (l _ B0)]
    .erw[As.noneN w.sm (l _ (by simp[t]))]
theorem W62.told{ψ:D_}{f:Nat}(w:W62 a Hd H g G F R c j j')(y:Rs3 R)(few:G.length<=7000000)(v:Fv G f ψ){h:List Cl}(dk:Ms h ψ)(A:ByC h)(le:h.length<=500){u:R_}{d:H_}(hL:Hd u=n8 (.lst (d.map V.ref)))(r:Paired (Lu Hd) d h)(k:∀(L:R_)(ts:H_)(H':Hp),W62 a Hd H' g G F R c j j'->H' L=n8 (.lst (ts.map V.ref))->H' u=n8 (.lst (d.map V.ref))->Paired (Lu H') ts h->Paired (Lu H') d h->Q (.ref L) H'):Yq a [.ref g.p,.int (f:Int)] H Q :=
 aGZ w.fu v dk A le A3 λL ts H' fx l _ m n=>by
  refine xea (w.j1.zs w.fu y.inj y.ok) λb B zs=>?_;have q:FrQ g H H':=λx o e C D=>fx.get (λz=>by
   rcases C4.mp z with z|z
   .erw[C z]
   .exact D (C5.mp z)) e
  erw[s=w.stp zs (FrQ.z q) (zs.frQ q l) (AG.refl w.fu.ok) B (C1 _),k L ts H' s m (s.sm _ _ hL) n (PairedM.imp (λt c z=>s.sm _ _ z) r)]
theorem Pk.ap'{Κ:KTy}{N b:Nat}{r:Aw}{m:MA}(h:Pk H g G Κ N b r m)(d:AR a H g G){x:R_}(n:H x=n9):ApZ g m x:=by
 erw[xea d.at'.pt λts u _=>xea d.am λv f _=>xea d.bx λw p _=>xea h.me.ce λA q _=>?_,(no:∀{y:R_}{o:HO},H y=n8 o->x≠y)=λ{y o} e z=>by rw[z,e]at n;cases n]
 erw[(λz=>?_,λz=>?_,no d.br,no h.me.l)]
 .simp only[C4,F7,A5a]at z;rcases z with z|z|z|z|z|z
  .erw[no d.at'.lv z]
  .erw[no u z]
  .erw[no d.at'.nm z]
  .erw[no f z]
  .erw[no p z]
  .erw[no q z]
 .erw[xe (J6 z) λk t=>xea (h.me.sq k x t) λB s _=>no s Z]
theorem JOk.nw{p n mem s:R_}{r:Aw}{m:MA}{b:Nat}(d:AR a H g G)(zs:ZS a H' g G (Kg r F 3) 21000 b p n mem s r m)(h:H' mem=n8 (.dK (mK [#[AZ r,m]])))(nm:H mem=n9)(A:mem∉m.ds)(q:r∈R)(w:b<=G.length+c):JOk a H' g G F R c (p,n,mem,s,r,m,[#[AZ r,m]]):=by
 erw[xea d.at'.pt λts B _=>xea d.am λD t _=>xea d.bx λE u _=>xea zs.jz.jw.me.ce λx v _=>?_,(no:∀{y:R_}{o:HO},H y=n8 o->mem≠y)=λ{y o} e z=>by rw[z,e]at nm;cases nm]
 erw[(zs.jz.jw.hp,h,zs.jz.jw.ru,q,by simp,by simp,λe f=>?_,λe f=>?_,λe f C k ne=>?_)]
 .erw[[C5.mp f],(r,q,Z,b,w,zs.pk)]
 .erw[[C5.mp f],(λz=>?_,A,no d.br,λz=>?_)]
  .simp only[C4,F7,A5a]at z;rcases z with z|z|z|z|z|z
   .erw[no d.at'.lv z]
   .erw[no B z]
   .erw[no d.at'.nm z]
   .erw[no t z]
   .erw[no u z]
   .have z:mem=m.kc:=z;rw[z,v]at h;cases h
  .have z:mem=m.l:=z;rw[z,zs.jz.jw.me.l]at h;cases h
 .rw[C5.mp f,C5.mp k]at ne;erw[absurd Z ne]
theorem W62.mk2{p v mem x:R_}{r:Aw}{m:MA}(t:AR a H g G)(f:JOk a H g G F R c j)(s:As H H')(E:JOk a H' g G F R c (p,v,mem,x,r,m,[#[AZ r,m]]))(w:H p=n9)(nm:H mem=n9)(fr:∀y∈m.l::m.kc::m.ds,H y=n9)(q:As Hd H)(h:∀e∈j.ms,∀y∈zL g e.2,Hd y=n9)(I:Hd j.p=n9/\Hd j.mem=n9):W62 a Hd H' g G F R c j (p,v,mem,x,r,m,[#[AZ r,m]]):=by
 erw[(t.same s,f.same t s,E,λz=>?_,λz=>?_,λe k K u=>?_,λe k=>?_,λe k=>?_,q.trans s,h,λe k y o=>?_,I,(As.noneN q w,As.noneN q nm))]
 .erw[e=f.hp];rw[z,w]at e;cases e
 .erw[e=f.hm];rw[z,nm]at e;cases e
 .erw[[C5.mp u],AI (f.ks e k) λr D A n=>xea n λb B pk=>pk.dj (fr _ B0,λd C=>fr d (by simp[C]))]
 .erw[AI (f.ks e k) λr D A n=>xea n λb B pk=>pk.ap' t nm]
 .erw[[C5.mp k],(f.ap _ f.cu).oth f.hm fr]
 .rw[C5.mp k]at o;erw[h=h _ f.cu];simp only[zL,W4,Y5,C4]at o h;rcases o with rfl|rfl|rfl|rfl|rfl|rfl|o
  .erw[h _ B0]
  .erw[h _ B0]
  .erw[h _ B0]
  .erw[h _ B0]
  .erw[h _ B0]
  .erw[As.noneN q (fr _ B0)]
  .erw[As.noneN q (fr _ (by simp[o]))]
end
theorem GE{α β:Type}{f:α->β}:∀{l m:List α},(∀x∈l,∀y∈m,f x=f y->x=y)->l.map f=m.map f->l=m
|[],[],_,_=>rfl
|[],_::_,_,e=>by cases e
|_::_,[],_,e=>by cases e
|x::l,y::m,h,e=>by
 rw[J0,J0]at e;injection e with e1 e2
 rw[h x D5 y D5 e1,GE (λa c b d=>h a (D6 _ c) b (D6 _ d)) e2]
theorem aDG{d e:Int}(h:GK d)(k:GK e)(z:sgD d=sgD e):d=e:=by
 have z:[48+d.toNat]=[48+e.toNat]:=A4e (λs:Str=>s.cps.toList) z;injection z with z
 erw[a=h.1,b=k.1];lia
theorem ZH{x y:Option Int}(h:wOk x)(k:wOk y)(z:wC x=wC y):x=y:=by
 cases x with
 |none=>cases y with
  |none=>rfl
  |some e =>
   have z:42=48+e.toNat:=z;lia
 |some d=>cases y with
  |none =>
   have z:48+d.toNat=42:=z;lia
  |some e =>
   erw[(z:48+d.toNat=48+e.toNat)=z,(h:GK d)=h,(k:GK e)=k,a=h.1,b=k.1];rw[show d=e by lia]
theorem Tc(s:Int)(ns:I_):(AX (.am s ns)).cps.toList=(48+s.toNat)::61::ns.map λn=>48+n.toNat:=by
 show(sgD s++⟨#[61]⟩++DS ns).cps.toList=_;rw[Tx.Cz,Tx.Cz];rfl
theorem aD3{a:List (Option Int)}(h:Bl.ok (.pl a)):61∉(AX (.pl a)).cps.toList:=by
 erw[(e:(AX (.pl a)).cps.toList=a.map wC)=rfl,[e],?z,xea (F0.mp z) λx b e=>(Pb (h.2 x b)).1 e]
theorem Zu{c d:Bl}(h:c.ok)(k:d.ok)(z:AX c=AX d):c=d:=by
 cases c with
 |am s ns=>cases d with
  |am t f =>
   have z:(AX (.am s ns)).cps.toList=(AX (.am t f)).cps.toList:=A4e (λs:Str=>s.cps.toList) z;rw[Tc,Tc]at z;injection z with z1 z2
   injection z2 with _ z2
   erw[l=h.1.1,n=k.1.1,(i:s=t)=by lia]
   have j:ns=f:=GE (λx a y b e=>by
    have m:=(h.2.2.1 x a).1;have o:=(k.2.2.1 y b).1;lia) z2
   rw[i,j]
  |pl g =>
   exfalso;erw[aD3 k ?_,[-z,Tc],D6 _ D5]
 |pl g=>cases d with
  |am t f =>
   exfalso;erw[aD3 h ?_,[z,Tc],D6 _ D5]
  |pl vs =>
   erw[(z:g.map wC=vs.map wC)=A4e (λs:Str=>s.cps.toList) z,[GE (λx a y b e=>ZH (h.2 x a) (k.2 y b) e) z]]
theorem UH{c d:Ba}(h:c.ok)(k:d.ok)(z:BD c=BD d):c=d:=by
 erw[e=Jr h];rw[z,Jr k]at e;injection e with a e2
 erw[xa (List.append_inj' e2 Z) λf b=>?_];injection b with b
 have a:[wC d.cell]=[wC c.cell]:=A4e (λs:Str=>s.cps.toList) a;injection a with a
 erw[g=ZH k.cell h.cell a,i=GE (λx l y m e=>Zu (k.conds x l) (h.conds y m) e) f,j=aDG k.makes h.makes b,!c,!d,!g,!i,!j];rfl
theorem YG{r s:Aw}(h:EC r)(k:EC s)(z:AZ r=AZ s):r=s:=by
 have no:∀{t:Aw},t≠[]->AZ t≠AZ []:=λ{t} n e=>by
  have:=B2d (WB n);erw[this (A4e V.str (e.trans Z))]
 cases r with
 |nil=>cases s with
  |nil=>rfl
  |cons c t=>erw[absurd z.symm (no A4)]
 |cons c t=>cases s with
  |nil=>erw[absurd z (no A4)]
  |cons d u =>
   have sp:∀{q:Aw},EC q->q≠[]->Txt.split (AZ q) ⟨[59,32].toArray⟩=q.map BD:=λ{q} f l=>by
    erw[Tx.Og (q.map BD) (by erw[?z,l (Q8.mp z)]) λt g=>?_,xea (F0.mp g) λc b a=>?_,<-a,Ov (f.ok c b)]
   erw[e=sp h A4];rw[z,sp k A4]at e;exact(GE (λx i y j e=>UH (k.ok x i) (h.ok y j) e) e).symm
theorem Ni.mono(h:Ni Κ N)(e:N<=a):Ni Κ a:=by
 erw[xea h.ls λM b c=>((M,C9 b e,c),h.ext)]
theorem InW.step(b:CF r 0 BE=0)(h:InW φ X Y W B)(n:Nat):InW (sFN r n φ) (X-n) (Y-n) (W+2*n) (B+2*n):=λu v z=>by
 erw[Ci (JN b z) λx y g i j k a=>xa3 (h x y a) λc d e f=>(by lia,by lia,by lia,by lia)]
theorem InW.near(h:InW φ X Y 5 4)(f:-(2^38)<=X)(g:X<2^38)(i:-(2^38)<=Y)(j:Y<2^38){k:Nat}(e:k<=9):QV φ k:=λu v z=>by
 erw[xa3 (h u v z) λa b c d=>(by lia,by lia,by lia,by lia)]
theorem aFl(h:Dd ds n x y):InW (stC ds) x y 5 4:=λu v z=>by
 rcases OI ds u v with ⟨c,d,a,b,_⟩|⟨_,e⟩
 .erw[<-a,<-b,(h.ok c d).2]
 .erw[absurd e z]
theorem aGr{H:Hp}{g:GA}{m:MA}(ng:∀y∈CN g,H y=n9)(fr:∀y∈m.l::m.kc::m.ds,H y=n9):∀y∈zL g m,H y=n9:=λy a=>by
 simp only[zL,W4,Y5,C4]at a;rcases a with rfl|rfl|rfl|rfl|rfl|rfl|a
 .erw[ng _ (by simp[CN])]
 .erw[ng _ (by simp[CN])]
 .erw[ng _ (by simp[CN])]
 .erw[ng _ (by simp[CN])]
 .erw[ng _ (by simp[CN])]
 .erw[fr _ B0]
 .erw[fr _ (by simp[a])]
theorem aES{φ ψ:D_}{X Y U b:Int}(h:InW φ X Y 5 4)(k:InW ψ U b 5 4)(l:-(2^38)<=X/\X<2^38)(m:-(2^38)<=Y/\Y<2^38)(i:-(2^38)<=U/\U<2^38)(j:-(2^38)<=b/\b<2^38):Bf [φ,ψ]:=by
 erw[(λr n=>(aEs n (qs:=[#[φ,X,Y],#[ψ,U,b]]) (W:=5) (D:=4) fun χ a u v z=>?_).mono ng62,fun χ a=>?_)]
 .rcases C4.mp a with e|a
  .rw[e]at z⊢;erw[xa3 (h u v z) λc d f g=>(X,Y,by simp,c,d,f,g)]
  .rw[C5.mp a]at z⊢;erw[xa3 (k u v z) λc d f g=>(U,b,by simp,c,d,f,g)]
 .rcases C4.mp a with e|a
  .erw[[e],h.near l.1 l.2 m.1 m.2 A6]
  .erw[[C5.mp a],k.near i.1 i.2 j.1 j.2 A6]
seal L2.PA L2.PE L2.PS L2.PSs L2.PT L2.PW
def Row(H:Hp)(L:R_)(ψ:D_):Prop:=∃(ts:H_)(cs:List Cl),H L=n8 (.lst (ts.map V.ref))/\Paired (Lu H) ts cs/\Ms cs ψ/\ByC cs/\cs.length<=500
theorem aHL{H:Hp}{D:R_}{u v:List (List Key×V)}(h:Rd H D (.dT u))(k:Rd H D (.dT v)):u=v:=by
 rcases h with h|⟨o,h⟩<;>rcases k with k|⟨a,k⟩<;>rw[h]at k<;>cases k<;>rfl
theorem WE{H a:Hp}{D:R_}{u:HO}(h:Rd H D u)(k:∀o,H D=n8 o->a D=n8 o):Rd a D u:=by
 rcases h with h|⟨o,h⟩
 .erw[.inl (k _ h)]
 .erw[.inr (o,k _ h)]
theorem aHM{H:Hp}{D x:R_}{u:List (List Key×V)}{xs:List V}(h:Rd H D (.dT u))(e:H x=n8 (.lst xs)):D≠x:=λz=>by
 rw[<-z]at e;rcases h with h|⟨o,h⟩<;>rw[e]at h<;>cases h
theorem Row.kp{H f:Hp}{D a x:R_}{ψ:D_}{u:List (List Key×V)}{xs:List V}(h:Row H x ψ)(k:∀b o,H b=n8 o->b≠D->b≠a->f b=n8 o)(g:Rd H D (.dT u))(p:H a=n8 (.lst xs))(n:x≠a):Row f x ψ:=by
 erw[Ci h λts cs d i j l m=>(ts,cs,k _ _ d (λz=>?_) n,PairedM.imp (λt c z=>k _ _ z (aCE g z) λy=>?_) i,j,l,m)]
 .rw[z]at d;rcases g with e|⟨o,e⟩<;>rw[d]at e<;>cases e
 .have z:H t=n8 _:=z;rw[y,p]at z;cases z
section
variable{P:N_}{w:Q_}{K:O_}{mg:C_}{n6:T_}{a:Ad}
inductive aDl(vs:List V)(H:Hp)(Q:VK):Prop
|mk (H0:Hp) (q D:R_) (r:Aw) (ds:List Cl) (φ:D_) (X Y:Int) (_:vs=[.ref q,.ref D]) (_:LU H0 q r) (_:EC r) (_:CF r 0 BE=0) (_:As H0 H) (_:H0 D=n9) (_:Rd H D (.dT (kvC ds))) (_:Ms ds φ) (_:InW φ X Y 5 4) (_:ds.length<=500) (_:-(2^38)<=X/\X<2^38/\-(2^38)<=Y/\Y<2^38) (_:∀(L:R_)(Ls:H_)(H':Hp),FrO D H H'->Rd H' D (.dT (kvC ds))->H L=n9->H' L=n8 (.lst (Ls.map V.ref))->Ls.length=4->(∀t<4,∃x,Ls[t]?=n8 x/\Row H' x (sFN r t φ))->Q (.ref L) H'):aDl vs H Q
def ZV:Sp:=λvs H Q _=>aDl vs H Q
theorem aFL(F:Fun K "_law_rows_of" "_law_rows_of" Ge f fd)(T:Top K mg a)(aP:Cal P w K mg n6 CX0 5 "_law_listed" Fc Wr)(cN:Cal P w K mg n6 CX0 4 "_law_step" Lb ZT):AJ P w K mg n6 CX0 6 f fd Lb ZV:=by
 erw[F.ok DT D_9 λbf A a9 s H vs Q E hr h=>?_]
 erw[(H0,q,D,r,ds,φ,X,Y,rfl,hq,ro,re,s0,n0,rd,dk,a4,ld,bd,k)=h,(_,(Ac (Ax 2 DT.nd (BO (Aa (AB aP hr (Aa pv1 Ab)) Ab))) (Ac (BN A3g Z (Ce Z T.V_ (AN Ab)) (AV (i:=3) DT.nd Z O_9) (Ac (Ax 1 DT.nd (AB cN hr (Aa pv0 (Aa pv1 Ab)))) (Ag (Bq (Dm A4a A4b A4c BI pv2 (Aa (AB aP hr (Aa pv1 Ab)) Ab)))))) (Ag (Av pv2)))),?_),Bn ?_,?r1 s1 k1 a1 E1,aGU ?_,xq1 Z (D,ds,Z,rd,dk.nd,by lia,λo1 L1 be az H1 aa ab a6 ac au af ah=>?_),(S_1,λO hO=>?_)];generalize e2:upd H1 O _=H2;erw[xa (alc hO e2) λs2 a0=>?_];have as:H O=n9:=by
  cases e:H O with
  |none=>rfl
  |some u =>
   erw[(z:O=D)]
   .rw[z,ab]at hO;cases hO
   .rw[aa _ _ e z]at hO;cases hO
 erw[(a8:L1≠O)=Am ac hO,aj=dk.perm af,(aw:Row H2 L1 (sFN r 0 φ))=(be,az,s2 _ _ ac,PairedM.imp (λt c z=>s2 _ _ z) au,aj,ah,by erw[[af.length_eq],ld])]
 erw[(fr2:FrO D H H2)=λb u e n=>s2 _ _ (aa b u e n),(an:Rd H2 D (.dT (kvC ds)))=.inr (_,s2 _ _ ab),-e2 s2 ac au af ah aj aa ab a6 hO,a1 (Bn ?_),?r2 bg k2 a2 E2,(3,Z,by decide,by decide,BX (n:=3) (λj σ B=>∃(m:R_)(es:List Cl)(G:H_)(u3:Option V),σ=[n8 (.ref q),n8 (.ref m),n8 (.ref O),u3]/\FrO D H B/\Rd B D (.dT (kvC ds))/\(m=D\/H m=n9)/\Rd B m (.dT (kvC es))/\Ms es (sFN r j φ)/\es.length<=500/\B O=n8 (.lst (G.map V.ref))/\G.length=j+1/\∀t<j+1,∃x,G[t]?=n8 x/\x≠O/\Row B x (sFN r t φ)) (D,ds,[L1],n9,Z,fr2,an,.inl Z,an,dk,ld,a0,Z,λt ht=>?_) ?_ ?_)]
 .have:t=0:=by lia
  erw[<-this,(L1,Z,a8,aw)]
 .erw[?j σ B hj ax,Cd ax λm es G u3 W fo g ae v=>xa5 v λl ai aq I ln ag=>?_,-v,-ax,<-W,Bn ?_,?r3 s3 k3 a3 E3,(bb:As H0 B)=λb o e=>fo b o (s0 b o e) (Am e n0)];have a5:H0 m=n9:=by
   rcases ae with e|e
   .erw[[e],n0]
   .erw[As.noneOf s0 e]
  erw[xw2 Z Z (H0,q,m,r,es,sFN r j φ,X-j,Y-j,5+2*j,4+2*j,Z,hq,ro,re,bb,a5,l,ai,a4.step re j,aq,(by lia,by lia),(by lia,by lia,by lia,by lia),λD2 ak H9 al av d ao S ar=>?_),a3 ?_];have a7:O≠m:=λz=>by
   rw[z]at I;rcases l with e|⟨o,e⟩<;>rw[I]at e<;>cases e
  erw[ad=al _ _ I a7,xq1 Z (.inl (Z,_,SqL.of ad),?_),xq1 Z (D2,ak,Z,.inl ao,S.nd,by lia,λo L ts cs C p am nL hL pr pm bc=>?_),(N:O≠D2)=Am I d,M=p _ _ ad N,(R:L≠O)=A3f (Am ad nL),(O,_,_,Z,Z,M,by erw[[C0,ln],D8 (show j+1<5 by lia) (by show 5<=sizeLine;decide)],?_)];have kp:∀b o,B b=n8 o->b≠m->b≠O->upd C O (.lst (G.map V.ref++[V.ref L])) b=n8 o:=λb o e n1 n2=>by
   erw[[Aq n2],p _ _ (al _ _ e n1) (Am e d)]
  have nD:D≠O:=aHM g I;have n2:H D2=n9:=by
   cases e:H D2 with
   |none=>rfl
   |some u =>
    erw[(z:D2=D)]
    .rw[z]at d;rcases g with U|⟨o',U⟩<;>rw[d]at U<;>cases U
    .rw[fo _ _ e z]at d;cases d
  have ba:Rd (upd C O (.lst (G.map V.ref++[V.ref L]))) D (.dT (kvC ds)):=by
   erw[(z:m=D)]
   .rw[z]at l av;erw[[aHL g l],WE av λo' e=>?_,[Aq nD]];exact p _ _ e λy=>by
     rw[<-y]at d;rcases g with U|⟨o',U⟩<;>rw[d]at U<;>cases U
   .erw[WE g λo' e=>kp _ _ e (A3f z) nD]
  erw[(D2,ak,G++[L],_,Z,λb u e n=>kp b u (fo b u e n) ?_ (Am e as),ba,.inr n2,.inr (_,by erw[[Aq (A3f N)],am]),S,ar,by rw[Af,D4];rfl,by rw[D3,ln];rfl,λt ht=>?_)]
  .rcases ae with z|z
   .erw[[z],n]
   .erw[Am e z]
  .erw[(z:t<j+1)]
   .erw[AI (ag t z) λx e nx rw=>(x,by erw[[M5 A3],e],nx,rw.kp kp l I nx)]
   .have:t=j+1:=by lia
    erw[<-this,(L,by rw[L5 A3,ln,V4];rfl,R,ts,cs,by erw[[Aq R],hL],PairedM.imp (λt' c z=>?_) pr,S.perm pm,bc,by erw[[pm.length_eq],ar]),(z:C t'=n8 _)=z,(_:upd C O _ t'=n8 _),[Aq λy=>by rw[y,M]at z;cases z],z]
 .erw[?σ B ay,Cd ay λm es G u3 W fo g ae v=>xa5 v λl ai aq I ln ag=>?_,-v,-ay,<-W,a2 (xq1 Z (k O G B fo g as I ln λt ht=>?_)),AI (ag t ht) λx e _ rw=>(x,e,rw)]
end
end J
namespace J
open PySem L2
def FrD(Ds:H_)(H H':Hp):Prop:=∀b o,H b=n8 o->b∉Ds->H' b=n8 o
theorem FrD.trans{c:H_}{H d a:Hp}(h:FrD c H d)(k:FrD c d a):FrD c H a:=λb o e n=>k _ _ (h _ _ e n) n
theorem As.fd{c:H_}{H a:Hp}(s:As H a):FrD c H a:=λb o e _=>s b o e
def Hps(H:Hp)(Ds:H_)(Es:List (List Cl)):Prop:=Paired (λD e=>Rd H D (.dT (kvC e))) Ds Es
theorem Hps.same{H c:Hp}{a:H_}{b:List (List Cl)}(h:Hps H a b)(s:As H c):Hps c a b:=Paired.imp (λ_ _ z=>aD8 z s) h
theorem Hps.kp{H c:Hp}:∀{a:H_}{b:List (List Cl)},Hps H a b->(∀D∈a,∀o,H D=n8 o->c D=n8 o)->Hps c a b
|_,_,.nil,_=>.nil
|_,_,.cons h p,k=>.cons (WE h (k _ D5)) (Hps.kp p λD d=>k D (D6 _ d))
theorem Hps.no{H:Hp}{b:R_}{o:HO}(e:H b=n8 o)(d:∀a,o≠.dT a)(f:∀g a,o≠.frz g a):∀{c:H_}{i:List (List Cl)},Hps H c i->b∉c
|_,_,.nil=>λz=>nomatch z
|_,_,.cons h p=>λz=>by
 rcases C4.mp z with rfl|z
 .rcases h with h|⟨g,h⟩<;>rw[h]at e<;>cases e
  .erw[d _ Z]
  .erw[f _ _ Z]
 .erw[Hps.no e d f p z]
theorem Hps.lst{H c:Hp}{a:H_}{d:List (List Cl)}(h:Hps H a d)(f:FrD a H c){b:R_}{xs:List V}(e:H b=n8 (.lst xs)):c b=n8 (.lst xs):=f _ _ e (Hps.no e (λ_ z=>nomatch z) (λ_ _ z=>nomatch z) h)
theorem Hps.tup{H c:Hp}{a:H_}{d:List (List Cl)}(h:Hps H a d)(f:FrD a H c){b:R_}{xs:List V}(e:H b=n8 (.tup xs)):c b=n8 (.tup xs):=f _ _ e (Hps.no e (λ_ z=>nomatch z) (λ_ _ z=>nomatch z) h)
theorem Hps.ne{H:Hp}{D:R_}(n:H D=n9):∀{a:H_}{b:List (List Cl)},Hps H a b->D∉a
|_,_,.nil=>λz=>nomatch z
|_,_,.cons h p=>λz=>by
 rcases C4.mp z with rfl|z
 .erw[aD6 h n Z]
 .erw[Hps.ne n p z]
theorem aD5{H b:Hp}{D a:R_}{c:List (List Key×V)}(d:Rd H D (.dT c))(n:D≠a)(f:FrO a H b):Rd b D (.dT c):=WE d λ_ e=>f _ _ e n
theorem Hps.ot{H c:Hp}{D:R_}(f:FrO D H c):∀{a:H_}{b:List (List Cl)},Hps H a b->D∉a->Hps c a b
|_,_,.nil,_=>.nil
|_,_,.cons h p,n=>.cons (aD5 h (λz=>n (z▸D5)) f) (Hps.ot f p λz=>n (D6 _ z))
theorem Hps.fo{H d:Hp}{c:H_}{i:List (List Cl)}{D:R_}{e:List Cl}(h:Hps H c i)(r:c.Nodup){j:Nat}(g:c[j]?=n8 D)(k:i[j]?=n8 e)(f:FrO D H d)(s:Rd d D (.dT (kvC e))):Hps d c i/\FrD c H d:=by
 erw[(?_,λb o e n=>f _ _ e λz=>n (z▸D0 g))];induction h generalizing j with
 |nil=>erw[.nil]
 |cons l p m =>
  erw[a=N8.mp r];cases j with
  |zero =>
   erw[!g,!k,.cons s (Hps.ot f p a.1)]
  |succ j =>
   erw[.cons (aD5 l (λq=>a.1 (q▸D0 (show _=n8 D from g))) f) (m a.2 g k)]
def RwA(H:Hp)(r:Aw)(L:R_)(φ:D_):Prop:=∃Ls:List Addr,H L=n8 (.lst (Ls.map V.ref))/\Ls.length=4/\∀t<4,∃x,Ls[t]?=n8 x/\Row H x (sFN r t φ)
def DuA(H:Hp)(F:List (Int->Int->Nat))(L:R_)(r:Aw):Prop:=∃Vs:List Addr,H L=n8 (.lst (Vs.map V.ref))/\Paired (RwA H r) Vs F
def KLT(H H':Hp):Prop:=(∀b xs,H b=n8 (.lst xs)->H' b=n8 (.lst xs))/\∀b xs,H b=n8 (.tup xs)->H' b=n8 (.tup xs)
theorem Hps.kl{H b:Hp}{a:H_}{c:List (List Cl)}(h:Hps H a c)(f:FrD a H b):KLT H b:=(λ_ _ e=>h.lst f e,λ_ _ e=>h.tup f e)
theorem As.kl{H a:Hp}(s:As H a):KLT H a:=(λ_ _ e=>s _ _ e,λ_ _ e=>s _ _ e)
theorem RwA.kp{H b:Hp}{r:Aw}{L:R_}{φ:D_}(k:KLT H b)(h:RwA H r L φ):RwA b r L φ:=by
 erw[AI h λd j l m=>(d,k.1 _ _ j,l,λt n=>?_),xea (m t n) λx e a=>AK a λts cs f g i=>(x,e,ts,cs,k.1 _ _ f,PairedM.imp (λt c z=>k.2 _ _ z) g,i)]
theorem DuA.kp{H a:Hp}{F:List (Int->Int->Nat)}{r:Aw}{L:R_}(k:KLT H a)(h:DuA H F L r):DuA a F L r:=by
 erw[xea h λb c d=>(b,k.1 _ _ c,Paired.imp (λ_ _ z=>z.kp k) d)]
section
variable{a:Ad}{Hd H H':Hp}{g:GA}{G:Gv}{F:List (Int->Int->Nat)}{R:List Aw}{c b N:Nat}{j j':JRc}{Κ:KTy}{r:Aw}{m:MA}
theorem Pk.fr0(h:Pk H g G Κ N b r m)(ok:GOk G)(k:∀x o,H x=n8 o->(x=m.tp\/x=m.l\/x∈m.ds\/x=m.kc)->H' x=n8 o):Pk H' g G Κ N b r m:=by
 erw[xe h.cn λf n=>(h.me.kp ok (AG.refl ok) k,(f,n.kp (i:=0) ok (AG.refl ok) (λd q o e=>k d o e (.inr (.inr (.inl q)))) λp e=>(p,k _ _ e (.inr (.inr (.inr Z))),C1 _)),h.na,h.nb)]
theorem AR.has(d:AR a H g G){y:R_}(f:y∈CN g)(n:H y=n9):False:=by
 erw[xea d.at'.pt λts k _=>xea d.am λl h _=>xea d.bx λp i _=>?_,(no:∀{x:R_}{o:HO},H x=n8 o->y≠x)=λ{x o} e z=>by rw[z,e]at n;cases n]
 simp only[CN,C4,F7,A5a]at f;rcases f with e|e|e|e|e|e
 .erw[no d.at'.lv e]
 .erw[no k e]
 .erw[no d.at'.nm e]
 .erw[no d.br e]
 .erw[no h e]
 .erw[no i e]
theorem aD9{ts:H_}{u v:Int}:ts.map V.ref≠[.int u,.int v]:=λz=>by
 cases ts with
 |nil=>cases z
 |cons t ts=>cases z
theorem W62.put{x:R_}{u v:Int}{o:HO}(w:W62 a Hd H g G F R c j j')(K:Hd x=n8 (.lst [.int u,.int v])):W62 a (upd Hd x o) (upd H x o) g G F R c j j':=by
 erw[f=w.sm _ _ K];have kp:∀{b:R_}{s:HO},H b=n8 s->s≠.lst [.int u,.int v]->upd H x o b=n8 s:=λ{b s} e n=>by
  erw[[Aq (λz=>n (by rw[z,f]at e;exact(A3h e).symm))],e]
 have A:∀{y:R_},Hd y=n9->upd Hd x o y=n9:=λ{y} e=>by
  erw[[Aq (λz=>by rw[z,K]at e;cases e)],e]
 have L:∀{j:JRc},JOk a H g G F R c j->JOk a (upd H x o) g G F R c j:=λ{j} h=>by
  erw[(kp h.hp (λz=>nomatch z),kp h.hm (λz=>nomatch z),h.ru.kp λy s e nv=>kp e (by cases nv<;>intro z<;>cases z),h.iR,h.cu,h.nd,λe B=>?_,h.ap,h.dj),AI (h.ks e B) λr T P E=>xea E λb S pk=>(r,T,P,b,S,pk.fr0 w.fu.ok λy s d k=>kp d λz=>?_),<-z];rcases k with rfl|rfl|k|rfl
  .rw[pk.me.tp]at d;cases d
  .rw[pk.me.l]at d;injection d with d
   injection d with d
   erw[aD9 d]
  .erw[xe (J6 k) λi hi=>xea (pk.me.sq i y hi) λkv Q _=>?_];rw[Q]at d;cases d
  .erw[xea pk.me.ce λkc M _=>?_];rw[M]at d;cases d
 erw[p=w.fu];have D:AR a (upd H x o) g G:=by
  erw[p.fx (l:=[x]) (λb s e z=>?_) λy t z=>?_]
  .erw[(q:b=x)]
   .rw[q,f]at e;erw[!e,(z (C5.mpr q)).elim]
   .erw[[Aq q],e]
  .rw[C5]at z;simp only[CN,C4,F7,A5a]at t;rw[z]at t;erw[xe p.g0 λW O=>xea p.at'.pt λts U _=>xea p.am λX C _=>xea p.bx λY I _=>?_];have le:∀{xs:List V},H x=n8 (.lst xs)->xs=[.int u,.int v]:=λ{xs} e=>by
    rw[f]at e;injection e with e
    injection e with e
    erw[e.symm]
   rcases t with e|e|e|e|e|e
   .have:=A4e List.length (le (e▸p.at'.lv));rw[C0,O,D3,SQ]at this;have:56+W.length=2:=this;lia
   .erw[aD9 (le (e▸U))]
   .have:=p.at'.nm;rw[<-e,f]at this;cases this
   .have:=A4e List.length (le (e▸p.br));rw[C0]at this;erw[absurd (show(Dn 48).length=2 from this) A6]
   .rw[<-e,f]at C;cases C
   .rw[<-e,f]at I;cases I
 erw[(D,L w.j1,L w.j2,w.pp,w.mm,w.dj,w.a1,w.a2,λb s e=>?_,λe B y t=>A (w.nn e B y t),λe B y t=>A (w.n2 e B y t),(A w.np.1,A w.np.2),A w.np2.1,A w.np2.2),(q:b=x)]
 .rw[q,Af]at e⊢;erw[e]
 .rw[Aq q]at e⊢;erw[w.sm _ _ e]
theorem W62.ext{x:R_}{o:HO}(w:W62 a Hd H g G F R c j j')(n:H x=n9):W62 a (upd Hd x o) (upd H x o) g G F R c j j':=by
 erw[s=An (o:=o) n,k=w.same s];have p:∀{j:JRc},JOk a H g G F R c j->∀e∈j.ms,∀y∈zL g e.2,y≠x:=λ{j} h e f y d z=>by
  erw[AI (h.ks e f) λr v t l=>xea l λb u pk=>?_,ap=pk.ap' w.fu n];rw[z]at d;rcases J9.mp d with q|q
  .erw[ap.n0 q]
  .erw[ap.n1 q]
 have i:∀{y:R_},Hd y=n9->y≠x->upd Hd x o y=n9:=λ{y} e z=>by
  erw[[Aq z],e]
 erw[(k.fu,k.j1,k.j2,w.pp,w.mm,w.dj,w.a1,w.a2,λb A e=>?_,λe f y d=>i (w.nn e f y d) (p w.j1 e f y d),λe f y d=>i (w.n2 e f y d) (p w.j2 e f y d),(i w.np.1 (Am w.j1.hp n),i w.np.2 (Am w.j1.hm n)),i w.np2.1 (Am w.j2.hp n),i w.np2.2 (Am w.j2.hm n)),(q:b=x)]
 .rw[q,Af]at e⊢;erw[e]
 .rw[Aq q]at e;erw[k.sm _ _ e]
def hL(hs:J_):HO:=.lst (hs.map λn:Nat=>V.int (n:Int))
inductive L8(a:Ad)(Hd H:Hp)(g:GA)(G:Gv)(F:List (Int->Int->Nat))(R:List Aw)(c:Nat)(x p0 p1:R_):List Nat->Prop
|mk (j0 j1:JRc) (h0 h1:Nat) (_:W62 a (upd Hd x (hL [h0,h1])) H g G F R c j0 j1) (_:j0.p=p0) (_:j1.p=p1) (_:R[h0]?=n8 j0.r) (_:R[h1]?=n8 j1.r):L8 a Hd H g G F R c x p0 p1 [h0,h1]
theorem L8.sel{x q s:R_}{d:J_}(h:L8 a Hd H g G F R c x q s d){o:Nat}(E:o<2):∃(j j':JRc)(n:Nat),d[o]?=n8 n/\[q,s][o]?=n8 j.p/\R[n]?=n8 j.r/\(∃I K,d=[I,K])/\W62 a (upd Hd x (hL d)) H g G F R c j j'/\∀{H':Hp}{u:Gv}{v:Nat}{k:JRc}{l:Nat},W62 a (upd Hd x (hL (d.set o l))) H' g u F R v k j'->k.p=j.p->R[l]?=n8 k.r->L8 a Hd H' g u F R v x q s (d.set o l):=by
 erw[(y,z,C,D,w,f,i,A,B)=h]
 match o,E with
 |0,_=>exact(y,z,C,Z,A4e n8 f.symm,A,(_,_,Z),w,λt e r=>.mk _ _ _ _ t (e.trans f) i r B)
 |1,_=>exact(z,y,D,Z,A4e n8 i.symm,B,(_,_,Z),w.symm,λt e r=>.mk _ _ _ _ t.symm f (e.trans i) A r)
end
seal L2.PA L2.PE L2.PS L2.PSs L2.PT L2.PW
theorem gmp{α β:Type}{f:α->β}{xs:List α}{j:Nat}{x:α}(e:xs[j]?=n8 x):(xs.map f)[j]?=n8 (f x):=by rw[C3,e];rfl
section
variable{P:N_}{w:Q_}{K:O_}{mg:C_}{n6:T_}{a:Ad}
theorem aE7(F:Fun K "law" "law" Rf f fd)(T:Top K mg a)(dD:Tf P w K mg n6 CX0 2 "Grove" a.L0 Jk (RV a))(aF:Cal P w K mg n6 CX0 1 "_law_at" Za (aDH K))(aB:Cal P w K mg n6 CX0 1 "_law_mix" EQ Rc)(bA:Cal P w K mg n6 CX0 4 "_law_clauses_by" Ex (aHV K))(cM:Cal P w K mg n6 CX0 2 "_law_text" La aHd)(cH:Cal P w K mg n6 CX0 8 "read_rule" Im (aHb a))(bH:Cal P w K mg n6 CX0 2 "_law_cells_by" FD (aEA K))(aP:Cal P w K mg n6 CX0 5 "_law_listed" Fc Wr)(bT:Cal P w K mg n6 CX0 6 "_law_rows_of" Lb ZV)(cP:Cal P w K mg n6 CX0 56 "field_of" Ml (aEE a))(cX:Tf P w K mg n6 CX0 3 "Jumps" a.J5 SD (RT a))(aQ:BY P w K mg n6 CX0 2 a.J5 "change" Ez (Wu a))(dJ:Cal P w K mg n6 CX0 151 "jump" Vm (aEF a))(cR:Cal P w K mg n6 CX0 56 "cells_of" Vu (aEC a))(cE:Cal P w K mg n6 CX0 1 "_law_right" Jg aHc):AJ P w K mg n6 CX0 152 f fd aD1 (Ws K):=by
 erw[F.ok CQ D_9 λgv A ga s H vs Q E M h=>?_]
 erw[(l,ns,rfl,hS,gl,kq)=h,(_,(Ac (Ax 1 CQ.nd (BO Ab)) (Ac (BN A3g Z (Ce Z T.V_ (AN Ab)) (AV (i:=2) CQ.nd Z O_9) (Ag (Bq (Dm A4a A4b A4c BI pv1 (Aa (AB bA M (Aa pv0 (AY Ec Ae pv2 (AY Bu (AE CU (AB aF M (Aa pv0 (AN Ab))) (AE AO pv2 Ae)) Ae Ab)))) Ab))))) (Ac (Px (i:=3) CQ.nd Z (Or.inr Z) (BO Ab)) (Ac (BN A3g Z (Ce Z T.V_ (AN Ab)) (AV (i:=2) CQ.nd Z O_9) (Ac (Ax 4 CQ.nd (AE Cs (AE Bu (AB aF M (Aa pv0 (AY AO Ae pv2 Ab))) Ae) Ae)) (Ac (Ax 5 CQ.nd (AE AO Ae (AE Bu (AB aF M (Aa pv0 (AY AO Ae pv2 Ab))) Ae))) (Ag (Bq (Dm A4a A4b A4c BI pv3 (Aa (AB bH M (Aa pv0 (AY AO Ae (AE Ec Ae pv2) (Aa pv5 (Aa pv4 (AY Cs (AE Bu (AE CU (AB aF M (Aa pv0 (AY AO Ae pv2 Ab))) Ae) Ae) Ae Ab)))))) Ab))))))) (Ac (CB (i:=6) Z CQ.nd Z Z (Bd.of (So:=Ah Rf) (No:=WO) (N:=["_law_clauses","_law_heaps"]) (k:=1) (cs:=[3]) Z Z A0) (BH pv1) (λ_ _ _=>(aB9 (i:=0) A0 Z Z A0)) (λ_ _ _=>Be) (λ_ _ _=>(Cc Z (Bd.of (So:={kind:=PySem.ScopeKind.function,names:=[#[".0",PySem.NameKind.local],#["_law_clauses",PySem.NameKind.cell],#["_law_heaps",PySem.NameKind.cell]],isGenerator:=o3,isCoroutine:=o3}) (No:=["_law_clauses","_law_heaps"]) (N:=["_law_states","_law_clauses"]) (k:=1) (cs:=[0]) Z Z A0) (aCA (K:=K) Z pv1) (λ_ _ _=>(AW (i:=0) A0 Z Z)) (λ_ _ _=>Be) (λ_ _ _=>(AB bT M (Aa pv1 (Aa pv0 Ab))))))) (Ac (CB (i:=7) Z CQ.nd Z Z (Bd.of (So:=Ah Rf) (No:=WO) (N:=["_law_clauses"]) (k:=1) (cs:=[]) Z Z A0) (BH pv1) (λ_ _ _=>(AW (i:=0) A0 Z Z)) (λ_ _ _=>Be) (λ_ _ _=>(AB cH M (Aa (AB cM M (Aa pv0 Ab)) Ab)))) (Ac (Px (i:=8) CQ.nd Z (Or.inr Z) (aB4 dD (rm M) Z AQ)) (Ac (CB (i:=9) Z CQ.nd Z Z (Bd.of (So:=Ah Rf) (No:=WO) (N:=["_law_states","_law_grove"]) (k:=1) (cs:=[8]) Z Z A0) (BH pv3) (λ_ _ _=>(AW (i:=0) A0 Z Z)) (λ_ _ _=>Be) (λ_ _ _=>(AB cP M (Aa pv1 (Aa (AB aP M (Aa pv0 Ab)) Ab))))) (Ac (Ax 10 CQ.nd (BO (Aa (Lz cX (rm M) Z AQ (Aa pv8 (Aa (Aj Ar pv7 Ae R_9) Ab))) (Aa (Lz cX (rm M) Z AQ (Aa pv8 (Aa (Aj Ar pv7 Ae R_9) Ab))) Ab)))) (Ac (Ax 11 CQ.nd (BO (AN (AN Ab)))) (Ac (BN A3g Z (Lx Z T.V_ (AN (Aa (AH (RC Z) Z T.aAM A6h (AN (Aa (AH (RB Z) Z T.aAN A6g (Aa (AH Br Z T.j_ A5c (Aa pv0 Ab)) (AN Ab))) Ab))) Ab))) (AV (i:=12) CQ.nd Z O_9) (Ac (Ax 13 CQ.nd (AB aB M (Aa (AB aF M (Aa pv0 (Aa (pv 12) Ab))) (Aa (pv 12) Ab)))) (Ac (Ax 14 CQ.nd (AE Bu (pv 13) Ae)) (Ac (AS (Ay IC (AE Bu (AE CU (pv 13) Ae) Ae) Ae (AF _)) (Ac (aCC (AE Bu (AE CU (pv 13) Ae) Ae) (aB8 (pv 11) (pv 14) TB)) (Ag (AS (Ay Si (AD (Aj Ar (pv 10) (pv 14) R_9) aQ (rm M) AQ (Aa (Aj Ar pv7 (Aj Ar (pv 11) (pv 14) R_9) R_9) Ab)) Dw (AF _)) (Ag (Av JT)) Az))) Az) (Ac (Ax 15 CQ.nd (AE Bu (AE CU (pv 13) Ae) Ae)) (Ac (Ax 16 CQ.nd (AE Bu (AE CU (pv 13) Ae) Ae)) (Ac (Ax 17 CQ.nd (AB cR M (Aa pv8 (Aa (AB dJ M (Aa (Aj Ar (pv 10) (pv 14) R_9) (Aa (Aj Ar (pv 9) (pv 15) R_9) (Aa (pv 16) Ab)))) Ab)))) (Ag (AS (DJ (Dk (AB cE M (Aa (pv 17) (Aa (Aj Ar (Aj Ar (Aj Ar pv6 (Aj Ar (pv 11) (pv 14) R_9) R_9) (pv 15) R_9) (pv 16) R_9) Ab))))) (Ag (Av JT)) Az))))))))) (Ag (Av JT))))))))))))),?_),Bn ?_,?r1 s1 k1 fi E1,(S_0,λSo c3=>?_)];generalize e1:upd H So _=H1;erw[xa (alc c3 e1) λel d1=>fi (Bn ?_),?r2 s2 k2 fj E2,(3,Z,by decide,by decide,?_),BX (n:=3) (λi σ H2=>∃(qs:H_)(R:List Aw)(u2:Option V),σ=[n8 (.ref l),n8 (.ref So),u2,n9,n9,n9,n9,n9,n9,n9,n9,n9,n9,n9,n9,n9,n9,n9]/\As H H2/\H2 So=n8 (.lst (qs.map V.ref))/\Paired (LM (λx=>x≠So) H2) qs R/\R.length=i/\∀r∈R,EC r/\CF r 0 BE=0) ([],[],n9,Z,el,d1,.nil,Z,λr M=>nomatch M) ?_ ?_]
 .erw[?i σ H2 hi C,Ch C λqs R u2 cj S hq pr B=>xa B λlR ok=>?_,-B,-C,<-cj,lq=A3e pr,gnm ?_,xq1 Z (.inl (Z,_,SqL.of hq),?_),xq1 Z (xq1 Z (xq2 Z Z (.inl (by decide,by decide),xq1 Z (l,ns,15,Z,S.seq hS,by decide,(xq1 Z (xq2 Z Z (xq2 Z Z ((by lia,by lia),(xq2 Z Z ((by show(0:Int)<5;decide),?_)))))))))),(l,ns,_,_,Z,S.seq hS,by lia,T4 _ A6,by lia,λq r H3 s3 M ro re _ _=>?_),cz=s3 _ _ hq,(So,(xq2 Z Z (cz,by erw[[C0],Dz A3],?_))),(nS:¬(So≠So))=λz=>z Z,(qs++[q],R++[r],_,Z,λb o e=>by erw[[Aq (Am e c3)],s3 _ _ (S _ _ e)],by rw[Af,D4];rfl,A5d (Paired.impMem (λx y hy z=>LM.put (N:=λx=>x≠So) nS cz (z.same s3) (ok y hy).1.ok) pr) (LM.put (N:=λx=>x≠So) nS cz (M.imp λx z y=>?_) ro.ok),by rw[D3,lR];rfl,λr' fq=>?_)]
  .rw[y,hq]at z;cases z
  .rcases J9.mp fq with z|z
   .erw[ok r' z]
   .erw[[C5.mp z],(ro,re)]
 erw[?σ H2 C,Ch C λqs R u2 cj S hq pr B=>xa B λlR ok=>?_,-B,-C,<-cj];replace pr:Paired (LU H2) qs R:=Paired.imp (λ_ _ z=>z.at) pr;erw[cu=S.seq hS,-hS el d1 S c3 e1,fj (Bn ?_),?r3 s3 k3 fk E3,(S_0,λHe nH=>?_)];generalize e1:upd H2 He _=H3;erw[xa (alc nH e1) λet dw=>?_,-e1,fk (Bn ?_),?r4 s4 k4 fl E4,(2,Z,by decide,by decide,?_),BX (n:=2) (λi σ H4=>∃(Ds:H_)(Es:List (List Cl))(u2 u4 u5:Option V),σ=[n8 (.ref l),n8 (.ref So),u2,n8 (.ref He),u4,u5,n9,n9,n9,n9,n9,n9,n9,n9,n9,n9,n9,n9]/\As H2 H4/\H4 He=n8 (.lst (Ds.map V.ref))/\Hps H4 Ds Es/\Ds.Nodup/\(∀D∈Ds,H2 D=n9)/\Es.length=i/\∀e∈Es,∃X Y:Int,Dd e 6 X Y/\(-100<=X/\X<=100)/\-100<=Y/\Y<=100) ([],[],u2,n9,n9,Z,et,dw,.nil,Q0,(λD hD=>nomatch hD),Z,λe he=>nomatch he) ?_ ?_]
 .erw[?i σ H4 hi C,xe5 C λDs Es u2 u4 u5 B=>xa5 B λck S hL hp O ai=>xa2 ai λnD lE bq=>?_,-B ai,-C,<-ck,lD=A3e hp,gnm (Bn ?_),?r5 s5 k5 cx E5,bo=S.seq cu];obtain⟨X,hX⟩:∃X,atN ns (16+(0+(i:Int)))%12-8=X:=(_,Z)
  erw[xq1 Z (xq1 Z (xq2 Z Z (l,ns,_,Z,bo,by lia,(xq2 Z Z ((by show(0:Int)<12;decide),(xq2 Z Z ?_))))))];rw[show(λi j:Int=>V.int (i-j)) _ _=V.int X from A4e V.int hX];have X1:-100<=X/\X<=100:=by lia
  erw[-hX,cx (Bn ?_),?r6 s6 k6 cy E6,(my,hm)=L6 (show 0<=1+atN ns (18+(0+(i:Int)))%6 by lia),(m6:my<=6)=by lia]
  erw[xq1 Z (xq1 Z (xq2 Z Z (l,ns,_,Z,bo,by lia,(xq2 Z Z ((by show(0:Int)<6;decide),(xq2 Z Z ?_))))))];rw[show(λi j:Int=>V.int (i+j)) _ _=V.int (my:Int)from A4e V.int hm];erw[-hm,cy ?_,xq1 Z (.inl (Z,_,SqL.of hL),?_)];obtain⟨Y,hY⟩:∃Y,atN ns (17+(0+(i:Int)))/12%12-8=Y:=(_,Z)
  erw[xq1 Z (xq1 Z (xq2 Z Z (.inl (by decide,by decide),(xq2 Z Z (xw2 Z Z (xq1 Z (xq1 Z (xq2 Z Z (l,ns,_,Z,bo,by lia,(xq2 Z Z ((by decide,by decide),(xq2 Z Z ((by show(0:Int)<12;decide),(xq2 Z Z ?_))))))))))))))];rw[show(λi j:Int=>V.int (i-j)) _ _=V.int Y from A4e V.int hY];have Y1:-100<=Y/\Y<=100:=by lia
  erw[-hY,(l,ns,_,X,Y,my,Z,bo,by lia,C9 m6 A6,by lia,by lia,by lia,by lia,λD e H5 c6 eb dt dd=>?_),av=c6 _ _ hL,(He,(xq2 Z Z (av,by erw[[C0],Dz A3],?_))),ac=hp.same c6,(fH:FrO He H5 (upd H5 He (.lst (Ds.map V.ref++[.ref D]))))=λb o e n=>by erw[[Aq n],e]]
  have hU:upd H5 He (.lst (Ds.map V.ref++[.ref D])) He=n8 (.lst ((Ds++[D]).map V.ref)):=by rw[Af,D4];rfl
  generalize upd H5 He (.lst (Ds.map V.ref++[.ref D]))=H6 at fH hU⊢;erw[(f5:D∉Ds)=Hps.ne eb hp,(Ds++[D],Es++[e],_,_,_,Z,λb o e=>fH _ _ (c6 _ _ (S _ _ e)) (Am e nH),hU,A5d (Hps.ot fH ac (Hps.no av (λ_ z=>nomatch z) (λ_ _ z=>nomatch z) ac)) (.inl (fH _ _ dt (AC dt av A4))),?_,λD' a6=>?_,by rw[D3,lE];rfl,λe' fh=>?_)]
  .erw[[Q6],(O,by simp,λx hx y hy z=>f5 ?_),[-C5.mp hy,-z],hx]
  .rcases J9.mp a6 with z|z
   .erw[nD D' z]
   .erw[[C5.mp z],As.noneN S eb]
  .rcases J9.mp fh with z|z
   .erw[bq e' z]
   .erw[[C5.mp z],(X,Y,(dd.nd,dd.ok,C9 dd.len m6),X1,Y1)]
 erw[?σ H4 C,xe5 C λDs Es u2 u4 u5 B=>xa5 B λck c8 hL hp O ai=>xa2 ai λnD lE bq=>?_,-B ai,-C,<-ck,d9=c8 _ _ hq,-dw et nH,fl (Bn ?_),?r5 s5 k5 cx E5,(fa:s5=[n8 (.ref l),n8 (.ref So),u2,n8 (.ref He),u4,u5,n9,n9,n9,n9,n9,n9,n9,n9,n9,n9,n9,n9])=rfl]
 clear_value s5
 erw[<-fa,lq=A3e pr,lD=A3e hp];have am:∀e∈Es,Ms e (stC e)/\e.length<=6/\(∀c∈e,Zz c)/\∃X Y:Int,InW (stC e) X Y 5 4/\(-100<=X/\X<=100)/\-100<=Y/\Y<=100:=λe he=>by
  erw[AK (bq e he) λX Y dd X1 Y1=>(dd.dk,dd.len,λc hc=>(dd.ok c hc).1.1,X,Y,aFl dd,X1,Y1)]
 erw[-bq,xq1 Z (So,Z,(_,SqL.of d9),?_),Ca (xs:=qs.map V.ref) (λi I H5=>∃us:List Addr,As H2 H5/\Hps H5 Ds Es/\FrD Ds H4 H5/\I=us.map V.ref/\Paired (DuA H5 (Es.map stC)) us (R.take i)) ([],c8,hp,λb o e _=>e,Z,.nil) (λi I H5 _ z=>by erw[xea z λus S _=>?_,SqL.of (S _ _ hq)]) ?_ ?_]
 .erw[?i v I H5 ev C,CP C λus bt ac a5 B=>xa B λan pu=>?_,-B,-C,<-an];rw[C3]at ev;erw[xea (D7.mp ev) λq eq W=>?_,<-W,xea (PairedM.getL pr eq) λr er M=>?_,i8=(C2.mp er).1,lu=A3e pu];rw[J8]at lu;erw[aw=ok r (D0 er),av=hp.lst a5 hL,(([n8 (.ref q)],Z,Z),by erw[[C0],Dz A3],EF ?_),xq1 Z (He,Z,(_,SqL.of av),?_),Ca (xs:=Ds.map V.ref) (λj a1 H6=>∃vs:List Addr,As H2 H6/\Hps H6 Ds Es/\FrD Ds H5 H6/\a1=vs.map V.ref/\Paired (RwA H6 r) vs ((Es.map stC).take j)) ([],bt,ac,λb o e _=>e,Z,.nil) (λi I H6 _ z=>by erw[CP z λus S _ fd _=>?_,SqL.of (ac.lst fd av)]) ?_ ?_]
  .erw[?j v a1 H6 ev aj,CP aj λvs ab ah bm B=>xa B λan pv6=>?_,-B,-aj,<-an];rw[C3]at ev;erw[xea (D7.mp ev) λD eD W=>?_,<-W,xea (PairedM.getL ah eD) λe ee rd=>?_,j8=(C2.mp ee).1,lv=A3e pv6];rw[J8,C0]at lv;erw[xa3 (am e (D0 ee)) λdk l6 _ B=>AK B λX Y f1 X1 Y1=>(([n8 (.ref D)],Z,Z),by erw[[C0],Dz A3],EF ?_),xw2 Z Z (H2,q,D,r,e,stC e,X,Y,Z,M,aw.1,aw.2,ab,nD D (D0 eD),rd,dk,f1,by lia,(by lia,by lia,by lia,by lia),λL Ls H7 ff ge nL cp lL rows=>?_),z=ah.fo O eD ee ff ge,(vs++[L],(λb o e=>z.2 _ _ (ab _ _ e) λy=>by rw[nD b y]at e;cases e),z.1,bm.trans z.2,by rw[D4];rfl,?_),[F9,C3,ee],A5d (Paired.imp (λ_ _ y=>y.kp (ah.kl z.2)) pv6) (Ls,cp,lL,rows)]
  .erw[?a1 H6 aj L nL,CP aj λvs ab ah bm B=>xa B λan pv6=>?_,-B,-aj,<-an];generalize e7:upd H6 L _=H7;erw[xa (alc nL e7) λbe cp=>(us++[L],ab.trans be,ah.same be,(a5.trans bm).trans (As.fd be),by rw[D4];rfl,?_),[F9,er]];rw[C0,lD,V7 (by erw[[C0],C1 _])]at pv6;erw[A5d (Paired.imp (λ_ _ y=>(y.kp (ac.kl bm)).kp (As.kl be)) pu) (vs,cp,Paired.imp (λ_ _ y=>y.kp (As.kl be)) pv6)]
 erw[?I H5 C U nU,CP C λus bt ac a5 B=>xa B λan pu=>?_,-B,-C,<-an];generalize e6:upd H5 U _=H6;erw[xa (alc nU e6) λbd hU=>?_];rw[C0,lq,V7 (C1 _)]at pu;replace pu:Paired (DuA H6 (Es.map stC)) us R:=Paired.imp (λ_ _ y=>y.kp (As.kl bd)) pu;erw[ab=bt.trans bd,ah=ac.same bd,d0=bd _ _ (hp.lst a5 hL),-bt ac a5 bd nU e6 hL hp c8 d9,cx (Bn ?_),?r6 s6 k6 cy E6,xq1 Z (So,Z,(_,SqL.of (ab _ _ hq)),?_),Ca (xs:=qs.map V.ref) (λi I H7=>∃ps:List Addr,As H6 H7/\I=ps.map V.ref/\Paired (λp r=>BL a H7 p (AZ r) r) ps (R.take i)) ([],As.refl _,Z,.nil) (λi I H5 _ z=>by erw[xea z λus S _=>?_,SqL.of (S _ _ (ab _ _ hq))]) ?_ ?_]
 .erw[?i v I H7 ev C,AI C λps bg W pp=>?_,-C,<-W];rw[C3]at ev;erw[xea (D7.mp ev) λq eq W=>?_,<-W,xea (PairedM.getL pr eq) λr er M=>?_,i8=(C2.mp er).1,lu=A3e pp];rw[J8]at lu;erw[aw=ok r (D0 er),(([n8 (.ref q)],Z,Z),by erw[[C0],Dz A3],EF ?_),xq1 Z (q,r,Z,M.same (ab.trans bg),aw.1,λH8 s8=>(r,Z,aw.1,aw.2,λp H9 s9 hR=>?_)),(ps++[p],(bg.trans s8).trans s9,by rw[D4];rfl,?_),[F9,er],A5d (Paired.imp (λ_ _ y=>y.same (s8.trans s9)) pp) hR]
 erw[?I H7 C Ru ec,AI C λps bg W pp=>?_,-C,<-W];generalize e8:upd H7 Ru _=H8;erw[xa (alc ec e8) λc7 ct=>?_];rw[C0,lq,V7 (C1 _)]at pp;replace pp:Paired (λp r=>BL a H8 p (AZ r) r) ps R:=Paired.imp (λ_ _ y=>y.same c7) pp;erw[ax=bg.trans c7,ew=ab.trans ax,ad=ah.same ax,cq=ax _ _ d0,cv=ax _ _ hU];replace pu:Paired (DuA H8 (Es.map stC)) us R:=Paired.imp (λ_ _ y=>y.kp (As.kl ax)) pu;erw[-c7 bg ax ec e8 d0 ah hU ab,cy (Bn ?_),?r7 s7 k7 fm E7,(fb:s7=[n8 (.ref l),n8 (.ref So),u2,n8 (.ref He),u4,u5,n8 (.ref U),n8 (.ref Ru),n9,n9,n9,n9,n9,n9,n9,n9,n9,n9])=rfl]
 clear_value s7
 erw[<-fb,λx' e5 nx eg f8=>(x',e5,Z,Af,λg H9 dr N=>(Z,?_))]
 erw[(br:As H8 H9)=λb o e=>N.kp b o (by erw[[Aq (Am e nx),Aq (Am e eg)],e]) (dr▸Am e nx),<-dr,dp=AR.new N,ng=N.none,-N nx eg f8];have nG:∀{b:R_}{o:HO},H8 b=n8 o->∀y∈CN g,b≠y:=λ{b o} e y hy z=>by
  rw[z,ng y hy]at e;cases e
 erw[(a8:∀D∈Ds,∀y∈CN g,D≠y)=λD hD y hy z=>Hps.ne (ng y hy) ad (z▸hD),fm (Bn ?_),?r8 s8 k8 fn E8,xq1 Z (He,Z,(_,SqL.of (br _ _ cq)),?_),Ca (xs:=Ds.map V.ref) (λi I as=>∃(fs:J_)(G:Gv),FrD Ds H8 as/\Hps as Ds Es/\AR a as g G/\G.length<=56+16000*i/\I=fs.map (λf:Nat=>V.int (f:Int))/\Paired (Fv G) fs ((Es.map stC).take i)) ([],G0,As.fd br,ad.same br,dp,by rw[SQ];decide,Z,.nil) (λi I H5 _ z=>by erw[BM z λ_ _ fd _=>?_,SqL.of (ad.lst fd cq)]) ?_ ?_]
 .erw[?i v I as ev C,Ci C λfs G fd aq fu lG B=>xa B λcl pf=>?_,-B,-C,<-cl];rw[C3]at ev;erw[xea (D7.mp ev) λD eD W=>?_,<-W,xea (PairedM.getL aq eD) λe ee rd=>?_,i8=(C2.mp ee).1,lu=A3e pf];rw[J8,C0]at lu;erw[xa3 (am e (D0 ee)) λdk l6 f9 _=>(([n8 (.ref D)],Z,Z),by erw[[C0],Dz A3],EF ?_),xw2 Z Z (D,e,Z,rd,dk.nd,by lia,λo1 L1 hv gw al bz ds f7 fg gc gb _=>?_),z=aq.fo O eD ee bz (.inr (_,ds)),ag=fu.fx (bz.fx rd) λy hy q=>a8 D (D0 eD) y hy (C5.mp q).symm,aEc ag fg (Ap.new fu.at' f7) gc gb dk f9 A3 A3 λf G' ey af dn b1 fv=>(fs++[f],G',λb o e n=>af b o (z.2 _ _ (fd b o e n) n) (nG e _ (by simp[CN])) (nG e _ (by simp[CN])) (nG e _ (by simp[CN])),z.1.kp λD' a6 o e=>af _ _ e (a8 D' a6 _ (by simp[CN])) (a8 D' a6 _ (by simp[CN])) (a8 D' a6 _ (by simp[CN])),dn,by have:=b1.few;lia,by rw[D4];rfl,?_),[F9,C3,ee],A5d (Paired.imp (λ_ _ y=>y.app fu.ok b1) pf) fv]
 erw[?I as C Fi c0,Ci C λfs G fd aq fu lG B=>xa B λcl pf=>?_,-B,-C,<-cl];generalize dc:upd as Fi _=al;erw[xa (alc c0 dc) λbb dv=>?_];rw[C0,lD,lE]at lG;rw[C0,lD,V7 (by erw[[C0],C1 _])]at pf;erw[ag=fu.same bb];obtain⟨Hd,a4⟩:∃Hd:Hp,Hd=λb=>if b∈CN g then n9 else al b:=(_,Z)
 have kH:∀b o,H8 b=n8 o->b∉Ds->Hd b=n8 o:=λb o e n=>by
  erw[[a4],(_:(if b∈CN g then n9 else al b)=n8 o),[A2f λz=>nG e b z rfl],bb _ _ (fd b o e n)]
 have ay:As Hd al:=λb o e=>by
  rw[a4]at e;replace e:(if b∈CN g then n9 else al b)=n8 o:=e;split at e
  .cases e
  .erw[e]
 have ei:∀y∈CN g,Hd y=n9:=λy hy=>by
  erw[[a4],A2h hy]
 have hn:∀{y:R_},al y=n9->Hd y=n9:=λ{y} e=>by
  cases q:Hd y with
  |none=>rfl
  |some o=>rw[ay _ _ q]at e;cases e
 have co:Hd Fi=n8 (.lst (fs.map λf:Nat=>V.int (f:Int))):=by
  erw[[a4],(_:(if Fi∈CN g then n9 else al Fi)=_),[A2f ?_,dv],λz=>fu.has z c0]
 erw[lp=A3e pp];obtain⟨p0,cm⟩:∃p,ps[0]?=n8 p:=(_,C7 A3)
 obtain⟨p1,cn⟩:∃p,ps[1]?=n8 p:=(_,C7 A3)
 erw[xea (PairedM.getL pp cm) λr0 bj ft=>xea (PairedM.getL pp cn) λr1 bl fw=>?_,ej=ok r0 (D0 bj),ek=ok r1 (D0 bl)];replace pp:Paired (λp r=>BL a Hd p (AZ r) r) ps R:=Paired.imp (λ_ _ h=>h.kp λb o e nv=>kH b o e (Hps.no e (λ_ z=>by rw[z]at nv;cases nv) (λ_ _ z=>by rw[z]at nv;cases nv) ad)) pp;erw[xea (PairedM.getL pp cm) λg6 bv b6=>xea (PairedM.getL pp cn) λg7 bw b7=>?_];rw[bj]at bv;cases bv;rw[bl]at bw;erw[!bw,(bn:Hd Ru=n8 (.lst (ps.map V.ref)))=kH _ _ ct (Hps.no ct (λ_ z=>nomatch z) (λ_ _ z=>nomatch z) ad),(cw:Hd U=n8 (.lst (us.map V.ref)))=kH _ _ cv (Hps.no cv (λ_ z=>nomatch z) (λ_ _ z=>nomatch z) ad)];replace pu:Paired (DuA Hd (Es.map stC)) us R:=Paired.imp (λ_ _ y=>y.kp (λ_ _ e=>kH _ _ e (Hps.no e (λ_ z=>nomatch z) (λ_ _ z=>nomatch z) ad),λ_ _ e=>kH _ _ e (Hps.no e (λ_ z=>nomatch z) (λ_ _ z=>nomatch z) ad))) pu;erw[(bp:SqL K Hd l (ns.map V.int))=As.seq (λb o e=>kH b o (ew _ _ e) λz=>by rw[nD b z]at e;cases e) cu,(rs:Rs3 R)=(ok,λr M s hs z=>YG (ok r M).1 (ok s hs).1 z,by lia)]
 have bf:Bf (Es.map stC):=by
  match Es,lE,am with
  |[e0,e1],_,am =>
   erw[xa3 (am e0 B0) λ_ _ _ B=>AK B λX Y i0 X1 Y1=>xa3 (am e1 B0) λ_ _ _ B=>AK B λU' V' i1 U1 V1=>aES i0 i1 (by lia,by lia) (by lia,by lia) (by lia,by lia) (by lia,by lia)]
 have lF:(Es.map stC).length=2:=by rw[C0,lE]
 generalize Es.map stC=F at pu pf bf lF;erw[fn (Bn ?_),?r9 s9 k9 fp E9,(fc:s9=[n8 (.ref l),n8 (.ref So),u2,n8 (.ref He),u4,u5,n8 (.ref U),n8 (.ref Ru),n8 (.ref g.p),n8 (.ref Fi),n9,n9,n9,n9,n9,n9,n9,n9])=rfl]
 clear_value s9
 erw[<-fc,-ft fw ct cv kH ad aq ew nG a8 dp br fd bb c0 dc a4 fu dv am nD O hq pr cq cu ng lD lE lq,ao=ay _ _ bn,xq1 Z (xwi Z Z Z (SqL.of ao) (Ai (j:=0) (gmp cm)) (λp gx np ed eh=>?_)),aGp (Κ:=Kg r0 F 3) (N:=21000) (b:=G.length) ag ej.1 ej.2 (b6.same ay) np ed eh (C1 _) λey mem m ar ak af b4 a9 b9=>(Z,?_)]
 erw[xq1 Z (xwi Z Z Z (SqL.of (ar _ _ ao)) (Ai (j:=1) (gmp cn)) (λp' gk c4 cc cd=>?_)),aGp (Κ:=Kg r1 F 3) (N:=21000) (b:=G.length) ak.fu ek.1 ek.2 (b7.same (ay.trans ar)) c4 cc cd (C1 _) λez gn m' cf cg b0 b5 ba ca=>(Z,?_)]
 erw[j1=JOk.nw (R:=R) (c:=0) ag ak b4 a9 b9 (D0 bj) (C1 _),j2=JOk.nw (R:=R) (c:=0) ak.fu cg b5 ba ca (D0 bl) (C1 _),w=W62.mk2 ak.fu j1 cf j2 c4 ba b0 (ay.trans ar) (λe he y hy=>by rw[C5.mp he]at hy;erw[aGr ei (λy hy=>hn (af y hy)) y hy]) (hn np,hn a9),-j1 j2 ak cg af b0 b4 b5 a9 ba b9 ca hn ei np ed eh c4 cc cd ag ar cf ao b6 b7 ay,(S_2,λPr c2=>?_),w2=w.ext (o:=.lst [.ref p,.ref p']) c2,(sP:As Hd (upd Hd Pr (.lst [.ref p,.ref p'])))=An (As.noneN w.sm c2),(cr:upd Hd Pr (.lst [.ref p,.ref p']) Pr=n8 (.lst [.ref p,.ref p']))=Af];generalize upd Hd Pr (.lst [.ref p,.ref p'])=aa at w2 sP cr;generalize upd ez Pr (.lst [.ref p,.ref p'])=ch at w2⊢;replace bp:=sP.seq bp;replace bn:=sP _ _ bn;replace cw:=sP _ _ cw;replace co:=sP _ _ co;replace pp:Paired (λp r=>BL a aa p (AZ r) r) ps R:=Paired.imp (λ_ _ y=>y.same sP) pp;replace pu:Paired (DuA aa F) us R:=Paired.imp (λ_ _ y=>y.kp (As.kl sP)) pu;erw[-w c2 sP,fp (Bn ?_),?g8 hh gy d2 go,(S_2,λHo c1=>?_),f6=As.noneN w2.sm c1,(l8:L8 a aa (upd ch Ho (hL [0,1])) g G F R 0 Ho p p' [0,1])=.mk _ _ 0 1 (w2.ext c1) Z Z bj bl,(sx:∀{o:HO},As aa (upd aa Ho o))=λ{o}=>An f6,-w2 c1,d2 ?_,(_:(YD _ _) _ _ (upd ch Ho (hL [0,1])))];generalize upd ch Ho (hL [0,1])=e2 at l8⊢;erw[Bn ?_,?g9 em gz d3 gp,(dh:em=[n8 (.ref l),n8 (.ref So),u2,n8 (.ref He),u4,u5,n8 (.ref U),n8 (.ref Ru),n8 (.ref g.p),n8 (.ref Fi),n8 (.ref Pr),n8 (.ref Ho),n9,n9,n9,n9,n9,n9])=rfl]
 clear_value em
 subst dh;have b2:SqL K e2 l (ns.map V.int):=by
  erw[(j0,j1,h0,h1,w,_)=l8,(sx.trans w.sm).seq bp]
 erw[xq1 Z (l,(xq1 Z (.inl b2,(_,_,Z,_,_,Z,?_)))),(28,_,Z,(by decide,by decide,?_,?_),?_)]
 .split<;>split<;>lia
 .split<;>split<;>lia
 obtain⟨n,hn⟩:∃n:Nat,((if(if(38:Int)<((ns.map V.int).length:Int)then(38:Int)else((ns.map V.int).length:Int)) > 32 then(if(38:Int)<((ns.map V.int).length:Int)then(38:Int)else((ns.map V.int).length:Int))else 32)-28).toNat=n:=(_,Z)
 have g5:n<=10:=by
  rw[<-hn];split<;>split<;>lia
 erw[[hn],-hn b2,lf=A3e pf,BX (n:=n) (λi σ au=>∃(G:Gv)(c:Nat)(hs:J_)(c9 da db bh bi az:Option V),σ=[n8 (.ref l),n8 (.ref So),u2,n8 (.ref He),u4,u5,n8 (.ref U),n8 (.ref Ru),n8 (.ref g.p),n8 (.ref Fi),n8 (.ref Pr),n8 (.ref Ho),c9,da,db,bh,bi,az]/\L8 a aa au g G F R c Ho p p' hs/\c<=12048*i/\G.length<=33000+400000*i/\Paired (Fv G) fs F) (G,0,[0,1],n9,n9,n9,n9,n9,n9,Z,l8,L7 _,by lia,pf) ?_ ?_]
 .erw[?i σ au hi C,xe5 C λG c hs c9 da B=>Cd B λdb bh bi az a3 l8 hc lG pf=>?_,-B,-C,<-a3,gnm (Bn ?_),?ha hj g0 d4 gq];have b3:SqL K au l (ns.map V.int):=by
   erw[(j0,j1,h0,h1,w,_)=l8,(sx.trans w.sm).seq bp]
  erw[xw2 Z Z (l,ns,_,Z,b3,by lia,(xq1 Z (_,_,Z,by lia,by lia,λv v0=>?_))),d4 (Bn ?_),?hb hk g1 d5 gr,xe (L6 (show 0<=v%2 by lia)) λo ho=>?_,(o2:o<2)=by lia]
  erw[xq1 Z (xq2 Z Z (B8,?_))];rw[show(λi j:Int=>V.int (i%j)) _ _=V.int (o:Int)from A4e V.int ho];erw[-ho b3,d5 (Bn ?_),?hd es f2 d6 gs,(di:es=[n8 (.ref l),n8 (.ref So),u2,n8 (.ref He),u4,u5,n8 (.ref U),n8 (.ref Ru),n8 (.ref g.p),n8 (.ref Fi),n8 (.ref Pr),n8 (.ref Ho),n8 (.int (28+(i:Int))),n8 (.int v),n8 (.int (o:Int)),bh,bi,az])=rfl]
  clear_value es
  subst di;apply WQ (T:=f2) (fun σ' a0=>∃hs:List Nat,σ'=[n8 (.ref l),n8 (.ref So),u2,n8 (.ref He),u4,u5,n8 (.ref U),n8 (.ref Ru),n8 (.ref g.p),n8 (.ref Fi),n8 (.ref Pr),n8 (.ref Ho),n8 (.int (28+(i:Int))),n8 (.int v),n8 (.int (o:Int)),bh,bi,az]/\L8 a aa a0 g G F R c Ho p p' hs)
  .erw[?ce,xe (L6 (show 0<=v/2%4 by lia)) λx hx=>xq1 Z (xq2 Z Z ((by decide,by decide),(xq2 Z Z (B4,(xq2 Z Z (xq1 Z (LL (λh3=>?_) (λ_=>ce _ _ (hs,Z,l8)))))))))];have x3:x<3:=by
    have:=A4f h3;lia
   erw[-h3,Bn ?_,?gd gg f3 a7 ex,xq1 Z (xq2 Z Z ((by decide,by decide),(xq2 Z Z (B4,?_))))];rw[show(λi j:Int=>V.int (i%j)) _ _=V.int (x:Int)from A4e V.int hx];erw[(j,j',m0,en,ep,er,(n1,n2,ci),w,a2)=l8.sel o2,<-ci,(dy:au Ho=n8 (hL [n1,n2]))=w.sm _ _ Af,xw2 Z Z (Ho,[.int (n1:Int),.int (n2:Int)],(o:Int),o,Z,Z,dy,(by apply q9t o2<;>rfl),?_),w'=w.put (o:=hL ([n1,n2].set o x)) Af];rw[FK]at w';rw[show HO.lst ([V.int (n1:Int),V.int (n2:Int)].set o (.int (x:Int)))=hL ([n1,n2].set o x) by apply q9t o2<;>rfl];have eo:([n1,n2].set o x)[o]?=n8 x:=by apply q9t o2<;>rfl
   generalize upd au Ho (hL ([n1,n2].set o x))=a0 at w'⊢;erw[-w dy l8 hx,a7 ?_];obtain⟨px,de⟩:∃p,ps[x]?=n8 p:=(_,C7 A3)
   erw[xea (PairedM.getL pp de) λrx dg fy=>?_,(ae:As aa a0)=sx.trans w'.sm,xwj Z Z Z Z (SqL.of (ae _ _ cr)) (Ai (gmp (xs:=[p,p']) ep)) ?_,(j.p,j.dx,_,Z,w'.j1.hp,Vq _ _ _ _ _,?_),xq1 Z (xwj Z Z Z Z (SqL.of (w'.sm _ _ Af)) (Ai (gmp eo)) ?_),xq4 Z Z (SqL.of (ae _ _ bn)) (Ai (gmp de)) ?_,w'.chg rs (fy.same ae) (D0 dg) λe3 m' g4 gi=>(Z,(xq1 Z (Bj ?_))),ce _ _ (_,Z,a2 gi Z dg)]
  .rintro σ' a0 aj;erw[xea aj λhs e9 l8=>?_,-aj,<-e9,d6 (Bn ?_),?gd gg f3 a7 ex,xe (L6 (show 0<=v/8%2 by lia)) λy hy=>?_,(y2:y<2)=by lia]
   erw[xq1 Z (xq2 Z Z ((by decide,by decide),(xq2 Z Z (B8,?_))))];rw[show(λi j:Int=>V.int (i%j)) _ _=V.int (y:Int)from A4e V.int hy];erw[a7 (Bn ?_),?hf hl g2 d7 gt,xe (L6 (show 0<=v/16%4 by lia)) λt ht=>?_,(t4:t<4)=by lia]
   erw[xq1 Z (xq2 Z Z ((by decide,by decide),(xq2 Z Z (B4,?_))))];rw[show(λi j:Int=>V.int (i%j)) _ _=V.int (t:Int)from A4e V.int ht];erw[-hy ht,d7 (Bn ?_),?hg ae g3 d8 gu,(dl:ae=[n8 (.ref l),n8 (.ref So),u2,n8 (.ref He),u4,u5,n8 (.ref U),n8 (.ref Ru),n8 (.ref g.p),n8 (.ref Fi),n8 (.ref Pr),n8 (.ref Ho),n8 (.int (28+(i:Int))),n8 (.int v),n8 (.int (o:Int)),n8 (.int (y:Int)),n8 (.int (t:Int)),az])=rfl]
   clear_value ae
   erw[<-dl,(j,j',m0,en,ep,er,(n1,n2,ci),w,a2)=l8.sel o2];have eS:hs.set o m0=hs:=by
    subst ci
    match o,o2 with
    |0,_=>cases en;rfl
    |1,_=>cases en;rfl
   erw[(ae:As aa a0)=sx.trans w.sm,m3=(C2.mp er).1,lu=A3e pu];obtain⟨f,ef⟩:∃f,fs[y]?=n8 f:=(_,C7 A3)
   erw[xea (PairedM.getL pf ef) fun φ dm fv=>?_];obtain⟨u,eu⟩:∃u,us[m0]?=n8 u:=(_,C7 A3)
   erw[xea (PairedM.getL pu eu) λr' df du=>?_];rw[er]at df;erw[!df,xea du λVs hu pV=>?_,lV=A3e pV];obtain⟨v',ev⟩:∃u,Vs[y]?=n8 u:=(_,C7 A3)
   erw[xea (PairedM.getL pV ev) fun hw bx gf=>?_];rw[dm]at bx;erw[!bx,AI gf λLs fz lL rows=>xea (rows t t4) λx' fe B=>Ci B λts cs f0 pc dk bc b8=>xq1 Z (xwj Z Z Z Z (SqL.of (ae _ _ cr)) (Ai (gmp (xs:=[p,p']) ep)) ?_),xwj Z Z Z Z (SqL.of (ae _ _ co)) (Ai (gmp ef)) ?_,(cb:c<=120480)=C9 hc (N7 12048 (show i<=10 by lia)),(Gb:G.length<=4033000)=C9 lG A3,xq1 Z (w.jump bf rs (D0 dm) A3 fv A3 λd G' e3 i' gj dq gm fd=>?_),gj.told rs A3 fd dk bc b8 (sx _ _ f0) (PairedM.imp (λt c z=>sx _ _ z) pc) λL gh e4 bu dz ea pL px=>?_,(c5:As aa e4)=sx.trans bu.sm,d8 ?_,xq1 Z (xq1 Z (xwj Z Z Z Z (SqL.of (bu.sm _ _ Af)) (Ai (gmp en)) ?_)),xq4 Z Z (SqL.of (c5 _ _ cw)) (Ai (gmp eu)) ?_,xq1 Z (xq4 Z Z (SqL.of (c5 _ _ hu)) (Ai (gmp ev)) ?_),xq1 Z (xq4 Z Z (SqL.of (c5 _ _ fz)) (Ai (gmp fe)) ?_),(L,x',gh,ts,cs,Z,dz,ea,pL,px,b8,o0,Z,Bj ?_),(G',c+12048,hs,_,_,_,_,_,_,Z,?_,by lia,by lia,Paired.imp (λ_ _ y=>y.app w.fu.ok dq) pf)];rw[<-eS]at bu⊢;erw[a2 bu Z er]
 .erw[?σ au C,xe5 C λG c hs c9 da B=>xe4 B λdb bh bi az ai=>xa ai λa3 _=>?_,-B ai,-C,<-a3,d3 ?_,kq _]
end
end J
namespace J
open PySem L2
theorem ar1{α:Type}:∀us:List α,us.length=1->∃a,us=[a]
|[a],_=>(a,Z)
theorem ar2{α:Type}:∀us:List α,us.length=2->∃a b,us=[a,b]
|[a,b],_=>(a,b,Z)
theorem ar3{α:Type}:∀us:List α,us.length=3->∃a b c,us=[a,b,c]
|[a,b,c],_=>(a,b,c,Z)
theorem ar4{α:Type}:∀us:List α,us.length=4->∃a b c d,us=[a,b,c,d]
|[a,b,c,d],_=>(a,b,c,d,Z)
theorem ar5{α:Type}:∀us:List α,us.length=5->∃a b c d e,us=[a,b,c,d,e]
|[a,b,c,d,e],_=>(a,b,c,d,e,Z)
structure Fg(K:O_)(x:Str)(st:Stmt)(f:R_)(fd:E_):Prop where
at_:W.nsIn K mainGlobals x=n8 (n8 (.ref f))
fn:Fun K x x st f fd
structure Fm(K:O_)(C:R_)(m q:Str)(st:Stmt)(f:R_)(fd:E_):Prop where
me:QB K C m f
fn:Fun K m q st f fd
structure Fi(K:O_)(C:R_)(q:Str)(st:Stmt)(f:R_)(fd:E_):Prop where
mk_:Mk K C f
fn:Fun K "__init__" q st f fd
theorem bnd{K:O_}{x q:Str}{st:Stmt}{f:R_}{fd:E_}{e:K_}(F:Fun K x q st f fd)(h:∀(kV d l:S_)(j:Option Addr)(c k:S_)(us:F_),us.length=e.length->bindArgs (W.fnOf x q (Nb st) (LF st) (Ah st) .none kV d l j c k) (us,[])=pure (e.zip us):=by intro _ _ _ _ _ _ us a;first|(obtain⟨b,rfl⟩:=ar1 us a;exact rfl)|(obtain⟨b,g,rfl⟩:=ar2 us a;exact rfl)|(obtain⟨b,g,i,rfl⟩:=ar3 us a;exact rfl)|(obtain⟨b,g,i,m,rfl⟩:=ar4 us a;exact rfl)|(obtain⟨b,g,i,m,n,rfl⟩:=ar5 us a;exact rfl)):CO K fd e []:=F.binds h
theorem fin{l:W.OpenLaw}{w:Q_}{K:O_}{h:T_}{mg:C_}{fa:R_}(X:K.In h)(G:h.Ns mainGlobals mg)(jo:mg "law"=n8 (.ref fa)){j:R_}{f4:R_}  (dE:W.nsIn K mainGlobals "Amounts"=n8 (n8 (.ref j)))(dF:W.nsIn K mainGlobals "Places"=n8 (n8 (.ref r)))(dG:W.nsIn K mainGlobals "Clause"=n8 (n8 (.ref n)))(dN:W.nsIn K mainGlobals "Grove"=n8 (n8 (.ref a)))(dO:W.nsIn K mainGlobals "Rule"=n8 (n8 (.ref O)))(dM:W.nsIn K mainGlobals "Jumps"=n8 (n8 (.ref g)))(az:Cls K j)(a5:Cls K r)(a4:Cls K n)(i:Cls K a)(bq:Cls K O)(t:Cls K g)(ab:findIn K (.ref j) "state"=n8 n9)(P:findIn K (.ref j) "numbers"=n8 n9)(ae:findIn K (.ref r) "wanted"=n8 n9)(aq:findIn K (.ref n) "cell"=n8 n9)(H:findIn K (.ref n) "conditions"=n8 n9)(ai:findIn K (.ref n) "makes"=n8 n9)(aj:findIn K (.ref a) "levels"=n8 n9)(au:findIn K (.ref a) "parts"=n8 n9)(ad:findIn K (.ref a) "numbers"=n8 n9)(ar:findIn K (.ref a) "bares"=n8 n9)(ac:findIn K (.ref a) "amounts"=n8 n9)(as:findIn K (.ref a) "boxes"=n8 n9)(a2:findIn K (.ref O) "text"=n8 n9)(ak:findIn K (.ref O) "clauses"=n8 n9)(av:findIn K (.ref g) "grove"=n8 n9)(V:findIn K (.ref g) "memories"=n8 n9)(ay:findIn K (.ref g) "rule"=n8 n9)(A:findIn K (.ref g) "known_squares"=n8 n9)(I:findIn K (.ref g) "known_cells"=n8 n9)(g0:Fg K "is_whole" LZ f0 d0)(g1:Fg K "is_state" Ma f1 d1)(g2:Fg K "takes" Sc f2 d2)(g3:Fg K "read_clause" EY f3 d3)(g4:Fg K "read_state" IP f4 d4)(g5:Fg K "read_wanted" Id f5 d5)(g6:Fg K "read_condition" EG f6 d6)(g7:Fg K "read_amounts" Ga f7 d7)(g8:Fg K "read_numbers" FZ f8 d8)(g9:Fg K "read_places" EX f9 d9)(bu:Fg K "shifted_box" Ic hg ek)(bv:Fg K "least_box" Dr hh el)(bw:Fg K "clause_texts" Gd hi em)(bx:Fg K "read_rule" JK hj en)(bz:Fg K "deciding" Md hk eo)(b0:Fg K "becomes" Nz hl ep)(b1:Fg K "shown_rule" IO hm er)(b2:Fg K "nine_parts" IQ hn es)(b3:Fg K "fours_of" Mb ho et)(b4:Fg K "met_in_the_middle" DI hp eu)(b5:Fg K "lies_within" Ie hq ev)(ca:Fg K "reach_of" LY hr ew)(cb:Fg K "bare_field" IS hs ey)(cc:Fg K "widened" Nq ht ez)(cd:Fg K "trimmed" Nr hu e0)(ce:Fg K "middle_of" GP hv e1)(cf:Fg K "is_bare_around" EH hw e2)(cg:Fg K "widened_over" FY hx e3)(ch:Fg K "widened_to" IN hy e4)(ci:Fg K "planted" Nt hz e5)(bh:Fg K "replaced" LX h0 e6)(cj:Fg K "field_of" Mc h1 e7)(ck:Fg K "by_rows" Ny h2 e8)(cl:Fg K "cells_of" Mf h3 e9)(bi:Fg K "gather_cells" Gc h4 fb)(cm:Fg K "box_of" Pu h5 fc)(cn:Fg K "jump" Vj h6 fe)(co:Fg K "road" Vi h7 ff)(cp:Fg K "check_leap" IR h8 fg)(cq:Fg K "level_for" JL h9 fh)(cr:Fg K "_law_at" NA ia fi)(cs:Fg K "_law_mix" Mg ib fj)(ct:Fg K "_law_state_by" Fz ic fk)(cu:Fg K "_law_condition_by" CJ ie fl)(cv:Fg K "_law_clause_by" EI ig fm)(cw:Fg K "_law_holds" IU ih fp)(cx:Fg K "_law_decides" Gf ii fq)(cy:Fg K "_law_becomes" Gh ij ft)(cz:Fg K "_law_clauses_by" Er ik fu)(c0:Fg K "_law_word" Fn il fv)(c1:Fg K "_law_text" GQ im fw)(c2:Fg K "_law_by_rows" Gg io fy)(c3:Fg K "_law_listed" Ig ip fz)(c4:Fg K "_law_step" Ef iq ga)(c5:Fg K "_law_cells_by" FA ir gb)(c6:Fg K "_law_right" IT is gc)(c7:Fg K "_law_rows_of" Ge it gd)(c8:Fg K "law" Rf iu ej)(da:Fm K j "holds" "Amounts.holds" FB iw gf)(dc:Fm K r "holds" "Places.holds" Et iy gh)(de:Fm K n "fits" "Clause.fits" Fa i0 gj)(dg:Fm K a "kept" "Grove.kept" Ja i2 gl)(dh:Fm K a "linked" "Grove.linked" Gj i3 gm)(di:Fm K a "check_square" "Grove.check_square" Du i4 gn)(dl:Fm K a "leaf" "Grove.leaf" IZ i5 go)(dm:Fm K a "level_of" "Grove.level_of" EK i6 gp)(dn:Fm K a "state_of" "Grove.state_of" EJ i7 gq)(dp:Fm K a "living" "Grove.living" Gi i8 gr)(bj:Fm K a "counted" "Grove.counted" DU i9 gs)(dq:Fm K a "span" "Grove.span" IW ja gt)(bl:Fm K a "boxed" "Grove.boxed" EZ jb gu)(dr:Fm K a "measured" "Grove.measured" DC jc gv)(du:Fm K g "change" "Jumps.change" Eu jf gy)(dv:Fm K g "after" "Jumps.after" Ii jg gz)(dw:Fm K g "check_jump" "Jumps.check_jump" DY jh ha)(bm:Fm K g "reckoned" "Jumps.reckoned" DB ji hb)(dx:Fm K g "fresh" "Jumps.fresh" CA jj hc)(dy:Fm K g "four_halfway" "Jumps.four_halfway" Bw jk hd)(dz:Fm K g "middle_after" "Jumps.middle_after" Dt jm he)(ea:Fm K g "cell_after" "Jumps.cell_after" CS jn hf)(c9:Fi K j "Amounts.__init__" Gk iv ge)(db:Fi K r "Places.__init__" Ih ix gg)(dd:Fi K n "Clause.__init__" Ij iz gi)(df:Fi K a "Grove.__init__" Jb i1 gk)(ds:Fi K O "Rule.__init__" GR jd gw)(dt:Fi K g "Jumps.__init__" IV je gx)(eb:W.nsIn K mainGlobals "all"=n8 n9)(br:W.nsIn K mainGlobals "bool"=n8 n9)(bc:W.nsIn K mainGlobals "enumerate"=n8 n9)(ec:W.nsIn K mainGlobals "int"=n8 n9)(a3:W.nsIn K mainGlobals "isinstance"=n8 n9)(ed:W.nsIn K mainGlobals "len"=n8 n9)(bt:W.nsIn K mainGlobals "list"=n8 n9)(ee:W.nsIn K mainGlobals "max"=n8 n9)(ef:W.nsIn K mainGlobals "min"=n8 n9)(bo:W.nsIn K mainGlobals "range"=n8 n9)(bg:W.nsIn K mainGlobals "sorted"=n8 n9)(eg:W.nsIn K mainGlobals "str"=n8 n9)(eh:W.nsIn K mainGlobals "sum"=n8 n9)(bp:W.nsIn K mainGlobals "tuple"=n8 n9)(ei:W.nsIn K mainGlobals "zip"=n8 n9)(bf:W.nsIn K mainGlobals "STATES"=n8 (n8 (.int 8 a8)))(a1:W.nsIn K mainGlobals "NEIGHBOURS"=n8 (n8 (.int 8 S)))(ah:W.nsIn K mainGlobals "STATE_FIGURES"=n8 (n8 (.str D B)))(aa:D=Str.ofString "01234567")(Y:W.nsIn K mainGlobals "AMOUNT_FIGURES"=n8 (n8 (.str y u)))(U:y=Str.ofString "012345678")(bd:W.nsIn K mainGlobals "ANY_SIGN"=n8 (n8 (.str am al)))(bb:am=Str.ofString "*")(ba:W.nsIn K mainGlobals "TOP_LEVEL"=n8 (n8 (.int 48 af)))(aw:W.nsIn K mainGlobals "CLAUSE_MARK"=n8 (n8 (.str N L)))(ao:N=Str.ofString "; ")(an:W.nsIn K mainGlobals "LEAST_JUMPED"=n8 (n8 (.int 2 E)))(bn:W.nsIn K mainGlobals "LIMIT"=n8 (n8 (.int 1099511627776 be)))(ax:W.nsIn K mainGlobals "LEAST_LEVEL"=n8 (n8 (.int 1 M)))(a0:W.nsIn K mainGlobals "MOST_CELLS"=n8 (n8 (.int 4096 R))):∃fd:FuncData,(∀(s:P_)(v:S_),BindsTo s fd ([v],[]) [#["_law_script",v]])/\∀Q:Heap,K.In Q->Q.Ns mainGlobals mg->AJ l.prog w K mg Q CX0 152 fa fd ["_law_script"] (Ws K):=by
 erw[e=jo.symm.trans (A4g X G c8.at_),!e,(no:∀{x:Str},W.nsIn K mainGlobals x=n8 n9->mg x=n9)=λz=>W.mg_none_of X G z,<-ao,<-bb,<-U,<-aa,(T:Top K mg ((j,r,n,a,O,g):Ad))=(no eb,no br,no bc,no ec,no a3,no ed,no bt,no ee,no ef,no bo,no bg,no eg,no eh,no bp,no ei,(a8,A4g X G bf),(S,A4g X G a1),(B,A4g X G ah),(u,A4g X G Y),(al,A4g X G bd),(af,A4g X G ba),(L,A4g X G aw),(E,A4g X G an),(be,A4g X G bn),(M,A4g X G ax),(R,A4g X G a0),A4g X G dE,az,ab,P,A4g X G dF,a5,ae,A4g X G dG,a4,aq,H,ai,A4g X G dN,i,aj,au,ad,ar,ac,as,A4g X G dO,bq,a2,ak,A4g X G dM,t,av,V,ay,A,I)]
 erw[(ej,λs v=>(by erw[(_,_,_,_,_,_,_,_,_,rfl,_)=c8.fn.ex,.of_eq Z]),λQ _ _=>?_),(d:∀{CX:CXT}{k:Nat}{x:Str}{st:Stmt}{f:R_}{fd:E_}{ps:K_}{sp:Sp},Fg K x st f fd->AJ l.prog w K mg Q CX k f fd ps sp->CO K fd ps []->Cal l.prog w K mg Q CX k x ps sp)=λF o b=>(_,_,o,A4g X G F.at_,F.fn.kp,b)]
 have p:∀{CX:CXT}{k:Nat}{C:R_}{x q:Str}{st:Stmt}{f:R_}{fd:E_}{ps:K_}{sp:Sp},Fm K C x q st f fd->Cls K C->AJ l.prog w K mg Q CX k f fd ps sp->CO K fd ps []->BY l.prog w K mg Q CX k C x ps sp:=λF c o b=>((_,_,o,F.me,b),c)
 have ag:∀{CX:CXT}{k:Nat}{C:R_}{x q:Str}{st:Stmt}{f:R_}{fd:E_}{ps:K_}{sp:Sp},Fi K C q st f fd->mg x=n8 (.ref C)->AJ l.prog w K mg Q CX k f fd ps sp->CO K fd ps []->Tf l.prog w K mg Q CX k x C ps sp:=λF m o b=>(_,_,o,F.mk_,m,b)
 erw[aM=d g0 (aG3 g0.fn T) (bnd g0.fn),bC=d g1 (aG2 g1.fn T aM) (bnd g1.fn),aT=p dg i (aCw dg.fn T) (bnd dg.fn),dD=ag df T.aCi (aBu df.fn T aT) (bnd df.fn)]
 erw[a6=p dh i (aCy dh.fn T aT) (bnd dh.fn),a9=p di i (aE2 di.fn T aM) (bnd di.fn),aV=p bj i (aBs bj.fn T bj.me (bnd bj.fn) 49) (bnd bj.fn),bK=p dp i (aFA dp.fn T a9 aV) (bnd dp.fn),aS=p dl i (aCx dl.fn T bC) (bnd dl.fn),a7=p dm i (aE8 dm.fn T a9) (bnd dm.fn),aI=p dn i (aFM dn.fn T a7) (bnd dn.fn),aJ=d bu (aB2 bu.fn T) (bnd bu.fn),b9=d bv (aBx bv.fn T) (bnd bv.fn),b7=p bl i (aBq bl.fn dr.fn T bl.me (bnd bl.fn) dr.me (bnd dr.fn) aJ b9 49) (bnd bl.fn),cA=p dq i (aC4 dq.fn T a9 b7) (bnd dq.fn),aK=d b5 (aE9 b5.fn T) (bnd b5.fn),aC=d ca (aB0 ca.fn T a7) (bnd ca.fn),bI=d cc (aFO cc.fn T a7 a6) (bnd cc.fn),cJ=d ce (aFF ce.fn T a6) (bnd ce.fn),bD=d cf (aGt cf.fn T) (bnd cf.fn),aY=d cd (aC5 cd.fn T a7 bD cJ) (bnd cd.fn),bN=d cg (aHE cg.fn T aK aC bI) (bnd cg.fn),aZ=d cb (aBp cb.fn T) (bnd cb.fn),bO=d bh (aB1 bh.fn T (A4g X G bh.at_) (bnd bh.fn) aS a6 50) (bnd bh.fn),cT=d ci (aBy ci.fn T aK bC aC bN bO aY) (bnd ci.fn),cP=d cj (aE5 cj.fn T aZ cT) (bnd cj.fn),cU=d ck (aC2 ck.fn T) (bnd ck.fn),aX=d bi (aD0 bi.fn T (A4g X G bi.at_) (bnd bi.fn) aI 50) (bnd bi.fn),cR=d cl (aE3 cl.fn T bK aC aX cU) (bnd cl.fn),cZ=d cm (aBr cm.fn T cA aC aJ) (bnd cm.fn),cO=d g2 (aB3 g2.fn) (bnd g2.fn),cV=ag c9 T.aAX (YQ c9.fn T) (bnd c9.fn)]
 erw[dA=ag db T.aBY (YN db.fn T) (bnd db.fn)]
 erw[dB=ag dd T.aBX (YO dd.fn T) (bnd dd.fn)]
 erw[cW=p da az (Vp da.fn T) (bnd da.fn),cY=p dc a5 (Vo dc.fn T cO) (bnd dc.fn),bX=p de a4 (aCs de.fn T cO cW cY) (bnd de.fn),cQ=d bz (aE4 bz.fn T bX) (bnd bz.fn),bJ=d b0 (aEy b0.fn T cQ) (bnd b0.fn),aN=d g4 (aG8 g4.fn T) (bnd g4.fn),aW=d g5 (aHA g5.fn T aN) (bnd g5.fn),bP=d g8 (aG6 g8.fn T) (bnd g8.fn),bQ=d g7 (aFH g7.fn T aN bP cV) (bnd g7.fn),bY=d g9 (aFK g9.fn T aW dA) (bnd g9.fn),bB=d g6 (aBz g6.fn T bQ bY) (bnd g6.fn),bZ=d g3 (aG4 g3.fn T aN aW bB dB) (bnd g3.fn),bS=d bw (aGz bw.fn T) (bnd bw.fn),dL=ag ds T.aEw (aG5 ds.fn T bS bZ) (bnd ds.fn)]
 erw[cH=d bx (aG7 bx.fn T dL bJ) (bnd bx.fn),cC=d b1 (aC3 b1.fn T) (bnd b1.fn),aQ=p du t (aE1 du.fn T cC) (bnd du.fn),cX=ag dt T.aCj (aBw dt.fn T aQ) (bnd dt.fn)]
 erw[aH=p ea t (aE0 ea.fn T aI aS bJ) (bnd ea.fn),aE=p dz t (aCz dz.fn T a6 aH) (bnd dz.fn),aO=d b2 (aC0 b2.fn T a6) (bnd b2.fn),aU=d b3 (aBt b3.fn T) (bnd b3.fn),aG=d b4 (aFE b4.fn T a6) (bnd b4.fn),aD=p bm t (WI bm.fn dy.fn dx.fn T bm.me (bnd bm.fn) dy.me (bnd dy.fn) dx.me (bnd dx.fn) aE a6 aO aU aG 46) (bnd bm.fn),b8=p dw t (aGv dw.fn T a7 aM) (bnd dw.fn),bW=p dv t (YM dv.fn T A6 b8 aD) (bnd dv.fn),cD=d cp (aCu cp.fn T aM cZ aK) (bnd cp.fn),cK=d cq (aFC cq.fn T aC) (bnd cq.fn),cB=d ch (aHF ch.fn T a7 bI) (bnd ch.fn),dH=d co (aFI co.fn T cD aZ cK cB bW aY) (bnd co.fn),dJ=d cn (aE6 cn.fn T dH aY) (bnd cn.fn),aF=d cr (aGs cr.fn T) (bnd cr.fn),aB=d cs (aFG cs.fn) (bnd cs.fn),aA=d ct (aHB ct.fn) (bnd ct.fn),b6=d cu (aGx cu.fn T aB aA) (bnd cu.fn),bF=d cv (aGw cv.fn T aB aA b6) (bnd cv.fn),cF=d cw (aG1 cw.fn T) (bnd cw.fn),bU=d cx (aG0 cx.fn T cF) (bnd cx.fn),aR=d cy (aGu cy.fn T bU) (bnd cy.fn),bA=d cz (aGy cz.fn T aF bF aR) (bnd cz.fn),cL=d c0 (aHD c0.fn T) (bnd c0.fn),cM=d c1 (aHC c1.fn T cL) (bnd c1.fn),bV=d c2 (aFJ c2.fn T) (bnd c2.fn),aP=d c3 (aFB c3.fn T bV) (bnd c3.fn),bH=d c5 (aEz c5.fn T aF aB aA) (bnd c5.fn),cN=d c4 (aFN c4.fn T aR) (bnd c4.fn),cE=d c6 (aG9 c6.fn T) (bnd c6.fn),bT=d c7 (aFL c7.fn T aP cN) (bnd c7.fn),aE7 c8.fn T dD aF aB bA cM cH bH aP bT cP cX aQ dJ cR cE]
theorem walk{l:W.OpenLaw}{q:N_}{c:K_}{j:(Str->Option Value)->Heap->Prop}{g:World->Heap->Prop}{d:DefRec}{K:Params->W.Frag}(r:l.most=n8 63)(e:d.params.defaults=[])
  (o:∀(w:Q_)(h:T_),g w h->(K w.params).In h)
  (F:∀(w:Q_)(mg:C_)(i:R_)(h:T_),(K w.params).In h->h.Ns mainGlobals mg->mg d.name=n8 (.ref i) ->
   ∃fd:FuncData,(∀(s:P_)(u:S_),BindsTo s fd ([u],[]) [#["_law_script",u]])/\∀b:Heap,(K w.params).In b->b.Ns mainGlobals mg->AJ l.prog w (K w.params) mg b CX0 152 i fd ["_law_script"] (Ws (K w.params))) :
  W.WalkO q c j g l.row.toRowW d [] (λf vs=>PySem.call f vs) :=
 L2.Wc (n:=63) (k:=152) (x:="_law_script") (CX:=λ_=>CX0) (sp:=λw=>Ws (K w.params)) r A6 e (Z,by decide,by decide) o F (λ_ _ a ns p _ m=>(a,ns,Z,m,p,λ_=>Z)) λ_ _ _ _ _ z=>z
end J
open Lean in
local macro_rules|`(#print $s:str)=>return mkNullNode (<-(s.getString.splitOn " ").toArray.mapM fun n=>`(theorem $(mkIdent (.str `PySem.W.Fast ("tw"++n))):ident:True:=trivial))
#print"24614449311921770 41154529572752790 73476907233485348 103567776942821795 104980318056571357 124044530618752339 131904373687712005 158136153787965026 189282949475410937 280361335256660974 282324789321134392 310375931952743010 313049227192106363 314745789702759755 330855814306903172 387095966454428815 391150636302487997 406907366505576595 408714657790512140 442214791386008370 496930469466754078 521506661116109168 539453677558334693 544797740152603466 552059223020281351 586686888301838901 592875075574131211 596077907197663026 598752228117623316 627759886722178130 672941116343283237 676419815723876081 749267389724681913 753100922770872173 782836164271315783 797788559715838433 800018088181069881 821146230201987854 830348106521708143 866004064388937403 974592959148998393 982893206520708818 1150680788214300274 1157261347979508814 1157920201058797507 1179242579098444293 1199316886735833912 1210745889676385407 1271258761267448467 1271490366406440344 1273524562281049765 1294147277458849834 1335949425956815657 1338142090771266552 1345007196483098745 1357300320479158556 1374313522360116914 1418374077312532866 1418876279279319455 1440948127541305157 1447128166954757534 1453465668791831053 1477574600125623086 1523220361807996231 1548870340106582347 1550689150785404313 1575543175934758247 1584947175829468773 1596174076267636655 1596261743866106370 1601776806652048251 1640170490296102996 1667992096451632902 1673840688505812980 1690419001411774804 1704235099157800812 1735136658627478011 1758841503913521939 1759246542458233582 1762420355705188640 1765032282875740542 1773722079919007265 1791577227632619755 1794142957095393362 1809867137707918807 1823079094594933656 1837402897272375521 1886681281189569613 1894220436328881700 1928311095305416783 1937421480019265871 1942388358976035133 1952019328693417197 1961307988235706926 2042993591458421136 2067647635820468579 2089902142197196563 2100827640724924952 2134187936000016758 2140849402725615591 2152801419646888334 2173515816848964079 2203412102912906076 2216086053107906984 2234856592944131528 2262206858180870734 2316149441858860990 2333100250258290087 2358546120612238808 2374769373674253809 2380477731986628159 2435174524282577598 2449451429624595045 2498395309883711672 2502582140573918758 2507183200590350660 2510711054101180763 2540411962487953704 2542091908435934767 2548951235930045221 2551652659020503914 2558439492685622948 2571339306739447907 2578804617260491230 2599310473739033317 2641609597297880398 2666453511107860811 2727232259159903159 2753625583867233439 2759661800298892250 2762180782652897328 2770589845910129635 2772757207880239442 2815608577249559093 2819787466203789192 2830643048658012513 2878977515799806910 2880752389391956165 2902922387928661745 2925014428237350514 2988311701391370087 3011513065661135181 3013423860958966455 3029694943698789445 3047960028657462185 3079445910666860851 3097745798629403474 3109064312801006516 3114884897400347628 3118653729505454719 3166548026522460829 3243845704909387540 3265015881404276324 3299258063151652961 3311299769144574133 3328803566410256003 3362350351022823743 3366272233692552038 3393267357057607087 3428921923417391330 3435234422719972919 3436429572285179984 3490827101262277524 3496541321018492271 3499673733727848103 3522227220883012576 3524266620464154565 3538141309851219331 3555472466910765828 3570128638628754147 3655570148263369296 3663553708228971511 3690199236794173083 3724342992761206730 3820569531025422572 3825750486437559470 3829265590758791989 3842654616881671486 3861131414378696269 3915692764941509380 3940310137585260701 3964160213123965509 3969967812991187384 3971005751703617819 3998637396999292507 4016536850909544169 4031953624839582383 4057034669092134838 4076226452408758722 4089644215342595035 4097236471378764389 4102529393494795041 4171910062399315370 4204688030015752253 4302311844291296446 4305334023979194969 4319396299760841973 4319541900924677629 4327930815914146346 4338235103585012996 4350672336252620884 4371387197646590613 4446971811985614464 4523948290318796982 4680470072396206884 4687218223898034199 4715443416910321871 4718963848542338494 4739150630219241618 4780583925492910289 4791744099323929162 4797870190961348273 4811432412808552650 4819580705196843141 4841619265400482205 4850200502280970719 4867380234818970477 4893824823613296076 4901337700109227985 4904700262019453046 4976336603987691795 5044426232973541740 5046673117364298269 5077902165973130998 5163356386508319755 5185880314492943632 5216046508291017745 5266924123281596565 5311392410773324383 5329724110485473902 5339083924511050438 5379309213773840258 5411655258722143341 5420610465821072277 5434259069942071878 5459678437216676742 5469518951713809191 5478303202633166055 5501240721263281321 5513806304067192871 5526208517572187207 5549639214106879245 5628477639913392618 5649255931800540314 5650723508873758662 5659866935046646801 5670251066751528346 5726859525125697932 5766572464505432218 5774355429025597319 5787893345614185461 5814469559324674844 5825173144301164019 5888629158215981891 5893229448060145135 5897433393950869955 5956469446454271408 5961422186964019737 5978856831784729079 6034056246532719115 6068447058534242778 6094420091495154806 6101456876629227182 6122335840420548871 6127460570479238930 6128722932846040756 6131033402552077752 6141201759611751878 6149010748830030293 6155339084964054446 6170782503796350356 6196456210585248710 6225357555369553351 6310444173641537408 6311345874343175203 6332771351568194021 6334016897620667407 6336134256497761733 6351831537288050562 6388257289958264391 6396202272906601751 6403941937491784299 6422420500402430349 6438166394705127652 6462420076853461403 6494369573889384680 6516594129322203410 6537363279547988189 6592326693132769241 6646502545188703230 6711660224422447931 6766843488490361356 6774994269541263968 6798015726923787779 6802339879818284699 6816733745041268679 6845954788318490285 6856346003218752529 6868843193069586657 6887258376250298552 6905791216837952991 6952831818384542547 6967604567662831034 6991867139726351180 7029611838940328763 7048480985422970607 7095561356389378620 7098721932266925759 7102148110087342442 7118235612422345362 7143624614441781627 7146150947751635514 7146787015847028532 7244432491372953084 7256482721926751109 7287152044319059567 7296344408299326552 7304465277186528724 7392616214128065104 7443871222963508190 7464301598806002962 7477665218242607644 7480697711616730722 7494541927312883560 7519713706225674065 7529226730994684330 7538355319376645973 7557867554342956468 7581404413367347846 7630880468051142471 7658989716220645799 7672435673628367654 7693529923773746570 7694279307470625619 7719771204378630875 7728237300245311985 7731657034991134077 7768230095561869824 7790733412039250106 7817174197035584152 7833352485854859490 7834613723237349595 7842507778993668196 7884074251428172254 7911870658418065167 7913537730793380492 7941207455650961788 7954208535030837946 7956610610895858498 7999166117020947570 8014579207852236900 8047470232396395213 8050503938186841877 8070130580746879166 8088240678740935621 8095405605238246448 8096328474280015009 8097369301836798824 8103501314025674783 8123781414883281529 8180851736781167537 8182644336208201780 8222770924523889059 8232363051238108810 8240034014483876098 8275832461972414069 8278986663346580661 8322843616346047269 8341462681718851075 8351268935895904251 8381563893629872999 8385231440326875449 8393822455833220693 8414538239062222512 8417599355384748569 8426950762164808223 8433586107961324464 8439262925742751877 8451579498245030074 8459557818524208225 8465740539430919838 8466220464493764285 8478428050019724067 8485181655587149734 8488522559377348910 8510258726548377516 8555322049176618699 8555748348419501516 8556127211188093029 8563726476355271048 8566974620084611356 8572506258620174783 8575313259874538202 8629588736992437724 8630665654136527680 8655469901763488637 8662247575487213905 8766180567159071748 8767100802406569275 8804075473142330555 8838269524447057020 8864512045662788772 8883567942356082994 8903544934883235169 8910895912954864166 8965700593217056866 8971329814164527931 9022294225788324010 9022432908057190256 9025356684053079069 9048093732068148947 9072943705465092835 9082980033271008940 9097226425464949282 9111843644096462612 9116788486581542867 9127551698530166842 9134238461244249797 9214173024203482656 9221733386176655574 9223316498799453987 9253586153258399744 9293622332456617099 9314005652575112795 9332227077637000687 9333204596314337600 9363746659437301945 9389835114458555698 9500747628544913258 9530218626713445222 9622988781133059179 9634725396443371133 9642849495869605815 9664053387867118043 9715847947299389032 9725834196446740319 9810587422306284429 9823065933993465317 9833127671342544334 9858574172712115480 9883808421203578415 9920134263646952470 9932601708994203948 9935555254342234339 9937462628468434483 9937527083140842908 9940715381510930795 9948283680855203659 9962470063487282842 9968888610096739806 10079839251959741848 10086622048698673817 10095609790826479265 10169834347270118248 10200564192205766184 10214256912092402472 10222012818440227133 10222437767655943211 10229208934405713770 10253751206730817028 10343014039843511942 10348037216536000514 10385729112277225285 10407280696229616908 10432514642871097847 10499594185789169561 10511947286283265691 10546011911677873455 10595437588556565694 10608441020253682984 10611512968234535472 10618693029598318662 10629535065977292846 10630179030744678684 10654257677508800377 10715697120987236896 10716739482580627404 10750260051828192222 10777249103238322260 10802785278100809443 10867949549336965672 10893350907964779255 10905415801923712248 10960218606879733332 10977556864784355671 11008640248244294135 11027641562481884133 11064096768949062914 11104212563499590610 11109206705063249473 11125532793760119064 11214334019822071773 11230812369654612902 11234232607536886386 11234870549730324336 11296817699140760358 11308839202540568065 11340370701161376561 11360065256669199699 11391015133707400247 11427593348524652558 11435169261823388171 11436903174910544325 11459465152883421051 11472430153181355742 11510678607055945909 11567382911341849195 11577857055539675719 11579209407549101075 11580463403989418254 11601736845311011115 11612748039716999973 11617607702067927396 11636464735449992365 11646629952049480559 11656482657536129175 11667936851160141030 11673370554303847739 11705966514794656033 11707054244243900017 11711118511904604780 11785016523620364666 11800130570110659389 11808152148886667020 11876484752474164310 11901999033507784271 11907574240831194242 11929531868779678905 11954147156630613664 11974033615640823929 11977939662160311648 11982610973292048542 11990568215447865386 11991752364997533013 12023972590000341445 12024507979421644825 12027272157726460643 12045473525911007408 12048795077470736000 12067503763969009412 12109187388681012709 12129964010080435408 12144991545689327596 12162411373846268570 12164183870526467533 12196302971611129482 12215384931158217042 12267832935033565725 12322108369127525086 12330225547253275659 12341893120115919004 12355712287895152977 12367086009548325504 12378589102363236651 12379369768308518032 12394177591283583886 12440644801563982036 12450698847667630438 12451557341153760819 12456066615323853253 12459579410851131762 12498963210245384720 12502219484366737765 12536136748475123121 12575574356630794040 12627252934209297298 12628745109442575887 12634165187256093082 12634301616414882164 12701619397302889435 12705359897823466439 12710080822819435976 12759297190673737120 12777521643530328406 12804854619088656039 12838445342205441381 12840938184552578698 12877653476069034333 12896356677679743748 12920185632697111839 12923275303692520167 12935389643766055697 12955003715742379881 12956416275803337826 12976312132192659841 12999587620986735178 13001734419477369364 13017645548037571571 13020504080137669588 13093571715200258493 13116950104473151868 13124472237190273535 13126553599637827918 13142786995651790283 13145215244960646692 13148997304788163429 13201873598864565155 13214054790576152626 13215422601468753458 13263783235203524968 13276279451340825468 13317113924433797389 13393274071980147161 13417526836659296917 13430302154376431737 13431452016100890767 13439272688138954786 13458580782241395878 13474402611906051125 13479677024286800231 13507742270155957721 13534097540335378863 13534648779450808764 13570943579783892809 13571027599829778589 13575652257799047556 13590210970034434067 13600054761373985401 13601148673990429713 13608544410591773883 13616730228251674346 13623795141818249760 13650226296292958037 13663886822524281202 13668003919686037950 13778452204852318482 13806690086609553989 13807172174195825026 13813881578848315770 13820608969848317383 13879154076557545669 13888704406366214248 13888847716366292547 13895053010926210972 13902621299999845556 13910792461588854373 13912329807557885465 13993537980114173483 14000403042251648765 14018634871463406992 14031642860925424101 14063909372813412398 14075564557197829783 14076014513425795893 14160010170203520724 14236450065045869795 14263994340492125342 14300831968422877742 14340256952769775703 14344223893178023661 14411152444188950461 14412328447784631840 14424554861392131108 14463550605503548976 14495601522724906268 14497693970209231921 14500329869050633370 14501243232751884445 14589487958533649901 14596881769870419896 14600340537349062993 14609271744538605352 14648727012606537219 14649445745459510095 14652496717182651271 14653148759272019924 14707772858838393857 14718721362191745537 14740487053579290648 14764997675453116029 14778013187538747081 14839299212275152523 14875617166593520222 14876144846377852102 14929047669952526046 14957290349554319589 14966338290866235160 14969633159621637236 14989895550625451287 14989899793891868892 14998977158497180690 15006516236660437912 15013425979998088327 15030502294184445974 15035389707973203177 15045695733277409028 15074927890013161520 15107103870484181657 15109187057854656042 15173407414106372278 15186962473387069108 15197281870172898434 15214655957528284084 15277339945416146598 15287795773310996224 15298810035084551456 15303576814206314502 15310100934148943734 15343258554373662960 15360279481764968992 15387884424152552999 15389117738103148012 15391406524335866637 15391436663505684753 15417808889209842739 15422576764034351025 15467568533190647185 15472416171706169235 15474136362336060491 15480278673709046378 15490587895481243454 15494438366704049650 15524034054404842864 15555440121140061320 15555527692969779895 15570805016841101989 15571702652852982643 15575578483496874166 15576595919065246070 15590430299887509444 15604090034233695940 15605404347318927761 15622819988807087073 15633748230088350771 15669409203866136650 15678961485389375568 15734582830653584589 15752800973781607626 15799913838983655539 15837302339660383004 15840385048196554974 15911517336933798576 15922309051274908853 15981441864502670624 16016160628809924729 16029695308340832888 16063006600938016485 16080797762895524031 16094834294595834413 16102598753788123682 16120232224974708615 16140212673927167441 16177373004077813006 16182537156395966141 16184744435611551514 16201269572543426718 16240979622599050284 16252760125921643472 16261930270922727913 16302269876928287814 16333968598920915068 16415740410149091943 16417926097328505442 16420542146468443588 16428259746458932699 16446989522581520500 16447013390692141324 16457197281497645508 16531427502213691669 16536944679165784607 16547363637637077615 16561743875990531461 16580609868237800962 16632049765564977056 16648849422002695787 16653177824927878831 16669840889283346657 16711452053591837307 16711627706033258022 16737264911091989909 16766419593770914062 16782335696337326950 16808385277389151627 16847144189718071763 16850149223412605847 16901679486338893923 16913442056154530380 16953578453391022338 16957231332592939684 16975702802566298586 16981650451104078809 16985024181561758488 16985683696926987524 17020010014385414044 17023545352898657554 17035771150454753654 17037087261384575802 17038345792521842802 17068849108284409433 17081335965191180868 17093508789252218817 17102574669966125949 17104589592376650541 17124705447415025681 17135168470966455423 17159978550324618593 17162044278971088077 17172618984239930954 17180313270625301281 17218673730917755459 17219742874600261865 17220354293675663648 17253585179307839571 17297198741378701335 17381396723299832016 17402655086723665596 17420944988325010527 17421539748799626905 17469412388527961613 17473980802248667776 17500672988105343522 17525549015841279199 17559358482444569842 17561627766954726896 17564468900902963466 17628674414843056451 17638745616286299708 17642441846014754735 17649376241926472415 17689678826159280714 17690645286079648016 17719297585901059579 17804149243233232936 17845406415565931881 17858441280602529728 17864316421776024124 17866918923254170017 17895839397203194617 17920279933533231614 18000768078919368952 18004952503382578025 18015899270837146867 18055261500077106210 18071106241512422521 18074095167237554237 18078203398041237225 18083682157699656963 18084842120022865673 18127489360968631239 18131215376636299644 18139129119308269894 18172817525319627898 18182925214581544147 18184875964699462160 18253750841200818672 18260407492008147958 18268530944472789290 18288298720401729890 18350110803310320265 18351743021503221017 18365119138444557877 18367638899543689915 18394100261191669929 18427042880129965837 18430116716072753814 18442507092325037171"
end
open PySem PySem.W PyProof.Rows
set_option maxRecDepth 100000 in
set_option maxHeartbeats 0 in
theorem PySem.Challenge.cw_jumpfield_k62_whole_change_of_rule_holds : PySem.Challenge.rw_jumpfield_k62_whole_change_of_rule.Holds := by
 w_on; o_law; k_head; (case hw=>w_witness2)
 k_fill
 refine J.walk (l:=PySem.Challenge.rw_jumpfield_k62_whole_change_of_rule) rfl rfl (fun w h Y=>PySem.W.kIn_of Y) ?F
 case F =>
  intro w mg fa h KX G hmg;refine' J.fin KX G hmg ..;any_goals first|(apply J.Fg.mk; k_is; apply L2.VS<;>k_is)|(apply J.Fm.mk; (apply L2.QB.mk<;>k_is); apply L2.VS<;>k_is)|(apply J.Fi.mk; (apply L2.Mk.mk<;>k_is); apply L2.VS<;>k_is)|(refine' ⟨?_,?_,?_,?_⟩<;>k_is)|k_is|decide +kernel
