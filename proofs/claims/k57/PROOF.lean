import PyProof.Rows.All
import Wide.All
import OpenK.AllK
import Wide.FinOn
import Lean
import PyProof.EqAt
import PyProof.EqKinds
import PyProof.TupleCall
import PyProof.Rows.CatFin
import PyProof.StrLawsIn
import KE.IntTextLaws
import KE.IntTextText
import PyProof.StrLawsTight
import PyProof.StrLawsChain
import PyProof.Rows.StrLawsPart
import PyProof.Rows.StrFirst
import PyProof.Rows.ReprOcc
import PyProof.Rows.StrItems
import PyProof.SumAny
import PyProof.SeqI3
import PyProof.WalkInts
import PyProof.NeKinds
import KE.KDictLaws
import PyProof.DictIter
import PyProof.DictWalks
import PyProof.Rows.DictUnroll
import KE.KSortTup
import KE.KSortKey
import KE.KDictSum
import PyProof.Rows.FStr
import PySem.Challenge.RW_jumpfield_k57_whole_far_gliding
set_option compiler.extract_closed false
set_option bootstrap.genMatcherCode false
set_option Elab.async false
set_option linter.all false
set_option genSizeOfSpec false
set_option maxRecDepth 100000
set_option maxHeartbeats 8000000
theorem Z{α:Sort u}{a:α}:a=a:=rfl
abbrev A_:=List (PySem.Addr×PySem.Obj)
abbrev B_:=PySem.Value->PySem.Shared->Prop
abbrev C_:=PySem.Str->Option PySem.Value
abbrev D_:=Int->Int->Nat
abbrev E_:=PySem.FuncData
abbrev F_:=List PySem.Value
abbrev H_:=List PySem.Addr
abbrev I_:=List Int
abbrev J_:=List Nat
abbrev K_:=List PySem.Str
abbrev L_:=Nat->Nat
abbrev M_:=Array PySem.Value
abbrev N_:=PySem.Program
abbrev O_:=PySem.W.Frag
abbrev P_:=PySem.Shared
abbrev Q_:=PySem.World
abbrev R_:=PySem.Addr
abbrev S_:=PySem.Value
abbrev T_:=PySem.Heap
theorem O_9{α:Sort u}{a:α}{q:Prop}:a=a∨q:=Or.inl Z
theorem R_9{α:Sort u}{β:Sort v}{γ:Sort w}{f:α->β->γ}:∀a b,f a b=f a b:=λ_ _=>Z
theorem S_4{p:Prop}(h:p:=by show 4<=PySem.sizeLine;decide):p:=h
theorem S_0{p:Prop}(h:p:=by show 0<=PySem.sizeLine;decide):p:=h
theorem S_1{p:Prop}(h:p:=by show 1<=PySem.sizeLine;decide):p:=h
theorem S_2{p:Prop}(h:p:=by show 2<=PySem.sizeLine;decide):p:=h
theorem D_9{p:Prop}(h:p:=by intro _ _ _ _ h;rcases h;subst_vars;rfl):p:=h
theorem A0{p:Prop}(h:p:=by lia):p:=h
theorem A1{p:Prop}(h:p:=by decide +kernel):p:=h
theorem A3{p:Prop}(h:p:=by intro z; cases z):p:=h
theorem A4{p:Prop}(h:p:=by decide):p:=h
theorem A6{p:Prop}(h:p:=by simp):p:=h
theorem B0{p:Prop}(h:p:=by intro _ z; cases z):p:=h
theorem B1{p:Prop}(h:p:=by show (0:Int) < 2; decide):p:=h
theorem B2{p:Prop}(h:p:=by show 0 < 1000; decide):p:=h
theorem B3{p:Prop}(h:p:=by show 1 < 1000; decide):p:=h
theorem B4{p:Prop}(h:p:=by show (0:Int) < 7; decide):p:=h
theorem B5{p:Prop}(h:p:=by show (0:Int) < 3; decide):p:=h
open List renaming length_map->B6,getElem?_eq_some_iff->B7,getElem?_map->B8,mem_cons->C1,mem_cons_self->C2,length_append->C3,mem_cons_of_mem->C4,getElem?_eq_getElem->C5,map_append->C6,getD_eq_getElem?_getD->C7,mem_map->C8,mem_singleton->D1,size_toArray->D4,mem_of_getElem?->D5,not_mem_nil->D7,mem_append->D8,map_cons->D9,length_cons->F0,mem_range->F1,nodup_iff_pairwise_ne->F7,getElem?_append_right->F8,length_range->F9,take_add_one->J3,mem_append_right->J6,getElem?_of_mem->L5,take_length->L6,length_take->L7,map_map->L9,getElem?_append_left->M4,range_succ->M5,nodup_cons->M6,pairwise_map->N4,getElem?_range->N7,length_replicate->N8,nodup_nil->O5,nodup_append->O8,find?_cons->O9,append_nil->P0,idxOf_lt_length_of_mem->P3,sum_cons->P4,lookup_cons->P7,append_assoc->Q4,replicate_succ->Q7,mem_flatMap->Q9,getElem_mem->R0,pairwise_cons->R3,mem_filter->R5,length_singleton->R8,getElem?_eq_none->R9,any_eq_true->S2,map_eq_nil_iff->S4,foldl_cons->S5,flatMap_cons->S9,all_eq_true->T3,mem_append_left->T4,length_pos_iff->T5,flatten_cons->U3,getElem?_take_of_lt->U6,any_cons->U7,mem_reverse->V0,getElem_map->V1,getElem?_replicate->V2,getElem?_cons_succ->V3,countP_cons->V4,mem_iff_getElem->W5,filterMap_cons->W7,findIdx?_eq_some_iff_getElem->Y6,map_nil->Z0
open PySem.Heap renaming get?_push_of_some->B9,get?_push_size->D0,lt_size->D3,size_push->O6,get?_none_of_le->O7,get?_update_ne->P1,get?_update_other->V9,get?_update_self->W2
open Nat renaming le_refl->C0,le_trans->C9,ne_of_lt->F2,lt_of_lt_of_le->F3,pow_succ->F6,zero_le->J0,mod_lt->J1,lt_of_le_of_lt->J8,not_lt_zero->L8,pow_le_pow_right->M7,zero_add->M8,div_add_mod->M9,mul_le_mul_left->N3,div_eq_of_lt->N9,lt_irrefl->O3,add_mul_div_left->O4,mod_eq_of_lt->P5,le_of_not_lt->P6,add_mul_mod_self_left->Q0,lt_succ_iff_lt_or_eq->Q6,succ_le_succ->Q8,pos_of_ne_zero->R1,le_succ->S0,mul_comm->S1,pow_zero->S6,lt_one_iff->S7,le_of_lt->S8,lt_succ_self->T0,lt_of_not_le->T1,ne_of_gt->T6,mul_zero->T7,lt_trans->T8,sub_add_cancel->U0,pow_pos->U1,lt_succ_of_lt->U2,min_le_right->U8,le_add_right->U9,succ_mul->V5,sub_self->V6,div_div_eq_div_mul->V7,add_comm->V8,div_lt_iff_lt_mul->W1,pow_lt_pow_right->W3,mul_one->W4,add_assoc->W8
open Bool renaming false_ne_true->D2,false_eq_true->J9,and_eq_true->P8,eq_iff_iff->R6,not_true->R7,eq_false_iff->Z2
open Option renaming map_eq_some_iff->D6,toList_some->P9,map_some->W0,isSome_map->Y9
open Int renaming toNat_natCast->F4,eq_ofNat_of_zero_le->F5,natCast_pow->J7,emod_lt_of_pos->M0,natCast_add->N2,natCast_mul->N5,emod_nonneg->N6,add_zero->O0,toNat_of_nonneg->O1,add_sub_cancel->O2,le_refl->Q5,pow_succ->R4,zero_add->T9,mul_add->U4,emod_eq_of_lt->U5,mul_assoc->W9,add_assoc->Y4,mul_comm->Z1
open Array renaming length_toList->P2,getElem?_eq_getElem->S3,getElem_toList->W6,forIn_toList->Y5
open PySem renaming wpAny_bind->Z3,wpAny_pure->Z6,boot_len->K8,wpAny_truthy_bool->K9,wpAny_call_entry->A0e,strLen_append->A0f,mem_of_lookup->A0g,wpAny_seqItems->A0h,wpAny_mono->A1b,wpAny_field->A1e,wpAny_holding->A1g,wpAny_typeNameOfWhole_keyiter->A2c,wpAny_Call_Name_kw->A2d,wpAny_setField_rec->A2e,wpAny_passesOwn->A2f,wpAny_pyIter_list->A2h,wpAny_newObj_type->A3a,wpAny_attempt->A3c,wpAny_typeNameOf_keyiter->A3e,call_meets->A3h,wpAny_isInstance->A4b,wpAny_specialOf->A4c,tupleKind_room_in1->A4g,wpAny_forIn_list->A5b,codeAny_mono->A5d,wpAny_rule->A5f,wpAny_execs_nil->A5g,isSubtype_tuple_tuple->A6c,wpAny_setField->A6e,wpAny_updateSeq_pair->A6f,wpAny_standAt->A6h,wpAny_onRaise->A7a,wpAny_tupleItemsOf->A7d
open Int.ofNat renaming inj->Z9
open Option.some renaming inj->X4
open Ne renaming symm->X5
open Classical renaming byContradiction->X6
open PySem.PassesOwn renaming never->X8
open PyProof.Rows renaming boot_isinstance->X9,boot_tuple->K7,boot_min->A0b,boot_int->A0d,callWith_type1->A1a,boot_str->A1c,boot_max->A1d,boot_bool->A3g
open PySem.W renaming mg_of->K1,kia_one->A0a,plainGet_of->A5c,callWith_K->A6a
open PySem.F renaming plainAttrs_list->K2,slot_list_append->K3,type_list_append->K4,slot_dict_get->A2a,slot_dict_keyiterator_next->A2g,slot_tuple_iterator_next->A3b,plainAttrs_str->A3f,args_dict_get_2->A4h,entry_dict_get->A5a,slot_zip_next->A5h,args_str_split_2->A7c
open PySem.Paired renaming length->K5,snoc->A2b
open List.Pairwise renaming imp_of_mem->A1f
open List.cons renaming inj->A1h
open PySem.Heap.SameBut renaming update->A4d
open PySem.Obj renaming data_mapFields->A4f
open PySem.Calls renaming callWith_builtin->A5e,evalArgs_plain->A6d,spliced_cons->A7b
abbrev Z4:=@if_neg
abbrev Z5:=@decide_eq_true
abbrev Z7:=@if_pos
abbrev Z8:=@decide_eq_false
abbrev X7:=@of_decide_eq_true
abbrev K0:=@congrArg
abbrev K6:=@or_false
abbrev A0c:=@if_false
abbrev A3d:=@not_false_eq_true
abbrev A4a:=@if_true
abbrev A4e:=@not_or
abbrev A6b:=@beq_iff_eq
abbrev A6g:=@decide_eq_true_eq
open PySem.W (instObj methodObj lookIn plainGet hasDictIn findIn handedIn isFn plainOver takerIn any_some makesIn emptyDict keepIn specialIn takesIn mroIn kitOne kitx_list kitx_dict notCls clsIn)
namespace L2
open PySem PySem.Spec PyProof.Rows
abbrev Key:=Sum Int Str
noncomputable def Rf:Key->Value->Bool
|.inl k,v=>Value.isInt k v
|.inr x,v=>Value.isStrOf x v
noncomputable def keyH(w:Q_):Key->Int
|.inl k=>hashInt k
|.inr x=>hashStr w x
theorem Ce:∀{k:Key}{v:S_},Rf k v=true->(∃i t,k=Sum.inl i/\v=Value.int i t)\/(∃x t,k=Sum.inr x/\v=Value.str x t)
|.inl i,v,h=>by
 obtain⟨t,e⟩:=Value.isInt_shape (k:=i) (v:=v) h;exact .inl ⟨i,t,Z,e⟩
|.inr x,v,h=>by
 obtain⟨t,e⟩:=Value.isStrOf_shape (x:=x) (v:=v) h;exact .inr ⟨x,t,Z,e⟩
theorem YR(i:Int)(t:Tok):Rf (.inl i) (.int i t)=true:=by simp[Rf,Value.isInt]
theorem YQ(x:Str)(t:Tok):Rf (.inr x) (.str x t)=true:=by simp[Rf,Value.isStrOf]
theorem key_ll(a b:Int):decide ((Sum.inl a:Key)=Sum.inl b)=(a==b):=by
 by_cases e:a=b
 .subst e;simp
 .have h:¬(Sum.inl a:Key)=Sum.inl b:=λq=>e (Sum.inl.inj q);rw[Z8 h];exact(beq_eq_false_iff_ne.mpr e).symm
theorem key_rr(a b:Str):decide ((Sum.inr a:Key)=Sum.inr b)=decide (a=b):=by
 by_cases e:a=b
 .subst e;simp
 .have h:¬(Sum.inr a:Key)=Sum.inr b:=λq=>e (Sum.inr.inj q);rw[Z8 h,Z8 e]
theorem key_lr(a:Int)(b:Str):decide ((Sum.inl a:Key)=Sum.inr b)=false:=Z8 (λq=>nomatch q)
theorem key_rl(a:Str)(b:Int):decide ((Sum.inr a:Key)=Sum.inl b)=false:=Z8 (λq=>nomatch q)
noncomputable def Co(prog:N_)(w:Q_):PySem.KeyKind prog w Key where
 is:=Rf
 hash:=keyH w
 inj:=λv a b ha hb=>by
  rcases Ce ha with ⟨i,t,rfl,rfl⟩|⟨x,t,rfl,rfl⟩
  .rcases Ce hb with ⟨j,u,rfl,e⟩|⟨y,u,rfl,e⟩
   .injection e with e1 _;rw[e1]
   .exact nomatch e
  .rcases Ce hb with ⟨j,u,rfl,e⟩|⟨y,u,rfl,e⟩
   .exact nomatch e
   .injection e with e1 _;rw[e1]
 byValue:=λk v h=>by
  rcases Ce h with ⟨i,t,rfl,rfl⟩|⟨x,t,rfl,rfl⟩<;>rfl
 pyHash:=λhv h=>by
  rcases Ce hv with ⟨i,t,rfl,rfl⟩|⟨x,t,rfl,rfl⟩
  .exact wpAny_pyHash_int h
  .exact wpAny_pyHash_str h
 eqBool:=λhu hv h=>by
  rcases Ce hu with ⟨i,t,rfl,rfl⟩|⟨x,t,rfl,rfl⟩
  .rcases Ce hv with ⟨j,u,rfl,rfl⟩|⟨y,u,rfl,rfl⟩
   .rw[key_ll]at h;exact wpAny_eqBool_int h
   .rw[key_lr]at h;exact SeqAt.EqAt.int_str i t y u _ _ _ _ h
  .rcases Ce hv with ⟨j,u,rfl,rfl⟩|⟨y,u,rfl,rfl⟩
   .rw[key_rl]at h;exact SeqAt.EqAt.str_int x t j u _ _ _ _ h
   .rw[key_rr]at h;exact wpAny_eqBool_str h
 «strs»:=λk x t v h=>by
  rcases Ce h with ⟨i,u,rfl,e⟩|⟨y,u,rfl,e⟩
  .exact nomatch e
  .injection e with e1 _
   subst e1;cases v<;>rfl
theorem TR(prog:N_)(w:Q_)(i:Int)(t:Tok):(Co prog w).is (.inl i) (.int i t)=true:=YR i t
theorem TQ(prog:N_)(w:Q_)(x:Str)(t:Tok):(Co prog w).is (.inr x) (.str x t)=true:=YQ x t
inductive V where
 |non|bl (b:Bool)|int (i:Int)|str (x:Str)|byt (b:Array UInt8)|flt (b:UInt64)|ref (a:R_)|ty (n:String)
 deriving DecidableEq
def Bd:V->Value->Prop
|.non,u=>u=Value.none
|.bl b,u=>u=Value.bool b
|.int i,u=>∃t,u=Value.int i t
|.str x,u=>∃t,u=Value.str x t
|.byt b,u=>∃t,u=Value.bytes b t
|.flt b,u=>∃t,u=Value.float b t
|.ref a,u=>u=Value.ref a
|.ty n,u=>u=Value.type n
abbrev AR:List V->List Value->Prop:=Paired Bd
theorem AR.length{xs:List V}{us:F_}(r:AR xs us):xs.length=us.length:=K5 r
theorem AR.get:∀{xs:List V}{us:F_}{i:Nat}{x:V},AR xs us->xs[i]?=some x->∃u,us[i]?=some u/\Bd x u
|_,_,_,_,.nil,e=>by simp at e
|_,_,0,_,.cons r _,e=>by simp at e;subst e;exact⟨_,Z,r⟩
|_,_,i+1,x,.cons _ t,e=>by
 obtain⟨u,a,b⟩:=AR.get (i:=i) (x:=x) t (by simpa using e);exact⟨u,by simpa using a,b⟩
theorem AR.set{x:V}{u:S_}(r:Bd x u):∀{xs:List V}{us:F_}(i:Nat),AR xs us->AR (xs.set i x) (us.set i u)
|_,_,_,.nil=>.nil
|_,_,0,.cons _ t=>.cons r t
|_,_,i+1,.cons q t=>.cons q (AR.set r i t)
theorem AR.append:∀{xs ys:List V}{us a:F_},AR xs us->AR ys a->AR (xs++ys) (us++a)
|_,_,_,_,.nil,s=>s
|_,_,_,_,.cons r t,s=>.cons r (AR.append t s)
theorem AR.take:∀{xs:List V}{us:F_}(n:Nat),AR xs us->AR (xs.take n) (us.take n)
|_,_,0,_=>.nil
|_,_,_+1,.nil=>.nil
|_,_,n+1,.cons r t=>.cons r (AR.take n t)
theorem AR.drop:∀{xs:List V}{us:F_}(n:Nat),AR xs us->AR (xs.drop n) (us.drop n)
|_,_,0,r=>r
|_,_,_+1,.nil=>.nil
|_,_,n+1,.cons _ t=>AR.drop n t
theorem AR.none_of:∀{xs:List V}{us:F_}{i:Nat},AR xs us->xs[i]?=none->us[i]?=none:=λ{xs us i} r e=>by
 have a:=r.length;have b:xs.length<=i:=List.getElem?_eq_none_iff.mp e;exact List.getElem?_eq_none_iff.mpr A0
def Jl:Option V->Option Value->Prop
|some v,some u=>Bd v u
|none,none=>True
|_,_=>False
def KV{κ:Type}:List (κ×V)->List (κ×Value)->Prop:=Paired λ(p:κ×V)(q:κ×Value)=>p.1=q.1/\Bd p.2 q.2
noncomputable def kV:Key->V
|.inl i=>.int i
|.inr x=>.str x
inductive HO where
|lst (xs:List V)
|tup (xs:List V)
|dK (kvs:List (Key×V))|dT (kvs:List (List Key×V))
|set (S:Int->Bool) (n:Nat)
|ins (C dx:R_) (fs:List (Str×V))
|own (x:R_)
|xd (fs:List (Str×V))
|met (f x:R_)
|rng (lo hi:Int)
|frz (o:Obj) (u:HO)
|tbl (ps:M_)
|ext (φ:Heap->Prop)
abbrev Hp:=Addr->Option HO
noncomputable def upd(H:Hp)(a:R_)(o:HO):Hp:=λb=>if b=a then some o else H b
theorem Ag{H:Hp}{a:R_}{o:HO}:upd H a o a=some o:=by unfold upd;rw[Z7 rfl]
theorem As{H:Hp}{a b:R_}{o:HO}(h:b≠a):upd H a o b=H b:=by unfold upd;rw[Z4 h]
theorem IF{H:Hp}{a:R_}{o u:HO}:upd (upd H a o) a u=upd H a u:=by
 funext b;unfold upd;split<;>rfl
theorem AE{H:Hp}{a b:R_}{o u:HO}(h:H a=some o)(h':H b=some u)(d:o≠u):a≠b:=by
 intro e;subst e;rw[h]at h';exact d (X4 h')
theorem Av{H:Hp}{a b:R_}{o:HO}(h:H a=some o)(h':H b=none):a≠b:=by
 intro e;subst e;rw[h]at h';cases h'
section
variable(P:N_)(w:Q_)
def BE(H:Hp)(h:T_)(a:R_):HO->Prop
|.lst xs=>xs.length<=sizeLine/\∃(its:F_)(n:Nat),AR xs its/\h.get? a=some {cls:=.type "list",data:=.seq its.toArray n}
|.tup xs=>xs.length<=sizeLine/\∃its:List Value,AR xs its/\IsTup h a its.toArray
|.dK kvs=>kvs.length<=sizeLine/\(a==sysModules)=false/\∃vs,KV kvs vs/\h.DictOf (Co P w) a vs
|.dT kvs=>kvs.length<=sizeLine/\(a==sysModules)=false/\∃xs:List (List Key×Addr×Value),
  Paired (λ(p:List Key×V)(q:List Key×Addr×Value)=>p.1=q.1/\H q.2.1=some (.tup (p.1.map kV))/\Bd p.2 q.2.2) kvs xs /\
  ∃o es ep,h.get? a=some o/\o.ExactDict/\o.data=.dict es ep/\es.toList=xs.map (entryOfKey (tupleKind (Co P w)))/\(xs.map (·.1)).Nodup
|.set S n=>h.SetOf (intKind P w) a S n
|.ins C dx fs=>H dx=some (.own a)/\fs.length<=1000/\dx≠a/\h.get? a=some (instObj C dx) /\
  ∃mA,h.Ns1 dx mA/\(∀f,Jl (fs.lookup f) (mA f))/\PySem.Within mA (fs.map (·.1))
|.own _=>∃o,h.get? a=some o
|.xd fs=>∃mA,h.Ns1 a mA/\∀f,Jl (fs.lookup f) (mA f)
|.rng lo hi=>∃t u v,h.get? a=some {cls:=.type "range",data:=.fields #[.int lo t,.int hi u,.int 1 v]}
|.frz o u=>h.get? a=some o/\BE H h a u
|.tbl ps=>h.get? a=some {cls:=.none,data:=.fields ps}
|.met f x=>h.get? a=some (methodObj (.ref f) (.ref x))
|.ext φ=>φ h/\(∃o,h.get? a=some o)/\∀h1 h2:Heap,φ h1->(∀o,h1.get? a=some o->h2.get? a=some o)->φ h2
def HOk(H:Hp)(h:T_):Prop:=∀a o,H a=some o->BE P w H h a o
end
section
variable{P:N_}{w:Q_}{H H':Hp}{h h':T_}{a:R_}{o:HO}
theorem BE.lt(x:BE P w H h a o):a<h.objs.size:=by
 cases o with
 |lst xs=>obtain⟨_,_,_,_,e⟩:=x;exact D3 e
 |tup xs=>obtain⟨_,_,_,p⟩:=x;exact p.lt
 |dK kvs=>obtain⟨_,_,_,_,o,_,_,e,_⟩:=x;exact D3 e
 |dT kvs=>obtain⟨_,_,_,_,o,_,_,e,_⟩:=x;exact D3 e
 |set S n=>obtain⟨o,_,_,_,e,_⟩:=x;exact D3 e
 |ins C dx fs=>obtain⟨_,_,_,e,_⟩:=x;exact D3 e
 |own y=>obtain⟨_,e⟩:=x;exact D3 e
 |xd fs=>obtain⟨_,⟨_,_,_,e,_⟩,_⟩:=x;exact D3 e
 |rng lo b=>obtain⟨_,_,_,e⟩:=x;exact D3 e
 |frz c u=>obtain⟨e,_⟩:=x;exact D3 e
 |tbl d=>exact D3 (show h.get? a=some _ from x)
 |met f y=>exact D3 (show h.get? a=some _ from x)
 |ext φ=>obtain⟨_,⟨_,e⟩,_⟩:=x;exact D3 e
theorem Paired.mapP{α β:Type}{F G:α->β->Prop}:∀{c:List α}{d:List β},Paired F c d->(∀a b,F a b->G a b)->Paired G c d
|_,_,.nil,_=>.nil
|_,_,.cons r t,f=>.cons (f _ _ r) (Paired.mapP t f)
theorem Paired.imp'{α β:Type}{F G:α->β->Prop}(f:∀a b,F a b->G a b){c:List α}{d:List β}(r:Paired F c d):Paired G c d:=Paired.mapP r f
theorem BE.stay(x:BE P w H h a o)(k:∀b u,(b=a\/H b=some (.own a))->h.get? b=some u->h'.get? b=some u)
  (E:∀b,H b=some (.own a)->H' b=some (.own a)) (F:∀b xs,H b=some (.tup xs)->H' b=some (.tup xs)):BE P w H' h' a o:=by
 induction o with
 |lst xs=>obtain⟨z,l,n,r,e⟩:=x;exact⟨z,l,n,r,k _ _ (.inl Z) e⟩
 |tup xs=>obtain⟨z,l,r,g,e,c⟩:=x;exact⟨z,l,r,g,k _ _ (.inl Z) e,c⟩
 |dK kvs=>obtain⟨z,y,vs,r,g,j,i,e,c⟩:=x;exact⟨z,y,vs,r,g,j,i,k _ _ (.inl Z) e,c⟩
 |dT kvs =>
  obtain⟨z,y,xs,r,g,j,i,e,c⟩:=x;exact⟨z,y,xs,Paired.mapP r λp q z=>⟨z.1,F _ _ z.2.1,z.2.2⟩,g,j,i,k _ _ (.inl Z) e,c⟩
 |set S n=>obtain⟨g,j,i,t,e,c⟩:=x;exact⟨g,j,i,t,k _ _ (.inl Z) e,c⟩
 |ins C dx fs =>
  obtain⟨d,z,I,e,m,⟨s,j,i,D,c⟩,r⟩:=x;exact⟨E _ d,z,I,k _ _ (.inl Z) e,m,⟨s,j,i,k _ _ (.inr d) D,c⟩,r⟩
 |own y=>obtain⟨g,e⟩:=x;exact⟨g,k _ _ (.inl Z) e⟩
 |xd fs=>obtain⟨m,⟨s,j,i,e,c⟩,r⟩:=x;exact⟨m,⟨s,j,i,k _ _ (.inl Z) e,c⟩,r⟩
 |rng lo K=>obtain⟨t,u,v,e⟩:=x;exact⟨t,u,v,k _ _ (.inl Z) e⟩
 |frz g u G=>obtain⟨e,q⟩:=x;exact⟨k _ _ (.inl Z) e,G q⟩
 |tbl A =>
  have e:h.get? a=some {cls:=.none,data:=.fields A}:=x;show h'.get? a=some {cls:=.none,data:=.fields A};exact k a _ (.inl Z) e
 |met f y =>
  have e:h.get? a=some (methodObj (.ref f) (.ref y)):=x;show h'.get? a=some (methodObj (.ref f) (.ref y));exact k a _ (.inl Z) e
 |ext φ=>obtain⟨p,⟨o,e⟩,B⟩:=x;exact⟨B _ _ p λo q=>k _ _ (.inl Z) q,⟨o,k _ _ (.inl Z) e⟩,B⟩
theorem HOk.lt(x:HOk P w H h)(e:H a=some o):a<h.objs.size:=(x a o e).lt
theorem HOk.fresh(x:HOk P w H h)(e:h.objs.size<=a):H a=none:=by
 cases q:H a with
 |none=>rfl
 |some u=>exact absurd (F3 (x.lt q) e) (O3 _)
theorem HOk.kept(x:HOk P w H h)(k:∀b u,h.get? b=some u->h'.get? b=some u):HOk P w H h':=λa o e =>
 (x a o e).stay (λb u _ q=>k b u q) (λ_ q=>q) λ_ _ q=>q
theorem HOk.laid(x:HOk P w H h)(k:∀b u,h.get? b=some u->h'.get? b=some u)(g:h.objs.size<=a)(new:BE P w (upd H a o) h' a o):HOk P w (upd H a o) h':=λb u e=>by
 have f:=x.fresh g;by_cases d:b=a
 .subst d;rw[Ag]at e;cases e;exact new
 .rw[As d]at e;exact(x b u e).stay (λc v _ q=>k c v q) (λc q=>by rw[As (Av q f)];exact q) λc xs q=>by rw[As (Av q f)];exact q
end
def Rd(H:Hp)(a:R_)(u:HO):Prop:=H a=some u\/∃o,H a=some (.frz o u)
theorem Rd.ok{P:N_}{w:Q_}{H:Hp}{h:T_}{a:R_}{u:HO}(r:Rd H a u)(x:HOk P w H h):BE P w H h a u:=by
 rcases r with r|⟨o,r⟩
 .exact x a u r
 .obtain⟨_,q⟩:=x a _ r;exact q
def Mut:Option HO->Prop
|some (.lst _)=>True
|some (.dK _)=>True
|some (.dT _)=>True
|some (.set _ _)=>True
|some (.ins _ _ _)=>True
|some (.ext _)=>True
|_=>False
section
variable{P:N_}{w:Q_}{H:Hp}{h h':T_}{x e:R_}{o':HO}
theorem HOk.write(ok:HOk P w H h)(j:Mut (H x))(m:e=x\/H e=some (.own x))(k:∀b u,b≠e->h.get? b=some u->h'.get? b=some u)(l:∃u,h'.get? e=some u)
  (new:BE P w (upd H x o') h' x o'):HOk P w (upd H x o') h':=λb u q=>by
 have d:∀c y,H c=some (.own y)->c≠x:=λc y r z=>by subst z;rw[r]at j;exact j
 have f:∀c xs,H c=some (.tup xs)->c≠x:=λc xs r z=>by subst z;rw[r]at j;exact j
 by_cases g:b=x
 .subst g;rw[Ag]at q;cases q;exact new
 .rw[As g]at q;by_cases a:b=e
  .have n:H b=some (.own x):=by
    rcases m with z|z
    .exact absurd (a.trans z) g
    .rw[a];exact z
   rw[q]at n;cases n;obtain⟨v,o⟩:=l;exact⟨v,by rw[a];exact o⟩
  .refine(ok b u q).stay (λc v i r=>k c v ?_ r) (λc r=>by rw[As (d c b r)];exact r) λc xs r=>by rw[As (f c xs r)];exact r
   rcases i with rfl|i
   .exact a
   .rintro rfl;rcases m with z|z
    .exact d c b i z
    .rw[i]at z;cases z;exact g Z
end
structure Un(fs ex:H_)(H H':Hp)(h h':T_):Prop where
keep:∀b o,h.get? b=some o->H b=none->b∉fs->b∉ex->h'.get? b=some o
slot:∀b o,h.get? b=some o->H b=none->b∈fs->b∉ex->∃sl,h'.get? b=some {o with slots:=sl}
free:∀b o,h.get? b=some o->H b=none->b∉ex->H' b=none
there:∀b o,h.get? b=some o->b∉ex->∃o',h'.get? b=some o'
tups:∀b xs,H b=some (.tup xs)->H' b=some (.tup xs)
frzs:∀b o u,H b=some (.frz o u)->H' b=some (.frz o u)
tbls:∀b ps,H b=some (.tbl ps)->∃more,H' b=some (.tbl (ps++more))
section
variable{fs fs' ex ex':H_}{H H1 H2:Hp}{h h1 h2 h':T_}{a x e:R_}{o:HO}
theorem Un.any(u:Un fs ex H H1 h h1){b:R_}{c:Obj}(q:h.get? b=some c)(n:H b=none)(f:b∉ex):∃g,h1.get? b=some {c with slots:=g}:=by
 by_cases d:b∈fs
 .exact u.slot b c q n d f
 .exact⟨c.slots,u.keep b c q n d f⟩
theorem Un.kept(k:∀b u,h.get? b=some u->h'.get? b=some u):Un fs ex H H h h' :=
 ⟨λb c q _ _ _=>k b c q,λb c q _ _ _=>⟨c.slots,k b c q⟩,λ_ _ _ n _=>n,λb c q _=>⟨c,k b c q⟩,λ_ _ q=>q,λ_ _ _ q=>q,λ_ d q=>⟨#[],by rw[q];simp⟩⟩
theorem Un.refl:Un fs ex H H h h:=Un.kept λ_ _ q=>q
theorem Un.laid(k:∀b u,h.get? b=some u->h'.get? b=some u)(d:h.objs.size<=a)(c:H a=none):Un fs ex H (upd H a o) h h' where
 keep:=λb u q _ _ _=>k b u q
 slot:=λb u q _ _ _=>⟨u.slots,k b u q⟩
 free:=λb u q n _=>by rw[As (F2 (F3 (D3 q) d))];exact n
 there:=λb u q _=>⟨u,k b u q⟩
 tups:=λb xs q=>by rw[As (Av q c)];exact q
 frzs:=λb u xs q=>by rw[As (Av q c)];exact q
 tbls:=λb f q=>⟨#[],by rw[As (Av q c),q];simp⟩
theorem Un.write(d:Mut (H x))(l:e=x\/H e=some (.own x))(k:∀b u,b≠e->h.get? b=some u->h'.get? b=some u)(f:∃u,h'.get? e=some u):Un fs ex H (upd H x o) h h':=by
 have j:∀b,H b=none->b≠x:=λb n z=>by subst z;rw[n]at d;exact d
 have i:∀b,H b=none->b≠e:=λb n z=>by
  subst z;rcases l with r|r
  .exact j b n r
  .rw[n]at r;cases r
 have g:∀b u,H b=some u->¬Mut (some u)->b≠x:=λb u q nm z=>by subst z;rw[q]at d;exact nm d
 refine⟨λb u q n _ _=>k b u (i b n) q,λb u q n _ _=>⟨u.slots,k b u (i b n) q⟩,λb u q n _=>by rw[As (j b n)];exact n,λb u q _=>?_,
  λb xs q=>by rw[As (g b _ q λz=>z)];exact q,λb u xs q=>by rw[As (g b _ q λz=>z)];exact q,λb m q=>⟨#[],by rw[As (g b _ q λz=>z),q];simp⟩⟩
 by_cases c:b=e
 .subst c;exact f
 .exact⟨u,k b u c q⟩
end
noncomputable def trk(h:T_)(H:Hp):List Addr:=(List.range h.objs.size).filter λa=>(H a).isSome
noncomputable def Sr(h:T_)(H:Hp):Heap:=W.hideAll h (trk h H)
theorem YV(h:T_)(H:Hp):(Sr h H).objs.size=h.objs.size:=W.hideAll_size _ _
theorem hidT_get{h:T_}{H:Hp}{b:R_}{o:Obj}(e:h.get? b=some o)(n:H b=none):(Sr h H).get? b=some o :=
 W.hideAll_get _ e λa=>by
  have q:(H b).isSome=true:=(R5.mp a).2;rw[n]at q;simp at q
theorem of_hidT{h:T_}{H:Hp}{b:R_}{o:Obj}(e:(Sr h H).get? b=some o):h.get? b=some o/\H b=none:=by
 have a:h.get? b=some o:=W.of_hideAll (trk h H) e;refine⟨a,?_⟩;cases q:H b with
 |none=>rfl
 |some x =>
  have c:b∈trk h H:=R5.mpr ⟨F1.mpr (D3 a),by simp[q]⟩;have z:(Sr h H).get? b=none:=W.hideAll_none (trk h H) c;rw[z]at e;cases e
structure Mod(K:O_)(mg:C_)(base:T_):Prop where
kin:K.In base
glob:base.Ns mainGlobals mg
blt:∃mb,base.Ns builtinsNs mb/\∀x:Str,x≠"__name__" -> mb x=bootBuiltins x
nolimit:base.NoLimit
structure Cx where
prog:Program
w:World
K:W.Frag
mg:Str->Option Value
base:Heap
A:Around
N:List Str
s₀:Shared
H₀:Hp
env:Env
outer:List Env
stack:List Env
ex:List Addr
fn:Str->Bool
calm:Bool
pn:List (Addr×Obj)
xe:Value->Shared->Prop
noncomputable def frs(l:List Env):List Addr:=l.filterMap (·.frame)
noncomputable abbrev Cx.fs(X:Cx):List Addr:=frs X.outer
def Vis(sc:Scope)(x:Str):Prop:=sc.names.lookup x=some .local\/sc.names.lookup x=some .cell\/sc.names.lookup x=some .free
def Loc(sc:Scope)(x:Str):Prop:=sc.names.lookup x=some .local\/sc.names.lookup x=some .cell
def Look(env:Env)(h:T_)(m:C_)(x:Str)(u:S_):Prop :=
 (env.kindOf x=some .local/\m x=some u)\/((env.kindOf x=some .cell\/env.kindOf x=some .free)/\∃c,env.cells.lookup x=some c/\h.IsCell c (some u))
structure Cx.Ok(X:Cx):Prop where
mod:Mod X.K X.mg X.base
kind:X.env.scope.kind=.function
glob:X.env.globals=mainGlobals
blt:X.env.builtins=builtinsNs
above:X.s₀.heap.objs.size<=X.env.locals
inj:∀x y c,X.env.cells.lookup x=some c->X.env.cells.lookup y=some c->x=y
has:∀x,(X.env.kindOf x=some .cell\/X.env.kindOf x=some .free)->∃c,X.env.cells.lookup x=some c
cab:∀x c,X.fn x=true->X.env.cells.lookup x=some c->X.s₀.heap.objs.size<=c
hd:X.calm=true->X.A.handled=none
frames:X.A.frames=some X.stack
stk:X.stack=X.outer\/(X.stack=X.env::X.outer/\X.env.frame=some X.env.locals)
exf:∀b∈X.ex,b≠X.env.locals/\∀x c,X.env.cells.lookup x=some c->c≠b
bs:∀b o,X.base.get? b=some o->X.s₀.heap.get? b=some o/\X.H₀ b=none
bsz:X.base.objs.size<=X.s₀.heap.objs.size
noex:∀b o,X.base.get? b=some o->b∉X.ex
exfs:∀b∈X.ex,b∉X.fs
funs:X.s₀.heap.FunFrames X.base X.outer
frf:∀b∈X.fs,X.H₀ b=none
structure Inv(X:Cx)(pins:A_)(σ:List (Option V))(H:Hp)(s:P_):Prop where
ok:X.Ok
os:s.os=X.s₀.os
bare:AllBare s.gens
base:Un X.fs X.ex X.H₀ H X.s₀.heap s.heap
loc:∃m,s.heap.Ns X.env.locals m/\∀(i:Nat)(x:Str)(v:V),X.N[i]?=some x->σ[i]?=some (some v)->Vis X.env.scope x->∃u,Bd v u/\Look X.env s.heap m x u
cell:∀x c,X.env.cells.lookup x=some c->∃v,s.heap.IsCell c v
free:H X.env.locals=none
freeC:∀x c,X.env.cells.lookup x=some c->H c=none
pin:∀p∈X.pn++pins,s.heap.get? p.1=some p.2/\H p.1=none/\p.1≠X.env.locals/\p.1∉X.fs/\∀v,p.2.data≠.cell v
hok:HOk X.prog X.w H s.heap
len:σ.length=X.N.length
section
variable{X:Cx}{pins:A_}{σ:List (Option V)}{H H':Hp}{s:P_}{h':T_}
theorem Cx.Ok.nofr(ok:X.Ok){b:R_}{o:Obj}(e:X.base.get? b=some o):b∉X.fs:=λa=>by
 have:=(ok.funs.mem a).1;rw[e]at this;cases this
theorem Inv.bs(I:Inv X pins σ H s):∀b o,X.base.get? b=some o->s.heap.get? b=some o/\H b=none:=λb o e =>
 ⟨I.base.keep b o (I.ok.bs b o e).1 (I.ok.bs b o e).2 (I.ok.nofr e) (I.ok.noex b o e),I.base.free b o (I.ok.bs b o e).1 (I.ok.bs b o e).2 (I.ok.noex b o e)⟩
theorem Inv.bk(I:Inv X pins σ H s):∀b o,X.base.get? b=some o->s.heap.get? b=some o:=λb o e=>(I.bs b o e).1
theorem Inv.mod(I:Inv X pins σ H s):Mod X.K X.mg X.base:=I.ok.mod
theorem Inv.kIn(I:Inv X pins σ H s):X.K.In s.heap:=I.ok.mod.kin.keeps I.bk
theorem Inv.lt(I:Inv X pins σ H s):X.env.locals<s.heap.objs.size:=let ⟨_,hn,_⟩:=I.loc;hn.lt
theorem Inv.sz(I:Inv X pins σ H s):X.s₀.heap.objs.size<=s.heap.objs.size:=C9 I.ok.above (S8 I.lt)
theorem Inv.nofs(I:Inv X pins σ H s){a:R_}(h:s.heap.objs.size<=a):a∉X.fs:=λb=>by
 obtain⟨_,o,c,_⟩:=I.ok.funs.mem b;exact absurd (F3 (D3 c) (C9 I.sz h)) (O3 _)
theorem Inv.cne(I:Inv X pins σ H s):∀x c,X.env.cells.lookup x=some c->c≠X.env.locals:=λx c e z=>by
 obtain⟨v,o,f,d⟩:=I.cell x c e;obtain⟨m,⟨o',h,g,b,a,_⟩,_⟩:=I.loc;rw[z,b]at f;cases f;rw[a]at d;cases d
theorem Inv.funs (I:Inv X pins σ H s):s.heap.FunFrames X.base X.outer:=by
 have all:∀(l:List Env),(∀b∈frs l,b∈X.fs)->X.s₀.heap.FunFrames X.base l->s.heap.FunFrames X.base l:=by
  intro l;induction l with
  |nil=>intro _ _;trivial
  |cons g r p =>
   intro f j;obtain⟨i,⟨L,o,d,k,m,h⟩,n⟩:=j;have a:L∈X.fs:=f L (by unfold frs;rw[W7,d];exact C2);obtain⟨q,e⟩:=I.base.slot L o m (I.ok.frf L a) a λz=>I.ok.exfs L z a;exact⟨i,⟨L,_,d,k,e,h⟩,p (λb c=>f b (by unfold frs;rw[W7,d];exact C4 _ c)) n⟩
 exact all X.outer (λ_ c=>c) I.ok.funs
theorem Inv.stack(I:Inv X pins σ H s):s.heap.FunFrames X.base X.stack:=by
 rcases I.ok.stk with e|⟨e,a⟩
 .rw[e];exact I.funs
 .rw[e];obtain⟨m,b,_⟩:=I.loc;refine .cons (by rw[I.ok.kind];decide) a b ?_ I.funs;exact O7 (C9 I.ok.bsz I.ok.above)
theorem Inv.stkSub(I:Inv X pins σ H s):∀b∈frs X.stack,b∈X.env.locals::X.fs:=λb a=>by
 rcases I.ok.stk with e|⟨e,c⟩
 .rw[e]at a;exact C4 _ a
 .rw[e]at a;unfold frs at a;rw[W7,c]at a;exact a
theorem Inv.stkFree(I:Inv X pins σ H s):∀b∈frs X.stack,H b=none:=λb a=>by
 rcases C1.mp (I.stkSub b a)with e|a
 .rw[e];exact I.free
 .obtain⟨_,o,c,_⟩:=I.ok.funs.mem a;exact I.base.free b o c (I.ok.frf b a) λz=>I.ok.exfs b z a
theorem Inv.step{g':Array GenState}{t':Nat}{d':Drawn}{ch:H_}(I:Inv X pins σ H s)
  (h:∀b∈ch,(b∈X.ex\/X.s₀.heap.objs.size<=b)/\b≠X.env.locals/\(∀x c,X.env.cells.lookup x=some c->c≠b)/\∀p∈X.pn++pins,p.1≠b)
  (keep:∀b o,b≠X.env.locals->b∉X.fs->b∉ch->s.heap.get? b=some o->H b=none->h'.get? b=some o)
  (t:∀b o,b≠X.env.locals->b∈X.fs->b∉ch->s.heap.get? b=some o->H b=none->∃P,h'.get? b=some {o with slots:=P}) (a:∀b o,b∉ch->s.heap.get? b=some o->H b=none->H' b=none)
  (there:∀b o,b∉ch->s.heap.get? b=some o->∃o',h'.get? b=some o')
  (D:∀b xs,H b=some (.tup xs)->H' b=some (.tup xs)) (B:∀b o u,H b=some (.frz o u)->H' b=some (.frz o u)) (C:∀b M,H b=some (.tbl M)->∃K,H' b=some (.tbl (M++K)))
  (ns:∀m,s.heap.Ns X.env.locals m->h'.Ns X.env.locals m) (O:HOk X.prog X.w H' h') (W:AllBare g') :
  Inv X pins σ H' {s with heap:=h',gens:=g',drawn:=d',toks:=t'}:=by
 have L:∀b o,X.s₀.heap.get? b=some o->b≠X.env.locals:=λb o e=>F2 (F3 (D3 e) I.ok.above);have A:∀b o,X.s₀.heap.get? b=some o->b∉X.ex->b∉ch:=λb o e f E=>by
  rcases(h b E).1 with z|z
  .exact f z
  .exact absurd (F3 (D3 e) z) (O3 _)
 have g:∀x c,X.env.cells.lookup x=some c->∀v,s.heap.IsCell c v->h'.IsCell c v:=λx c e v ⟨o,F,N⟩=>by
  have j:c∉ch:=λz=>(h c z).2.2.1 x c e Z;by_cases R:c∈X.fs
  .obtain⟨P,q⟩:=t c o (I.cne x c e) R j F (I.freeC x c e);exact⟨_,q,N⟩
  .exact⟨o,keep c o (I.cne x c e) R j F (I.freeC x c e),N⟩
 refine⟨I.ok,I.os,W,⟨λb o e n E f=>?_,λb o e n E f=>?_,λb o e n f=>?_,λb o e f=>?_,λb xs e=>D b xs (I.base.tups b xs e),λb o xs e=>B b o xs (I.base.frzs b o xs e),λb M e=>?_⟩,?_,λx c e=>?_,?_,λx c e=>?_,λp S=>?_,O,I.len⟩
 .exact keep b o (L b o e) E (A b o e f) (I.base.keep b o e n E f) (I.base.free b o e n f)
 .obtain⟨P,y⟩:=I.base.slot b o e n E f;obtain⟨Q,G⟩:=t b _ (L b o e) E (A b o e f) y (I.base.free b o e n f);exact⟨Q,G⟩
 .obtain⟨o',y⟩:=I.base.there b o e f;exact a b o' (A b o e f) y (I.base.free b o e n f)
 .obtain⟨o',y⟩:=I.base.there b o e f;exact there b o' (A b o e f) y
 .obtain⟨m1,y⟩:=I.base.tbls b M e;obtain⟨m2,G⟩:=C b _ y;exact⟨m1++m2,by rw[G,Array.append_assoc]⟩
 .obtain⟨m,hn,Y⟩:=I.loc;refine⟨m,ns m hn,λi x v y G V=>?_⟩;obtain⟨u,r,l⟩:=Y i x v y G V;refine⟨u,r,?_⟩;rcases l with l|⟨k,c,e,z⟩
  .exact .inl l
  .exact .inr ⟨k,c,e,g x c e _ z⟩
 .obtain⟨v,z⟩:=I.cell x c e;exact⟨v,g x c e v z⟩
 .obtain⟨m,⟨o,_,_,F,_⟩,_⟩:=I.loc;exact a _ o (λz=>(h _ z).2.1 Z) F I.free
 .obtain⟨v,o,F,N⟩:=I.cell x c e;exact a c o (λz=>(h c z).2.2.1 x c e Z) F (I.freeC x c e)
 .obtain⟨e,n,T,U,d⟩:=I.pin p S;have j:p.1∉ch:=λz=>(h p.1 z).2.2.2 p S Z;exact⟨keep p.1 p.2 T U j e n,a p.1 p.2 j e n,T,U,d⟩
theorem Inv.un{t':Nat}(I:Inv X pins σ H s)(u:Un X.fs [] H H' s.heap h')(g:HOk X.prog X.w H' h'):Inv X pins σ H' {s with heap:=h',toks:=t'}:=by
 obtain⟨m,⟨o,p,l,h,r⟩,_⟩:=id I.loc;obtain⟨t,i⟩:=u.any h I.free A6;exact I.step (g':=s.gens) (d':=s.drawn) (ch:=[]) (λ_ z=>nomatch z) (λb o _ f _ e n=>u.keep b o e n f A6) (λb o _ f _ e n=>u.slot b o e n f A6) (λb o _ e n=>u.free b o e n A6) (λb o _ e=>u.there b o e A6) u.tups u.frzs u.tbls (λq j=>by
  obtain⟨o',d,c,a,k⟩:=j;rw[h]at a;cases a;exact⟨_,d,c,i,k⟩) g I.bare
theorem Inv.call{g':Array GenState}{t':Nat}{d':Drawn}{ch:H_}(I:Inv X pins σ H s)(u:Un (frs X.stack) ch H H' s.heap h')(j:HOk X.prog X.w H' h')(q:AllBare g')
  (d:∀b∈ch,(b∈X.ex\/X.s₀.heap.objs.size<=b)/\b≠X.env.locals/\(∀x c,X.env.cells.lookup x=some c->c≠b)/\∀p∈X.pn++pins,p.1≠b) :
  Inv X pins σ H' {s with heap:=h',gens:=g',drawn:=d',toks:=t'}:=by
 obtain⟨m,⟨o,A,y,k,r⟩,_⟩:=id I.loc;obtain⟨C,i⟩:=u.any k I.free λz=>(d _ z).2.1 Z;exact I.step (ch:=ch) d (λb o i l a e n=>u.keep b o e n (λz=>(C1.mp (I.stkSub b z)).elim i l) a) (λb o _ _ a e n=>u.any e n a) (λb o a e n=>u.free b o e n a) (λb o a e=>u.there b o e a) u.tups u.frzs u.tbls (λB t=>by
  obtain⟨o',h,g,f,v⟩:=t;rw[k]at f;cases f;exact⟨_,h,g,i,v⟩) j q
theorem Inv.turned{t':Nat}{it:R_}(I:Inv X pins σ H s)(k:∀b o,b≠it->s.heap.get? b=some o->h'.get? b=some o)(y:H it=none)(f:it≠X.env.locals)
  (i:it∈X.ex\/X.s₀.heap.objs.size<=it) (j:∀x c,X.env.cells.lookup x=some c->c≠it) (l:∀p∈X.pn++pins,p.1≠it):Inv X pins σ H {s with heap:=h',toks:=t'}:=by
 have d:∀b u,H b=some u->b≠it:=λb u e z=>by rw[z,y]at e;cases e
 refine I.step (g':=s.gens) (d':=s.drawn) (ch:=[it]) (λb t=>?_) (λb o _ _ a e _=>k b o (λz=>a (by simp[z])) e) (λb o _ _ a e _=>⟨o.slots,k b o (λz=>a (by simp[z])) e⟩) (λ_ _ _ _ n=>n)
  (λb o a e=>⟨o,k b o (λz=>a (by simp[z])) e⟩) (λ_ _ e=>e) (λ_ _ _ e=>e) (λb B e=>⟨#[],by rw[e];simp⟩) (λm w=>?_) (λb u e=>?_) I.bare
 .have e:b=it:=by simpa using t
  subst e;exact⟨i,f,j,l⟩
 .obtain⟨o,h,g,A,r⟩:=w;exact⟨o,h,g,k _ o (X5 f) A,r⟩
 .refine(I.hok b u e).stay (λc v a q=>k c v ?_ q) (λ_ q=>q) λ_ _ q=>q;rcases a with z|z
  .rw[z];exact d b u e
  .exact d c _ z
theorem Inv.tok(I:Inv X pins σ H s)(t:Nat):Inv X pins σ H {s with toks:=t}:=I.un (h':=s.heap) (t':=t) Un.refl I.hok
theorem Inv.kept{t':Nat}(I:Inv X pins σ H s)(k:∀b u,s.heap.get? b=some u->h'.get? b=some u):Inv X pins σ H {s with heap:=h',toks:=t'}:=I.un (Un.kept k) (I.hok.kept k)
theorem Inv.laid{a:R_}{o:HO}{t':Nat}(I:Inv X pins σ H s)(k:∀b u,s.heap.get? b=some u->h'.get? b=some u)(c:s.heap.objs.size<=a)(new:BE X.prog X.w (upd H a o) h' a o) :
 Inv X pins σ (upd H a o) {s with heap:=h',toks:=t'}:=I.un (Un.laid k c (I.hok.fresh c)) (I.hok.laid k c new)
theorem Inv.write{x e:R_}{o:HO}{t':Nat}(I:Inv X pins σ H s)(d:Mut (H x))(c:e=x\/H e=some (.own x))(k:∀b u,b≠e->s.heap.get? b=some u->h'.get? b=some u)(a:∃u,h'.get? e=some u)
 (new:BE X.prog X.w (upd H x o) h' x o):Inv X pins σ (upd H x o) {s with heap:=h',toks:=t'}:=I.un (Un.write d c k a) (I.hok.write d c k a new)
theorem Inv.weak{σ':List (Option V)}(I:Inv X pins σ H s)(d:σ'.length=σ.length)(w:∀(i:Nat) v,σ'[i]?=some (some v)->σ[i]?=some (some v)):Inv X pins σ' H s :=
 ⟨I.ok,I.os,I.bare,I.base,let ⟨m,hn,hl'⟩:=I.loc;⟨m,hn,λi x v a b c=>hl' i x v a (w i v b) c⟩,I.cell,I.free,I.freeC,I.pin,I.hok,d.trans I.len⟩
theorem Inv.pins_of{a:A_}(I:Inv X pins σ H s)(h:∀p∈a,s.heap.get? p.1=some p.2/\H p.1=none/\p.1≠X.env.locals/\p.1∉X.fs/\∀v,p.2.data≠.cell v):Inv X a σ H s :=
 ⟨I.ok,I.os,I.bare,I.base,I.loc,I.cell,I.free,I.freeC,λp b=>(D8.mp b).elim (λz=>I.pin p (T4 _ z)) (h p),I.hok,I.len⟩
theorem Tw{N:K_}(e:N.Nodup){i j:Nat}{x:Str}(a:N[i]?=some x)(b:N[j]?=some x):i=j:=by
 obtain⟨f,c⟩:=B7.mp a;obtain⟨g,d⟩:=B7.mp b;exact(List.getElem_inj e).mp (c.trans d.symm)
theorem QU{M:Model}{A:Around}{E:B_}{i:Nat}{x:Str}{v:V}{u:S_}{Q:Unit->Shared->Prop}(I:Inv X pins σ H s)(hN:X.N.Nodup)(T:X.N[i]?=some x)(B:Loc X.env.scope x)(r:Bd v u)
  (h:∀s',Inv X pins (σ.set i (some v)) H s'->(∃a,Heap.SameBut a s.heap s'.heap/\(a=X.env.locals\/X.env.cells.lookup x=some a))->Q () s') (hf:X.fn x=true\/X.env.scope.names.lookup x=some .local:=by first|exact .inl rfl|exact .inr rfl|assumption):wpAny M A (storeName X.env x u) Q E s:=by
 obtain⟨m,hn,hl⟩:=id I.loc;have S:(X.env.scope.kind==.class || (X.env.scope.kind==.module && X.env.locals != X.env.globals))=false:=by rw[I.ok.kind];rfl
 have F:i<σ.length:=by rw[I.len];exact(B7.mp T).1
 have cne:=I.cne;have l:∀{a:R_}{h':T_},(∃o,s.heap.get? a=some o/\H a=none)->Heap.SameBut a s.heap h'->HOk X.prog X.w H h':=λ{a h'} ha f b ob e=>by
  obtain⟨_,_,C⟩:=ha;refine(I.hok b ob e).stay (λc w' t q=>(f.2 c ?_).trans q) (λ_ q=>q) λ_ _ q=>q;rintro rfl;rcases t with rfl|t
  .rw[C]at e;cases e
  .rw[C]at t;cases t
 rcases B with G|G
 .refine wpAny_storeName_local G hn (λh' aa f=>?_) S;obtain⟨oL,_,_,ab,_⟩:=id hn;refine h _ ⟨I.ok,I.os,I.bare,⟨λb o e n K B=>?_,λb o e n K B=>?_,I.base.free,λb o e B=>?_,I.base.tups,I.base.frzs,I.base.tbls⟩,⟨_,aa,λj y v' g D e3=>?_⟩,λy c e=>?_,I.free,I.freeC,λp hp=>?_,l ⟨oL,ab,I.free⟩ f,by simpa using I.len⟩ ⟨_,f,.inl Z⟩
  .exact(f.2 b (F2 (F3 (D3 e) I.ok.above))).trans (I.base.keep b o e n K B)
  .obtain⟨sl,g⟩:=I.base.slot b o e n K B;exact⟨sl,(f.2 b (F2 (F3 (D3 e) I.ok.above))).trans g⟩
  .obtain⟨o',g⟩:=I.base.there b o e B;exact⟨o',(f.2 b (F2 (F3 (D3 e) I.ok.above))).trans g⟩
  .by_cases O:j=i
   .subst O;rw[T]at g;cases g;rw[List.getElem?_set_self F]at D;cases D;exact⟨u,r,.inl ⟨G,by simp⟩⟩
   .rw[List.getElem?_set_ne (X5 O)]at D;obtain⟨u',r',q⟩:=hl j y v' g D e3;refine⟨u',r',?_⟩;rcases q with ⟨k,e⟩|⟨k,c,e,z⟩
    .refine .inl ⟨k,?_⟩;have:y≠x:=λe=>O (Tw hN g (e▸T));simp[this,e]
    .exact .inr ⟨k,c,e,z.sameBut f (cne y c e)⟩
  .obtain⟨w',z⟩:=I.cell y c e;exact⟨w',z.sameBut f (cne y c e)⟩
  .obtain⟨e,n,ne,nf,d⟩:=I.pin p hp;exact⟨(f.2 p.1 ne).trans e,n,ne,nf,d⟩
 .have L:X.fn x=true:=by
   rcases hf with z|z
   .exact z
   .rw[z]at G;cases G
  obtain⟨c,t⟩:=I.ok.has x (.inl G);obtain⟨w',z⟩:=I.cell x c t;refine wpAny_storeName_cell I.ok.kind G t z (λh' P f=>?_);obtain⟨oc,U,W⟩:=id z;refine h {s with heap:=h'} ⟨I.ok,I.os,I.bare,⟨λb o e n K B=>?_,λb o e n K B=>?_,I.base.free,λb o e B=>?_,I.base.tups,I.base.frzs,I.base.tbls⟩,⟨m,hn.sameBut f (X5 (cne x c t)),λj y v' g D e3=>?_⟩,λy Y e=>?_,I.free,I.freeC,λp hp=>?_,l ⟨oc,U,I.freeC x c t⟩ f,by simpa using I.len⟩ ⟨c,f,.inr t⟩
  .exact(f.2 b (F2 (F3 (D3 e) (I.ok.cab x c L t)))).trans (I.base.keep b o e n K B)
  .obtain⟨sl,g⟩:=I.base.slot b o e n K B;exact⟨sl,(f.2 b (F2 (F3 (D3 e) (I.ok.cab x c L t)))).trans g⟩
  .obtain⟨o',g⟩:=I.base.there b o e B;exact⟨o',(f.2 b (F2 (F3 (D3 e) (I.ok.cab x c L t)))).trans g⟩
  .by_cases O:j=i
   .subst O;rw[T]at g;cases g;rw[List.getElem?_set_self F]at D;cases D;exact⟨u,r,.inr ⟨.inl G,c,t,P⟩⟩
   .rw[List.getElem?_set_ne (X5 O)]at D;obtain⟨u',r',q⟩:=hl j y v' g D e3;refine⟨u',r',?_⟩;rcases q with q|⟨k,Y,e,z'⟩
    .exact .inl q
    .refine .inr ⟨k,Y,e,z'.sameBut f ?_⟩;rintro rfl;exact O (Tw hN g (I.ok.inj _ _ _ e t▸T))
  .by_cases R:Y=c
   .subst R;exact⟨_,P⟩
   .obtain⟨w2,z2⟩:=I.cell y Y e;exact⟨w2,z2.sameBut f R⟩
  .obtain⟨e,n,ne,nf,d⟩:=I.pin p hp;refine⟨(f.2 p.1 ?_).trans e,n,ne,nf,d⟩;intro q;rw[q,U]at e;have q':oc=p.2:=X4 e;exact d w' (by rw[<-q'];exact W)
theorem SX{M:Model}{A:Around}{E:B_}{i:Nat}{x:Str}{v:V}{u:S_}{Q:Unit->Shared->Prop}(I:Inv X pins σ H s)(c:X.N.Nodup)(e:X.N[i]?=some x)(f:Loc X.env.scope x)(r:Bd v u)
  (h:∀a,Inv X pins (σ.set i (some v)) H a->Q () a) (d:X.fn x=true\/X.env.scope.names.lookup x=some .local:=by first|exact .inl rfl|exact .inr rfl|assumption):wpAny M A (storeName X.env x u) Q E s :=
 QU I c e f r (λa b _=>h a b) d
theorem Inv.call'{a:P_}{ch:H_}(I:Inv X pins σ H s)(h:a.os=s.os)(u:Un (frs X.stack) ch H H' s.heap a.heap)(f:HOk X.prog X.w H' a.heap)(g:AllBare a.gens)
  (d:∀b∈ch,(b∈X.ex\/X.s₀.heap.objs.size<=b)/\b≠X.env.locals/\(∀x c,X.env.cells.lookup x=some c->c≠b)/\∀p∈X.pn++pins,p.1≠b):Inv X pins σ H' a:=by
 obtain⟨h',g',d',t',o'⟩:=a;have e:o'=s.os:=h;subst e;exact I.call (g':=g') (t':=t') (d':=d') u f g d
end
abbrev XK:=Value->Option Addr->Hp->Prop
abbrev St:=List (Option V)
abbrev VK:=V->Hp->Prop
abbrev TE:=St->Hp->VK->Prop
abbrev TT:=St->Hp->(Bool->Hp->Prop)->Prop
abbrev TA:=St->Hp->(List V->Hp->Prop)->Prop
structure MT where
nx:St->Hp->Prop
rt:VK
bk:St->Hp->Prop:=λ_ _=>False
ct:St->Hp->Prop:=λ_ _=>False
abbrev TS:=MT->St->Hp->Prop
def EP(X:Cx)(pins:A_)(σ:St)(Q:VK)(u:S_)(s':P_):Prop:=∃v H',Inv X pins σ H' s'/\Bd v u/\Q v H'
def TP(X:Cx)(pins:A_)(σ:St)(Q:Bool->Hp->Prop)(b:Bool)(s':P_):Prop:=∃H',Inv X pins σ H' s'/\Q b H'
def AP(X:Cx)(pins:A_)(σ:St)(Q:List V->Hp->Prop)(us:F_)(s':P_):Prop:=∃vs H',Inv X pins σ H' s'/\AR vs us/\Q vs H'
def SP(X:Cx)(pins:A_)(D:MT)(f:Flow)(s':P_):Prop :=
 match f with
 |.next=>∃σ' H',Inv X pins σ' H' s'/\D.nx σ' H'
 |.brk=>∃σ' H',Inv X pins σ' H' s'/\D.bk σ' H'
 |.cont=>∃σ' H',Inv X pins σ' H' s'/\D.ct σ' H'
 |.ret u=>∃v σ' H',Inv X pins σ' H' s'/\Bd v u/\D.rt v H'
def PE(X:Cx)(e:Expr)(t:TE):Prop :=
 ∀(pins:A_)(s:P_)(σ:St)(H:Hp)(Q:VK),Inv X pins σ H s->t σ H Q->wpAny (model X.prog X.w) X.A (eval e X.env) (EP X pins σ Q) X.xe s
def PT(X:Cx)(e:Expr)(t:TT):Prop :=
 ∀(pins:A_)(s:P_)(σ:St)(H:Hp)(Q:Bool->Hp->Prop),Inv X pins σ H s->t σ H Q->wpAny (model X.prog X.w) X.A (isTrue e X.env (eval e X.env)) (TP X pins σ Q) X.xe s
def PW(X:Cx)(e:Expr)(t:TT):Prop :=
 ∀(whole:Sem Value)(pins:A_)(s:P_)(σ:St)(H:Hp)(Q:Bool->Hp->Prop),Inv X pins σ H s->t σ H Q->wpAny (model X.prog X.w) X.A (isTrue e X.env whole) (TP X pins σ Q) X.xe s
theorem PW.pt{X:Cx}{e:Expr}{t:TT}(h:PW X e t):PT X e t:=h _
def PA(X:Cx)(es:List Expr)(t:TA):Prop :=
 ∀(pos:Pos)(pins:A_)(s:P_)(σ:St)(H:Hp)(Q:List V->Hp->Prop),Inv X pins σ H s->t σ H Q->wpAny (model X.prog X.w) X.A (spliced (backTo pos (starEach es X.env))) (AP X pins σ Q) X.xe s
def PS(X:Cx)(st:Stmt)(t:TS):Prop :=
 ∀(pins:A_)(s:P_)(σ:St)(H:Hp)(D:MT),Inv X pins σ H s->t D σ H->wpAny (model X.prog X.w) X.A (exec st X.env) (SP X pins D) X.xe s
def PSs(X:Cx)(st:List Stmt)(t:TS):Prop :=
 ∀(pins:A_)(s:P_)(σ:St)(H:Hp)(D:MT),Inv X pins σ H s->t D σ H->wpAny (model X.prog X.w) X.A (execs st X.env) (SP X pins D) X.xe s
theorem thn{α:Type}{t:Sem α}{Q b:α->Shared->Prop}{M:Model}{A:Around}{E:B_}{s:P_}(h:wpAny M A t Q E s)(c:∀a s,Q a s->b a s):wpAny M A t b E s:=A1b h c λ_ _ x=>x
section
variable{X:Cx}
def Fa(i:Nat):TE:=fun σ H Q=>∃v,σ[i]?=some (some v)/\Q v H
def tC(v:V):TE:=λ_ H Q=>Q v H
theorem pe_var{i:Nat}{x:Str}{pos:Pos}(k:X.N[i]?=some x)(q:Vis X.env.scope x)(g:(x==("__debug__" : Str))=false:=by decide)(f:(x==("__classdict__" : Str))=false:=by decide):PE X (.Name x pos) (Fa i):=by
 intro d s σ H Q I h;obtain⟨v,e,h⟩:=h;obtain⟨m,p,n⟩:=I.loc;obtain⟨u,r,l⟩:=n i x v k e q;have fin:EP X d σ Q u s:=⟨v,H,I,r,h⟩
 rcases l with ⟨b,o⟩|⟨b,c,j,a⟩
 .exact wpAny_Name (wpAny_loadName_local I.ok.kind b p o fin) g
 .rcases b with b|b
  .exact wpAny_Name (wpAny_loadName_cell I.ok.kind b j a fin) g
  .exact wpAny_Name (wpAny_loadName_free I.ok.kind b j a fin f) g
theorem Ae{i j pos}:PE X (.Constant (.int i) j pos) (tC (.int i)):=λ_ _ _ H _ I h=>wpAny_Constant_int ⟨.int i,H,I.tok _,⟨_,Z⟩,h⟩
theorem IB{b j pos}:PE X (.Constant (.bool b) j pos) (tC (.bl b)):=λ_ _ _ H _ I h=>Constant_bool ⟨.bl b,H,I,Z,h⟩
theorem DK{j pos}:PE X (.Constant .none j pos) (tC .non):=λ_ _ _ H _ I h=>Constant_none ⟨.non,H,I,Z,h⟩
theorem IV{x j pos}:PE X (.Constant (.str x) j pos) (tC (.str x)):=λ_ _ _ H _ I h=>Calls.Constant_str ⟨.str x,H,I.tok _,⟨_,Z⟩,h⟩
def Gl(X:Cx)(x:Str):Prop:=X.env.kindOf x=some .globalImplicit
theorem OF{E:B_}{a:A_}{s:P_}{σ:St}{H:Hp}{x:Str}{u:S_}{pos:Pos}{Q:B_}(I:Inv X a σ H s)(c:Gl X x)(d:X.mg x=some u)(h:Q u s)
  (b:(x==("__debug__" : Str))=false:=by decide):wpAny (model X.prog X.w) X.A (eval (.Name x pos) X.env) Q E s :=
 Calls.Name_function_global I.ok.kind c (Calls.loadGlobal_global (by rw[I.ok.glob];exact I.mod.glob.keeps I.bk) d h) b
theorem JQ{E:B_}{a:A_}{s:P_}{σ:St}{H:Hp}{x:Str}{u:S_}{pos:Pos}{Q:B_}(I:Inv X a σ H s)(e:Gl X x)(f:X.mg x=none)(i:bootBuiltins x=some u)(h:Q u s)
  (g:x≠"__name__" := by decide) (d:(x==("__debug__" : Str))=false:=by decide):wpAny (model X.prog X.w) X.A (eval (.Name x pos) X.env) Q E s:=by
 obtain⟨j,b,c⟩:=I.mod.blt;exact Calls.Name_function_global I.ok.kind e (Calls.loadGlobal_builtin (by rw[I.ok.glob];exact I.mod.glob.keeps I.bk) f (by rw[I.ok.blt];exact b.keeps I.bk) ((c x g).trans i) h) d
theorem RN{x:Str}{v:V}{u:S_}{pos:Pos}(b:Gl X x)(c:X.mg x=some u)(r:Bd v u)(a:(x==("__debug__" : Str))=false:=by decide):PE X (.Name x pos) (tC v) :=
 λ_ _ _ H _ I h=>OF I b c ⟨v,H,I,r,h⟩ a
theorem DE{x:Str}{v:V}{u:S_}{pos:Pos}(b:Gl X x)(c:X.mg x=none)(e:bootBuiltins x=some u)(r:Bd v u)(d:x≠"__name__" := by decide)(a:(x==("__debug__" : Str))=false:=by decide):PE X (.Name x pos) (tC v) :=
 λ_ _ _ H _ I h=>JQ I b c e ⟨v,H,I,r,h⟩ d a
variable{a b:Expr}{ta tb:TE}{pos:Pos}
def PC(X:Cx)(op:CmpOp)(a b:Expr)(t:TE):Prop :=
 ∀(pins:A_)(s:P_)(σ:St)(H:Hp)(Q:VK),Inv X pins σ H s->t σ H Q ->
  wpAny (model X.prog X.w) X.A (eval a X.env) (λv s₁=>wpAny (model X.prog X.w) X.A (eval b X.env) (λu s₂=>wpAny (model X.prog X.w) X.A (compareOp op v u) (EP X pins σ Q) X.xe s₂) X.xe s₁) X.xe s
def tB(t:TE):TT:=fun σ H Q=>t σ H λx H1=>∃c,x=.bl c/\Q c H1
theorem pt_cmp{op:CmpOp}{t:TE}(h:PC X op a b t)(f:behindInMarks op b=false:=by first|exact nobehind _ A4 A4|rfl):PT X (.Compare a [op] [b] pos) (tB t):=by
 intro e s σ H Q I k;refine wpAny_isTrue_Compare1 (thn (h e s σ H _ I k) λv n f=>thn f λu o j=>thn j λc p ⟨x,g,i,m,l⟩=>?_) f;obtain⟨d,rfl,q⟩:=l;cases m;exact K9 ⟨g,i,q⟩
theorem BI{e:Expr}{t:TE}(h:PE X e t)(j:∀c,isTrue e X.env c=(do let v <-c;standAt e.pos;holding [v] (truthy v)):=by intro _;rfl):PT X e (tB t):=by
 intro f s σ H Q I k;refine isTrue_plain (thn (h f s σ H _ I k) λv n ⟨x,g,i,m,l⟩=>?_) (j _);obtain⟨d,rfl,q⟩:=l;cases m;exact K9 ⟨g,i,q⟩
variable{tA tB':TT}{rest:List Expr}
def tAnd(t u:TT):TT:=fun σ H Q=>t σ H λc H1=>if c=true then u σ H1 Q else Q false H1
def tOr(t u:TT):TT:=fun σ H Q=>t σ H λc H1=>if c=true then Q true H1 else u σ H1 Q
def tNot(t:TT):TT:=fun σ H Q=>t σ H λc H1=>Q (!c) H1
theorem IU(f:PT X a tA):PW X (.BoolOp .And [a] pos) tA:=by
 intro i d s σ H Q I h;refine isTrue_and (thn (f d s σ H Q I h) λc g e=>?_);cases c with
 |true=>exact isTrue_and_nil e
 |false=>exact e
theorem El(f:PT X a tA):PW X (.BoolOp .Or [a] pos) tA:=by
 intro i d s σ H Q I h;refine isTrue_or (thn (f d s σ H Q I h) λc g e=>?_);cases c with
 |false=>exact isTrue_or_nil e
 |true=>exact e
theorem LP(i:PT X a tA)(j:PW X (.BoolOp .And (b::rest) pos) tB'):PW X (.BoolOp .And (a::b::rest) pos) (tAnd tA tB'):=by
 intro l d s σ H Q I h;refine isTrue_and (thn (i d s σ H _ I h) λc k ⟨e,f,g⟩=>?_);cases c with
 |true=>exact j l d k σ e Q f g
 |false=>exact⟨e,f,g⟩
theorem Gd(i:PT X a tA)(j:PW X (.BoolOp .Or (b::rest) pos) tB'):PW X (.BoolOp .Or (a::b::rest) pos) (tOr tA tB'):=by
 intro l d s σ H Q I h;refine isTrue_or (thn (i d s σ H _ I h) λc k ⟨e,f,g⟩=>?_);cases c with
 |true=>exact⟨e,f,g⟩
 |false=>exact j l d k σ e Q f g
theorem BU(f:PT X a tA):PT X (.UnaryOp .Not a pos) (tNot tA):=by
 intro d s σ H Q I h;exact isTrue_not (f d s σ H (λc e=>Q (!c) e) I h)
def tAndV(ta tb:TE):TE:=fun σ H Q=>ta σ H λx H1=>∃c,x=.bl c/\if c=true then tb σ H1 Q else Q (.bl false) H1
def tOrV(ta tb:TE):TE:=fun σ H Q=>ta σ H λx H1=>∃c,x=.bl c/\if c=true then Q (.bl true) H1 else tb σ H1 Q
def tNotV(ta:TE):TE:=fun σ H Q=>ta σ H λx H1=>∃c,x=.bl c/\Q (.bl (!c)) H1
theorem LR{op}{t:TE}(h:PE X a t):PE X (.BoolOp op [a] pos) t:=λc s σ H Q I d=>BoolOp_one (h c s σ H Q I d)
theorem JD(i:PE X a ta)(j:PE X (.BoolOp .And (b::rest) pos) tb):PE X (.BoolOp .And (a::b::rest) pos) (tAndV ta tb):=by
 intro d s σ H Q I h;refine BoolOp_and (thn (i d s σ H _ I h) λv l ⟨x,f,g,k,e⟩=>?_);obtain⟨c,rfl,e⟩:=e;cases k;refine K9 ?_;cases c with
 |true=>exact j d l σ f Q g e
 |false=>exact⟨.bl false,f,g,Z,e⟩
theorem pe_or(i:PE X a ta)(j:PE X (.BoolOp .Or (b::rest) pos) tb):PE X (.BoolOp .Or (a::b::rest) pos) (tOrV ta tb):=by
 intro d s σ H Q I h;refine BoolOp_or (thn (i d s σ H _ I h) λv l ⟨x,f,g,k,e⟩=>?_);obtain⟨c,rfl,e⟩:=e;cases k;refine K9 ?_;cases c with
 |false=>exact j d l σ f Q g e
 |true=>exact⟨.bl true,f,g,Z,e⟩
theorem pe_not(i:PE X a ta):PE X (.UnaryOp .Not a pos) (tNotV ta):=by
 intro d s σ H Q I h;refine UnaryOp_ (thn (i d s σ H _ I h) λv k ⟨x,f,g,j,e⟩=>?_);obtain⟨c,rfl,e⟩:=e;cases j;exact not_of (K9 ⟨.bl (!c),f,g,Z,e⟩)
end
def SqL(K:O_)(H:Hp)(a:R_)(xs:List V):Prop :=
 Rd H a (.lst xs) \/
  ∃(o:Obj)(its:M_)(n:Nat),K.lookup a=some o/\o.cls=.type "list" /\ o.dict=none/\o.data=.seq its n/\its.size<=sizeLine/\AR xs its.toList
def SqT(K:O_)(H:Hp)(a:R_)(xs:List V):Prop :=
 Rd H a (.tup xs) \/
  ∃(o:Obj)(its:M_)(n:Nat),K.lookup a=some o/\o.cls=.type "tuple" /\ o.data=.seq its n/\its.size<=sizeLine/\AR xs its.toList
noncomputable def absV:Value->Option V
|.none=>some .non
|.bool b=>some (.bl b)
|.int i _=>some (.int i)
|.str x _=>some (.str x)
|.bytes b _=>some (.byt b)
|.float b _=>some (.flt b)
|.ref a=>some (.ref a)
|.type n=>some (.ty n)
|_=>none
theorem Bd.abs{x:V}{u:S_}(r:Bd x u):absV u=some x:=by
 cases x with
 |non=>cases r;rfl
 |bl _=>cases r;rfl
 |int _=>obtain⟨t,rfl⟩:=r;rfl
 |str _=>obtain⟨t,rfl⟩:=r;rfl
 |byt _=>obtain⟨t,rfl⟩:=r;rfl
 |flt _=>obtain⟨t,rfl⟩:=r;rfl
 |ref _=>cases r;rfl
 |ty _=>cases r;rfl
theorem Bd.inj{x y:V}{u:S_}(r:Bd x u)(q:Bd y u):x=y:=X4 (r.abs.symm.trans q.abs)
theorem AR.inj:∀{xs ys:List V}{us:F_},AR xs us->AR ys us->xs=ys
|_,_,_,.nil,.nil=>rfl
|_,_,_,.cons r t,.cons r' t'=>by rw[r.inj r',AR.inj t t']
section
variable{X:Cx}{pins:A_}{σ:St}{H:Hp}{s:P_}{a:R_}{xs ys:List V}
theorem SqL.of{K:O_}(h:H a=some (.lst xs)):SqL K H a xs:=.inl (.inl h)
theorem SqT.of{K:O_}(h:H a=some (.tup xs)):SqT K H a xs:=.inl (.inl h)
theorem Inv.list(I:Inv X pins σ H s)(h:SqL X.K H a xs):∃b:List Value,AR xs b/\PlainL s.heap a b.toArray/\xs.length<=sizeLine:=by
 rcases h with h|⟨o,b,n,f,c,d,g,i,r⟩
 .obtain⟨z,b,n,r,e⟩:=h.ok I.hok;exact⟨b,r,⟨_,n,e,Z,Z,Z⟩,z⟩
 .refine⟨b.toList,r,⟨o,n,I.kIn a o f,c,d,by simpa using g⟩,?_⟩;have e:=r.length;simp only[P2]at e;lia
theorem Inv.tuple(I:Inv X pins σ H s)(h:SqT X.K H a xs):∃b:List Value,AR xs b/\IsTup s.heap a b.toArray/\xs.length<=sizeLine:=by
 rcases h with h|⟨o,b,n,d,c,f,g,r⟩
 .obtain⟨z,b,r,p⟩:=h.ok I.hok;exact⟨b,r,p,z⟩
 .refine⟨b.toList,r,⟨o,I.kIn a o d,c,n,by simpa using f⟩,?_⟩;have e:=r.length;simp only[P2]at e;lia
theorem Inv.list_inj(I:Inv X pins σ H s)(h:SqL X.K H a xs)(h':SqL X.K H a ys):xs=ys:=by
 obtain⟨b,r,⟨o,n,e,_,_,d⟩,_⟩:=I.list h;obtain⟨its',f,⟨o',g,c,_,_,d'⟩,_⟩:=I.list h';rw[e]at c;cases c;rw[d]at d';injection d' with d1 _
 have:b=its':=by simpa using K0 Array.toList d1
 subst this;exact r.inj f
theorem Inv.tuple_inj(I:Inv X pins σ H s)(h:SqT X.K H a xs)(h':SqT X.K H a ys):xs=ys:=by
 obtain⟨b,r,⟨o,e,_,n,d⟩,_⟩:=I.tuple h;obtain⟨its',f,⟨o',c,_,g,d'⟩,_⟩:=I.tuple h';rw[e]at c;cases c;rw[d]at d';injection d' with d1 _
 have:b=its':=by simpa using K0 Array.toList d1
 subst this;exact r.inj f
end
noncomputable abbrev Cx.wish(X:Cx)(E:B_):Cx:={X with xe:=E}
noncomputable abbrev Cx.nox(X:Cx):Cx:=X.wish λ_ _=>False
theorem Cx.Ok.wish{X:Cx}(ok:X.Ok)(E:B_):(X.wish E).Ok :=
 ⟨ok.mod,ok.kind,ok.glob,ok.blt,ok.above,ok.inj,ok.has,ok.cab,ok.hd,ok.frames,ok.stk,ok.exf,ok.bs,ok.bsz,ok.noex,ok.exfs,ok.funs,ok.frf⟩
theorem Cx.Ok.unwish{X:Cx}{E:B_}(ok:(X.wish E).Ok):X.Ok :=
 ⟨ok.mod,ok.kind,ok.glob,ok.blt,ok.above,ok.inj,ok.has,ok.cab,ok.hd,ok.frames,ok.stk,ok.exf,ok.bs,ok.bsz,ok.noex,ok.exfs,ok.funs,ok.frf⟩
section
variable{X:Cx}{pins:A_}{σ:St}{H:Hp}{s:P_}{E:B_}
theorem Inv.wish(I:Inv X pins σ H s)(E:B_):Inv (X.wish E) pins σ H s:=⟨I.ok.wish E,I.os,I.bare,I.base,I.loc,I.cell,I.free,I.freeC,I.pin,I.hok,I.len⟩
theorem Inv.unwish(I:Inv (X.wish E) pins σ H s):Inv X pins σ H s:=⟨I.ok.unwish,I.os,I.bare,I.base,I.loc,I.cell,I.free,I.freeC,I.pin,I.hok,I.len⟩
theorem SP.unwish{D:MT}{f:Flow}{b:P_}(h:SP (X.wish E) pins D f b):SP X pins D f b:=by
 cases f with
 |next=>obtain⟨σ',a,I,q⟩:=h;exact⟨σ',a,I.unwish,q⟩
 |brk=>obtain⟨σ',a,I,q⟩:=h;exact⟨σ',a,I.unwish,q⟩
 |cont=>obtain⟨σ',a,I,q⟩:=h;exact⟨σ',a,I.unwish,q⟩
 |ret u=>obtain⟨v,σ',a,I,r,q⟩:=h;exact⟨v,σ',a,I.unwish,r,q⟩
theorem PSs.nox{a:List Stmt}{t:TS}(h:PSs X.nox a t):PSs X a t:=λpins s σ H D I b =>
 A1b (h pins s σ H D (I.wish _) b) (λ_ _ q=>q.unwish) λ_ _ z=>False.elim z
end
section
variable{X:Cx}{st:Stmt}{rest:List Stmt}{t u:TS}{e:Expr}{te:TE}{pos:Pos}
def tNext:TS:=λD σ H=>D.nx σ H
def Zs(t u:TS):TS:=λD σ H=>t {D with nx:=u D} σ H
theorem Ax:PSs X [] tNext:=λ_ _ σ H _ I h=>A5g ⟨σ,H,I,h⟩
theorem Ab(d:PS X st t)(g:PSs X rest u):PSs X (st::rest) (Zs t u):=by
 intro a s σ H D I h;refine wpAny_execs_cons (thn (d a s σ H {D with nx:=u D} I h) λf i q=>?_);cases f with
 |next =>
  obtain⟨σ',b,c,q⟩:=q;exact g a i σ' b D c q
 |ret v=>exact q
 |brk=>exact q
 |cont=>exact q
theorem Af(b:PS X st t):PSs X [st] t:=by
 intro a s σ H D I h;refine wpAny_execs_cons (thn (b a s σ H D I h) λf c q=>?_);cases f with
 |next=>exact A5g q
 |ret v=>exact q
 |brk=>exact q
 |cont=>exact q
theorem Inv.quiet{a:A_}{σ:St}{H:Hp}{s:P_}(I:Inv X a σ H s):interactive X.env=false:=by simp[interactive,I.ok.kind]
def tDrop(te:TE):TS:=λD σ H=>te σ H λ_ H1=>D.nx σ H1
theorem BC(d:PE X e te)(f:swapsWith e none pos.line X.env=pure false:=by rfl):PS X (.Expr e pos) (tDrop te):=by
 intro a s σ H D I h;exact wpAny_Expr_any (thn (d a s σ H _ I h) λv j ⟨x,b,c,i,g⟩=>⟨σ,b,c,g⟩) I.quiet f
def tRet(te:TE):TS:=λD σ H=>te σ H D.rt
theorem Au(d:PE X e te):PS X (.Return (some e) pos) (tRet te):=by
 intro a s σ H D I h;exact wpAny_Return_some (thn (d a s σ H _ I h) λv i ⟨x,b,c,g,f⟩=>⟨x,σ,b,c,g,f⟩)
def tRetN:TS:=λD _ H=>D.rt .non H
theorem Wj:PS X (.Return none pos) tRetN:=λ_ _ σ H _ I h=>wpAny_Return_none ⟨.non,σ,H,I,Z,h⟩
def tIfS(c:TT)(t u:TS):TS:=λD σ H=>c σ H λb H1=>if b=true then t D σ H1 else u D σ H1
theorem AQ{c:Expr}{a b:List Stmt}{tc:TT}(n:PT X c tc)(l:PSs X a t)(m:PSs X b u):PS X (.If c a b pos) (tIfS tc t u):=by
 intro f s σ H D I h;refine wpAny_If (thn (n f s σ H _ I h) λd k ⟨g,i,j⟩=>?_);cases d with
 |true=>exact l f k σ g D i j
 |false=>exact m f k σ g D i j
def tNever:TS:=λ_ _ _=>False
theorem AY:PS X st tNever:=λ_ _ _ _ _ _ h=>h.elim
end
abbrev TG:=V->St->Hp->(St->Hp->Prop)->Prop
abbrev TGs:=List V->St->Hp->(St->Hp->Prop)->Prop
def PG(X:Cx)(target:Expr)(t:TG):Prop :=
 ∀(pins:A_)(s:P_)(σ:St)(H:Hp)(v:V)(u:S_)(Q:St->Hp->Prop),Inv X pins σ H s->Bd v u->t v σ H Q ->
  wpAny (model X.prog X.w) X.A (assign target X.env u) (λ_ s'=>∃σ' H',Inv X pins σ' H' s'/\Q σ' H') X.xe s
def PGs(X:Cx)(ts:List Expr)(t:TGs):Prop :=
 ∀(pins:A_)(s:P_)(σ:St)(H:Hp)(vs:List V)(us:F_)(Q:St->Hp->Prop),Inv X pins σ H s->AR vs us->t vs σ H Q ->
  wpAny (model X.prog X.w) X.A (assignInOrder ((assignEach ts X.env).map (·.2)) us) (λ_ s'=>∃σ' H',Inv X pins σ' H' s'/\Q σ' H') X.xe s
abbrev TSet:=V->V->V->Hp->(Hp->Prop)->Prop
def PSet(X:Cx)(t:TSet):Prop :=
 ∀(pins:A_)(s:P_)(σ:St)(H:Hp)(o i v:V)(ov iv u:S_)(Q:Hp->Prop),Inv X pins σ H s->Bd o ov->Bd i iv->Bd v u->t o i v H Q ->
  wpAny (model X.prog X.w) X.A (setItem ov iv u) (λ_ s'=>∃H',Inv X pins σ H' s'/\Q H') X.xe s
section
variable{X:Cx}{pos:Pos}
def Qb(i:Nat):TG:=λv σ H Q=>Q (σ.set i (some v)) H
theorem Bv{i:Nat}{x:Str}(c:X.N.Nodup)(e:X.N[i]?=some x)(f:Loc X.env.scope x)(d:X.fn x=true\/X.env.scope.names.lookup x=some .local:=by first|exact .inl rfl|exact .inr rfl|assumption):PG X (.Name x pos) (Qb i):=by
 intro a s σ H v u Q I r h;exact wpAny_assign_Name (SX I c e f r (λg b=>⟨_,H,b,h⟩) d)
def gNil:TGs:=λvs σ H Q=>vs=[]/\Q σ H
def Ua(t:TG)(u:TGs):TGs:=λvs σ H Q=>∃v r,vs=v::r/\t v σ H fun σ' H'=>u r σ' H' Q
theorem Ld:PGs X [] gNil:=by
 intro a s σ H vs us Q I r h;obtain⟨e,h⟩:=h;subst e;cases r;exact assignInOrder_nil ⟨σ,H,I,h⟩
theorem CA{e:Expr}{b:List Expr}{t:TG}{u:TGs}(i:PG X e t)(j:PGs X b u)
  (k:(assignEach (e::b) X.env).map (·.2)=assign e X.env::(assignEach b X.env).map (·.2):=by rfl):PGs X (e::b) (Ua t u):=by
 intro a s σ H vs us Q I r h;obtain⟨v,o,g,h⟩:=h;subst g;cases r with
 |cons r m =>
  rw[k];refine assignInOrder_cons (thn (i a s σ H _ _ _ I r h) λ_ n ⟨c,d,f,l⟩=>?_);exact j a n c d _ _ Q f m l
def gTup(K:O_)(n:Nat)(t:TGs):TG:=λv σ H Q=>∃a xs,v=.ref a/\SqT K H a xs/\xs.length=n/\t xs σ H Q
theorem Nm{d:List Expr}{k:Nat}{t:TGs}{n:Nat}(m:X.calm=true)(h:PGs X d t)
  (q:(assignEach d X.env).length=n:=by rfl) (f:(assignEach d X.env).findIdx? (·.1)=none:=by rfl):PG X (.Tuple d k pos) (gTup X.K n t):=by
 intro c s σ H v u Q I r g;obtain⟨a,xs,l,w,p,g⟩:=g;subst l;cases r;obtain⟨z,i,x,A⟩:=I.tuple w;refine assign_Tuple_tuple (I.ok.hd m) x (by simp[q,<-p,i.length]) f λh' y=>?_;have j:Inv X c σ H {s with heap:=h'}:=I.kept (t':=s.toks) λb o e=>y b o (F2 (D3 e)) e;exact h c _ σ H xs _ Q j (by simpa using i) g
def gSub(to ti:TE)(t:TSet):TG:=λv σ H Q=>to σ H λo H1=>ti σ H1 λi H2=>t o i v H2 λH3=>Q σ H3
theorem pg_sub{o i:Expr}{to d:TE}{t:TSet}(p:PE X o to)(n:PE X i d)(q:PSet X t)
  (m:∀v,assign (.Subscript o i pos) X.env v=(do
   let b <-holding [v] (eval o X.env);let c <-holding [v,b] (eval i X.env)
   standAt pos
   holding [v,b,c] (setItem b c v)
   release [v,b,c] []):=by intro _;rfl):PG X (.Subscript o i pos) (gSub to d t):=by
 intro a s σ H v u Q I r h;rw[m];refine Z3 (A1g (thn (p a s σ H _ I h) λb D ⟨x,e,j,B,w⟩=>?_));refine Z3 (A1g (thn (n a D σ e _ j w) λc E ⟨y,f,k,C,z⟩=>?_));refine Z3 (A6h (Z3 (A1g (thn (q a E σ f x y v b c u _ k B C r z) λ_ F ⟨g,l,A⟩=>?_))));exact wpAny_release ⟨σ,g,l,A⟩
def tAsg(te:TE)(g:TG):TS:=λD σ H=>te σ H λx H1=>g x σ H1 D.nx
theorem ps_asg{b e:Expr}{c:TE}{g:TG}(j:PE X e c)(k:PG X b g)(l:swapsWithSole [b] e pos.line X.env=pure false:=by rfl)(m:swappedStores [b] e X.env=pure none:=by rfl)
  (i:(assignEach [b] X.env).map (·.2)=[assign b X.env]:=by rfl):PS X (.Assign [b] e pos) (tAsg c g):=by
 intro a s σ H D I h;refine wpAny_Assign_stores (thn (j a s σ H _ I h) λv p ⟨x,d,f,o,n⟩=>?_) l m;rw[i];exact thn (k a p σ d x v _ f o n) λ_ r q=>q
theorem Ao{i:Nat}{x:Str}{e:Expr}{c:TE}{a:Pos}(j:X.N.Nodup)(m:X.N[i]?=some x)(o:Loc X.env.scope x)(k:PE X e c)(n:swapsWith e (some (.Name x a)) pos.line X.env=pure false:=by rfl)(l:X.fn x=true\/X.env.scope.names.lookup x=some .local:=by first|exact .inl rfl|exact .inr rfl|assumption) :
  PS X (.Assign [.Name x a] e pos) (tAsg c (Qb i)):=by
 intro b s σ H D I h;refine wpAny_Assign_Name (thn (k b s σ H _ I h) λv r ⟨y,d,f,q,p⟩=>?_) n;exact SX f j m o q (λt g=>⟨_,d,g,p⟩) l
def tWhile(c:TT)(tb:TS):TS:=λD σ H=>∃W:Nat->St->Hp->Prop,(∃m,W m σ H)/\∀m σ H,W m σ H ->
 c σ H λb H1=>if b=true then ∃N:St->Hp->Prop,(∀σ' H',N σ' H'->∃m',m'<m/\W m' σ' H')/\tb {D with nx:=N,ct:=N,bk:=D.nx} σ H1 else D.nx σ H1
theorem IA{c:Expr}{g:List Stmt}{tc:TT}{B:TS}(z:PassesOwn (model X.prog X.w) X.A X.env X.xe)(F:PT X c tc)(E:PSs X g B):PS X (.While c g [] pos) (tWhile tc B):=by
 intro a s σ H D I h;obtain⟨W,⟨G,O⟩,turn⟩:=h;refine wpAny_While (codeAny_whileLoop (λn K=>∃σ' r,Inv X a σ' r K/\W n σ' r) ?_ G ⟨σ,H,I,O⟩);rintro n L ⟨e,t,C,P⟩;refine A2f z (thn (F a L e t _ C (turn n e t P)) λb M ⟨u,x,j⟩=>?_);cases b with
 |true =>
  obtain⟨N,y,j⟩:=j;rw[Z7 rfl];refine A2f z (thn (E a M e u _ x j) λf Q k=>?_);cases f with
  |next =>
   obtain⟨d,i,l,p⟩:=k;obtain⟨o,m,q⟩:=y d i p;exact⟨o,m,d,i,l,q⟩
  |cont =>
   obtain⟨d,i,l,p⟩:=k;obtain⟨o,m,q⟩:=y d i p;exact⟨o,m,d,i,l,q⟩
  |brk=>exact k
  |ret v=>exact k
 |false =>
  rw[Z4 D2];exact A5g ⟨e,u,x,j⟩
end
structure It where
go:Nat->Hp->Prop
yld:Nat->Hp->V->Hp->Prop
stop:Nat->Hp->Prop
def DC(X:Cx)(pins:A_)(H:Hp)(b:R_):Prop :=
 H b=none/\b≠X.env.locals/\b∉X.fs/\(b∈X.ex\/X.s₀.heap.objs.size<=b)/\(∀x c,X.env.cells.lookup x=some c->c≠b)/\∀p∈X.pn++pins,p.1≠b
theorem Inv.fpOk{X:Cx}{a:A_}{σ:St}{H f:Hp}{s:P_}{b:R_}(I:Inv X a σ H s)(d:s.heap.objs.size<=b)(g:f b=none):DC X a f b:=by
 refine⟨g,T6 (F3 I.lt d),I.nofs d,.inr (C9 I.sz d),λx c e z=>?_,λp h z=>?_⟩
 .obtain⟨v,q⟩:=I.cell x c e;exact absurd (F3 q.lt (by rw[z];exact d)) (O3 _)
 .exact absurd (F3 (D3 (I.pin p h).1) (by rw[z];exact d)) (O3 _)
structure QN(P:N_)(w:Q_)(K:O_)(tg:Expr)(J:It)(fp:H_)(it:R_)(tn:Nat->Heap->Prop):Prop where
mem:it∈fp
obj:∀i h,tn i h->∀b∈fp,∃o,h.get? b=some o/\∀v,o.data≠.cell v
keep:∀i h h',tn i h->(∀b∈fp,∀o,h.get? b=some o->h'.get? b=some o)->tn i h'
item:∀(X:Cx),X.prog=P->X.w=w->X.K=K->X.calm=true->∀(i:Nat)(pins:A_)(s:P_)(σ:St)(H:Hp)(E:B_),Inv X pins σ H s->(∀b∈fp,DC X pins H b)->tn i s.heap->J.go i H ->
 wpAny (model P w) X.A (pyNext (.ref it)) (λr s1=>∃u,r=some u /\
  wpAny (model P w) X.A (letOwnedTupleGo tg (.ref it) u) (λ_ s2=>∃x H',Inv X pins σ H' s2/\Bd x u/\J.yld i H x H'/\tn (i+1) s2.heap/\∀b∈fp,H' b=none) E s1) E s
done:∀(X:Cx),X.prog=P->X.w=w->X.K=K->X.calm=true->∀(i:Nat)(pins:A_)(s:P_)(σ:St)(H:Hp)(E:B_),Inv X pins σ H s->(∀b∈fp,DC X pins H b)->tn i s.heap->J.stop i H ->
 wpAny (model P w) X.A (pyNext (.ref it)) (λr s1=>r=none/\Inv X pins σ H s1) E s
self:∀(A:Around)(i:Nat)(s:P_)(Q:B_)(E:B_),tn i s.heap->Q (.ref it) s->wpAny (model P w) A (pyIter (.ref it)) Q E s
abbrev TI:=St->Hp->(It->Hp->Prop)->Prop
def PIE(X:Cx)(pins:A_)(σ:St)(tg:Expr)(R:It->Hp->Prop)(itv:S_)(s2:P_):Prop :=
 ∃(it:R_)(fp:H_)(tn:Nat->Heap->Prop)(J:It)(H':Hp),itv=.ref it/\Inv X pins σ H' s2/\QN X.prog X.w X.K tg J fp it tn/\tn 0 s2.heap/\(∀b∈fp,DC X pins H' b)/\R J H'
def PI(X:Cx)(tg iter:Expr)(wi:TI):Prop :=
 ∀(pins:A_)(s:P_)(σ:St)(H:Hp)(R:It->Hp->Prop),Inv X pins σ H s->wi σ H R ->
  wpAny (model X.prog X.w) X.A (eval iter X.env) (λv s1=>wpAny (model X.prog X.w) X.A (pyIter v) (PIE X pins σ tg R) X.xe s1) X.xe s
theorem TY{M:Model}{A:Around}{E:B_}{s:P_}{b:Expr}{it:R_}{u:S_}{o:Obj}{n:String}{vs:M_}{Q:Unit->Shared->Prop}(f:s.heap.get? it=some o)(c:o.cls=.type n)(d:o.data=.fields vs)
   (e:["enumerate","zip","dict_itemiterator","dict_reverseitemiterator","odict_iterator","itertools.zip_longest","itertools.pairwise"].contains n=false) (a:Q () s):wpAny M A (letOwnedTupleGo b (.ref it) u) Q E s:=by
 unfold letOwnedTupleGo;cases b<;>first
   |exact Z6 a
   | (cases u<;>first
       |exact Z6 a
       | (refine Z3 (wpAny_load f ?_)
          rw[c,d];show wpAny M A (if(["enumerate","zip","dict_itemiterator","dict_reverseitemiterator","odict_iterator","itertools.zip_longest","itertools.pairwise"].contains n && vs[0]?==some (rawInt _))=true then _ else _) Q E s;rw[Z4 (by intro h;rw[e,Bool.false_and]at h;cases h)];exact Z6 a))
noncomputable def Itl(K:O_)(a:R_):It :=
 ⟨λi H=>∃xs x,SqL K H a xs/\xs[i]?=some x,λi H x H'=>H'=H/\∀xs,SqL K H a xs->xs[i]?=some x,λi H=>∃xs,SqL K H a xs/\xs.length<=i⟩
noncomputable def Itt(K:O_)(a:R_):It :=
 ⟨λi H=>∃xs x,SqT K H a xs/\xs[i]?=some x,λi H x H'=>H'=H/\∀xs,SqT K H a xs->xs[i]?=some x,λi H=>∃xs,SqT K H a xs/\xs.length<=i⟩
noncomputable def Itr(lo:Int)(n:Nat):It:=⟨λi _=>i<n,λi H x H'=>H'=H/\x=.int (lo+i),λi _=>n<=i⟩
theorem Yf{P:N_}{w:Q_}{K:O_}{Y:Expr}(a it:R_):QN P w K Y (Itl K a) [it] it (λi h=>h.IsListIter it a i) where
 mem:=by simp
 obj:=λi h f b j=>by
  have e:b=it:=by simpa using j
  subst e;obtain⟨o,e,c,d⟩:=f;exact⟨o,e,λv z=>by rw[d]at z;cases z⟩
 keep:=λi h h' f k=>f.at λo e=>k it A6 o e
 item:=by
  intro X B D A M i g s σ H E I m f C;subst B D A;obtain⟨xs,x,n,F⟩:=C;obtain⟨G,L,p,T⟩:=I.list n;obtain⟨u,R,U⟩:=L.get F;obtain⟨q,r,Q,t,f4,y⟩:=m it A6;refine wpAny_pyNext_list_item f p.isList (x:=u) (by simpa using R) λh' l V=>?_;have N:Inv X g σ H {s with heap:=h'}:=I.turned (t':=s.toks) (λb o j e=>(V.2 b j).trans e) q r t f4 y;obtain⟨o,e,c,d⟩:=id l;exact⟨u,Z,TY (s:={s with heap:=h'}) e c d A4 ⟨x,H,N,U,⟨Z,λys S=>by rw[I.list_inj S n];exact F⟩,l,λb j=>(m b j).1⟩⟩
 done:=by
  intro X B D A M i g s σ H E I m f C;subst B D A;obtain⟨xs,n,F⟩:=C;obtain⟨G,L,p,T⟩:=I.list n;obtain⟨q,r,Q,t,f4,y⟩:=m it A6;have hl:=L.length;exact wpAny_pyNext_list_end (I.ok.hd M) f p.isList (by simp;lia) λh' O=>⟨Z,I.turned (t':=s.toks) (λb o j e=>O b o j e) q r t f4 y⟩
 self:=λ_ _ _ _ _ f h=>wpAny_pyIter_listiter f h
theorem Uz{P:N_}{w:Q_}{K:O_}{Y:Expr}(a it:R_):QN P w K Y (Itt K a) [it] it (λi h=>h.IsTupleIter it a i) where
 mem:=by simp
 obj:=λi h f b j=>by
  have e:b=it:=by simpa using j
  subst e;obtain⟨o,e,c,d⟩:=f;exact⟨o,e,λv z=>by rw[d]at z;cases z⟩
 keep:=λi h h' f k=>f.at λo e=>k it A6 o e
 item:=by
  intro X C F B M i g s σ H E I n f D;subst C F B;obtain⟨xs,x,q,G⟩:=D;obtain⟨l,L,p,T⟩:=I.tuple q;obtain⟨u,R,U⟩:=L.get G;obtain⟨r,t,Q,y,f4,A⟩:=n it A6;refine wpAny_pyNext_tuple_item f (show s.heap.IsTuple a l.toArray from p) (x:=u) (by simpa using R) λh' m V=>?_;have N:Inv X g σ H {s with heap:=h'}:=I.turned (t':=s.toks) (λb o j e=>(V.2 b j).trans e) r t y f4 A;obtain⟨o,e,c,d⟩:=id m;exact⟨u,Z,TY (s:={s with heap:=h'}) e c d A4 ⟨x,H,N,U,⟨Z,λys S=>by rw[I.tuple_inj S q];exact G⟩,m,λb j=>(n b j).1⟩⟩
 done:=by
  intro X C F B M i g s σ H E I n f D;subst C F B;obtain⟨xs,q,G⟩:=D;obtain⟨l,L,p,T⟩:=I.tuple q;obtain⟨r,t,Q,y,f4,A⟩:=n it A6;have hl:=L.length;exact wpAny_pyNext_tuple_end (I.ok.hd M) f (show s.heap.IsTuple a l.toArray from p) (by simp;lia) λh' O=>⟨Z,I.turned (t':=s.toks) (λb o j e=>O b o j e) r t y f4 A⟩
 self:=λ_ _ _ _ _ f h=>wpAny_pyIter_tupleiter f h
theorem UA{P:N_}{w:Q_}{K:O_}{F:Expr}(it:R_)(lo:Int)(n:Nat):QN P w K F (Itr lo n) [it] it (λi h=>IsRangeIter h it (lo+(i:Nat)*1) ((n:Int)-(i:Nat)) 1) where
 mem:=by simp
 obj:=λi h a b d=>by
  have e:b=it:=by simpa using d
  subst e;exact⟨_,a,λv z=>by
   have G:Data.fields _=Data.cell v:=z;cases G⟩
 keep:=λi h h' a k=>k it A6 _ a
 item:=by
  intro X r y q u i c s σ H E I g a x;subst r y q;obtain⟨j,l,C,m,f4,p⟩:=g it A6;have W:=Walks.range (prog:=X.prog) (w:=X.w) (I.ok.hd u) it lo 1 n;refine W.item i s _ _ x a λv h' tk D f kk=>?_;obtain⟨t,rfl⟩:=D;have A:Inv X c σ H {s with heap:=h',toks:=tk}:=I.turned (λb o d e=>kk b o (by simpa using d) e) j l m f4 p;refine⟨_,Z,TY (s:={s with heap:=h',toks:=tk}) (n:="range_iterator") f Z Z A4 ⟨.int (lo+i),H,A,⟨t,?_⟩,⟨Z,Z⟩,f,λb d=>(g b d).1⟩⟩;rw[Int.mul_one]
 done:=by
  intro X r y q u i c s σ H E I g a x;subst r y q;obtain⟨j,l,C,m,f4,p⟩:=g it A6;exact wpAny_pyNext_range_end (I.ok.hd u) a (by have:n<=i:=x;lia) λh' B=>⟨Z,I.turned (t':=s.toks) (λb o d e=>B b o d e) j l m f4 p⟩
 self:=λ_ _ _ _ _ a h=>wpAny_pyIter_rangeiter a h
section
variable{X:Cx}{tg:Expr}
def iList(K:O_)(tl:TE):TI:=fun σ H R=>tl σ H λx H1=>∃a,x=.ref a/\(∃xs,SqL K H1 a xs)/\R (Itl K a) H1
def iTup(K:O_)(tl:TE):TI:=fun σ H R=>tl σ H λx H1=>∃a,x=.ref a/\(∃xs,SqT K H1 a xs)/\R (Itt K a) H1
theorem CO{l:Expr}{g:TE}(k:PE X l g):PI X tg l (iList X.K g):=by
 intro c s σ H R I h;refine thn (k c s σ H _ I h) λv f ⟨x,i,d,t,r⟩=>?_;obtain⟨a,e,⟨xs,m⟩,q⟩:=r;subst e;cases t;obtain⟨n,w,p,u⟩:=d.list m;refine A2h p.isList ?_;refine⟨f.heap.objs.size,[f.heap.objs.size],_,_,i,Z,d.kept (t':=f.toks) λb o e=>B9 _ e,Yf a _,⟨_,D0 _ Z,Z,Z⟩,λb j=>?_,q⟩;have e:b=f.heap.objs.size:=by simpa using j
 subst e;exact d.fpOk (C0 _) (d.hok.fresh (C0 _))
theorem Po{l:Expr}{i:TE}(m:PE X l i):PI X tg l (iTup X.K i):=by
 intro c s σ H R I h;refine thn (m c s σ H _ I h) λv d ⟨x,j,f,t,r⟩=>?_;obtain⟨a,e,⟨xs,n⟩,q⟩:=r;subst e;cases t;obtain⟨g,w,p,u⟩:=f.tuple n;refine wpAny_pyIter_tuple (show d.heap.IsTuple a g.toArray from p) ?_;refine⟨d.heap.objs.size,[d.heap.objs.size],_,_,j,Z,f.kept (t':=d.toks) λb o e=>B9 _ e,Uz a _,⟨_,D0 _ Z,Z,Z⟩,λb k=>?_,q⟩;have e:b=d.heap.objs.size:=by simpa using k
 subst e;exact f.fpOk (C0 _) (f.hok.fresh (C0 _))
theorem Tp{c:A_}{σ:St}{H:Hp}{s:P_}{R:It->Hp->Prop}{E:B_}{lo a:Int}{t u v:Tok}{tk:Nat}(I:Inv X c σ H s)(h:-(2^62)<=lo)(i:lo<2^62)(j:-(2^62)<=a)(k:a<2^62)
  (q:R (Itr lo (a-lo).toNat) H):wpAny (model X.prog X.w) X.A (pyIter (.ref s.heap.objs.size)) (PIE X c σ tg R) E {s with heap:=s.heap.push {cls:=.type "range",data:=.fields #[.int lo t,.int a u,.int 1 v]},toks:=tk}:=by
 refine wpAny_pyIter_range (IsRange.new ..) (small_one h i j k) ?_;have d:Inv X c σ H {s with heap:=s.heap.push {cls:=.type "range",data:=.fields #[.int lo t,.int a u,.int 1 v]},toks:=tk}:=I.kept λb o e=>B9 _ e;refine⟨(s.heap.push {cls:=.type "range",data:=.fields #[.int lo t,.int a u,.int 1 v]}).objs.size,[(s.heap.push {cls:=.type "range",data:=.fields #[.int lo t,.int a u,.int 1 v]}).objs.size],_,_,H,Z,
  d.kept (t':=tk) λb o e=>B9 _ e,UA _ lo (a-lo).toNat,?_,λb l=>?_,q⟩
 .have f:lo+((0:Nat):Int)*1=lo:=by simp
  have g:(((a-lo).toNat:Nat):Int)-((0:Nat):Int)=Builtin.Range.rangeSize lo a 1:=by rw[rangeSize_one];split<;>lia
  show IsRangeIter _ _ (lo+((0:Nat):Int)*1) ((((a-lo).toNat:Nat):Int)-((0:Nat):Int)) 1;rw[f,g];exact D0 _ Z
 .have e:b=(s.heap.push {cls:=.type "range",data:=.fields #[.int lo t,.int a u,.int 1 v]}).objs.size:=by simpa using l
  subst e;exact d.fpOk (C0 _) (d.hok.fresh (C0 _))
def iRng1(ta:TA):TI:=fun σ H R=>ta σ H λvs H1=>∃j:Int,vs=[.int j]/\-(2^62)<=j/\j<2^62/\R (Itr 0 j.toNat) H1
def iRng2(ta:TA):TI:=fun σ H R=>ta σ H λvs H1=>∃i j:Int,vs=[.int i,.int j]/\(-(2^62)<=i/\i<2^62/\-(2^62)<=j/\j<2^62)/\R (Itr i (j-i).toNat) H1
theorem EF{a:Expr}{d:TA}{p pos:Pos}(i:Gl X "range")(k:X.mg "range" = none)(g:PA X [a] d)(l:starEach [a] X.env=[(false,eval a X.env)]:=by rfl):PI X tg (.Call (.Name "range" p) [a] [] pos) (iRng1 d):=by
 intro b s σ H R I h;refine Call_ (JQ I i k boot_range (A1a (thn (g pos b s σ H _ I h) λus v ⟨vs,u,f,n,c⟩=>?_) l Z));obtain⟨j,e,c,m,q⟩:=c;subst e;cases n with
 |cons r o =>
  cases o;obtain⟨t,rfl⟩:=r;exact call_range_1 (Tp f A0 A0 c m (by simpa using q))
theorem Nl{a b:Expr}{k:TA}{p pos:Pos}(n:Gl X "range")(o:X.mg "range" = none)(m:PA X [a,b] k)(u:starEach [a,b] X.env=[(false,eval a X.env),(false,eval b X.env)]:=by rfl)(c:starEach [b] X.env=[(false,eval b X.env)]:=by rfl) :
  PI X tg (.Call (.Name "range" p) [a,b] [] pos) (iRng2 k):=by
 intro d s σ H R I h;refine Call_ (JQ I n o boot_range (A1a (thn (m pos d s σ H _ I h) λus B ⟨vs,A,l,z,f⟩=>?_) (by rw[u,c]) (by rw[c];rfl)));obtain⟨i,j,e,⟨f,v,w,x⟩,q⟩:=f;subst e;cases z with
 |cons r g =>
  cases g with
  |cons y g =>
   cases g;obtain⟨t,rfl⟩:=r;obtain⟨t',rfl⟩:=y;exact call_range_2 (Tp l f v w x q)
def tFor(wi:TI)(g:TG)(tb:TS):TS:=λD σ H=>wi σ H λJ H1=>∃W:Nat->Nat->St->Hp->Prop,(∃m,W 0 m σ H1)/\∀i m σ H,W i m σ H ->
 (J.stop i H/\D.nx σ H)\/(J.go i H/\∃N:St->Hp->Prop,(∀σ' H',N σ' H'->∃m',m'<m/\W (i+1) m' σ' H')/\∀x H',J.yld i H x H'->g x σ H' fun σ2 H2=>tb {D with nx:=N,ct:=N,bk:=D.nx} σ2 H2)
noncomputable def Nk(fp:H_)(h:T_):List (Addr×Obj):=fp.filterMap λb=>(h.get? b).map λo=>(b,o)
theorem Jf{fp:H_}{h:T_}{b:R_}{o:Obj}(a:b∈fp)(e:h.get? b=some o):(b,o)∈Nk fp h:=List.mem_filterMap.mpr ⟨b,a,by rw[e];rfl⟩
theorem QY{fp:H_}{h:T_}{p:Addr×Obj}(d:p∈Nk fp h):p.1∈fp/\h.get? p.1=some p.2:=by
 obtain⟨b,c,e⟩:=List.mem_filterMap.mp d;cases q:h.get? b with
 |none=>rw[q]at e;cases e
 |some o =>
  rw[q]at e;have a:(b,o)=p:=X4 e;subst a;exact⟨c,q⟩
theorem Inv.pinned{a:A_}{σ:St}{H:Hp}{s:P_}{fp:H_}(I:Inv X a σ H s)(j:∀b∈fp,DC X a H b)(k:∀b∈fp,∃o,s.heap.get? b=some o/\∀v,o.data≠.cell v):Inv X (a++Nk fp s.heap) σ H s :=
 I.pins_of λp l=>(D8.mp l).elim (λz=>I.pin p (J6 _ z)) λz=>by
  obtain⟨f,e⟩:=QY z;obtain⟨g,h,i,_⟩:=j p.1 f;obtain⟨o,c,d⟩:=k p.1 f;rw[e]at c;cases c;exact⟨e,g,h,i,d⟩
theorem Inv.unpinned{a pl:A_}{σ:St}{H:Hp}{s:P_}(I:Inv X (a++pl) σ H s):Inv X a σ H s:=I.pins_of λp b=>I.pin p (J6 _ (T4 _ b))
theorem CK{q:Expr}{B:List Stmt}{wi:TI}{g:TG}{tb:TS}{pos:Pos}(G:PassesOwn (model X.prog X.w) X.A X.env X.xe)(hc:X.calm=true)(hi:PI X tg q wi)(hg:PG X tg g)(p:PSs X B tb)
  (hs:∀x,foldedSetIterable q X.env x=pure x:=by intro _;rfl):PS X (.For tg q B [] pos) (tFor wi g tb):=by
 intro a s σ H D I h;refine wpAny_For (thn (hi a s σ H _ I h) λv s1 h1=>thn h1 λaa s2 h2=>?_) hs;obtain⟨it,fp,tn,J,H2,e,I2,T,U,f2,W,⟨m0,w0⟩,turn⟩:=h2;subst e;have t:∀{z:Hp},(∀b∈fp,z b=none)->∀b∈fp,DC X a z b:=λhn b p=>⟨hn b p,(f2 b p).2⟩
 refine codeAny_forLoop_any (λn s'=>∃i σ' z,Inv X a σ' z s'/\tn i s'.heap/\(∀b∈fp,z b=none)/\W i n σ' z) ?_ m0 ⟨0,σ,H2,I2,U,λb p=>(f2 b p).1,w0⟩;rintro n s3 ⟨i,y,O,I3,L,F,w3⟩;rcases turn i n y O w3 with ⟨M,qn⟩|⟨go,N,hN,step⟩
 .refine A2f G (thn (T.done X Z Z Z hc i a s3 y O X.xe I3 (t F) L M) λr s4 ⟨R,I4⟩=>?_);subst R;exact A5g ⟨y,O,I4,qn⟩
 .refine A2f G (thn (T.item X Z Z Z hc i a s3 y O X.xe I3 (t F) L go) λr s4 ⟨u,R,h4⟩=>?_);subst R;refine A2f G (thn h4 λ_ s5 ⟨x,Y,I5,r5,y5,E,Q⟩=>?_);have P:=I5.pinned (t Q) (T.obj _ _ E);refine A2f G (thn (hg _ s5 y Y x u _ P r5 (step x Y y5)) λ_ s6 ⟨V,H6,I6,q6⟩=>?_);refine A2f G (thn (p _ s6 V H6 _ I6 q6) λf S C=>?_);have l:∀{c:St}{j:Hp},Inv X (a++Nk fp s5.heap) c j S->N c j->∃m,m<n/\∃i σ' z,Inv X a σ' z S/\tn i S.heap/\(∀b∈fp,z b=none)/\W i m σ' z:=λ{c j} k K=>by
   obtain⟨m',hm,w7⟩:=hN c j K;refine⟨m',hm,i+1,c,j,k.unpinned,T.keep _ _ _ E λb p o e=>(k.pin (b,o) (J6 _ (J6 _ (Jf p e)))).1,λb p=>?_,w7⟩;obtain⟨o,e,d⟩:=T.obj _ _ E b p;exact(k.pin (b,o) (J6 _ (J6 _ (Jf p e)))).2.1
  cases f with
  |next=>obtain⟨c,j,k,K⟩:=C;exact l k K
  |cont=>obtain⟨c,j,k,K⟩:=C;exact l k K
  |brk=>obtain⟨c,j,k,C⟩:=C;exact⟨c,j,k.unpinned,C⟩
  |ret v=>obtain⟨x7,c,j,k,r7,C⟩:=C;exact⟨x7,c,j,k.unpinned,r7,C⟩
end
theorem Ub{K:O_}{a:R_}{xs:List V}{g:TG}{k:TS}{D:MT}{σ:St}{H:Hp}(b:Nat->St->Hp->Prop)(l:b 0 σ H)(r:∀i σ H,i<=xs.length->b i σ H->SqL K H a xs)
  (s:∀i x σ H,xs[i]?=some x->b i σ H->g x σ H fun d h=>k {D with nx:=b (i+1),ct:=b (i+1),bk:=D.nx} d h) (n:∀σ H,b xs.length σ H->D.nx σ H) :
  ∃W:Nat->Nat->St->Hp->Prop,(∃m,W 0 m σ H)/\∀i m σ H,W i m σ H ->
   ((Itl K a).stop i H/\D.nx σ H)\/((Itl K a).go i H/\∃N:St->Hp->Prop,(∀σ' c,N σ' c->∃j,j<m/\W (i+1) j σ' c)/\∀x c,(Itl K a).yld i H x c->g x σ c fun d h=>k {D with nx:=N,ct:=N,bk:=D.nx} d h):=by
 refine⟨λi m σ H=>m=xs.length-i/\i<=xs.length/\b i σ H,⟨xs.length,by simp,J0 _,l⟩,?_⟩;rintro i m σ H ⟨rfl,o,p⟩;have q:=r i σ H o p;by_cases f:i<xs.length
 .refine .inr ⟨⟨xs,xs[i],q,by simp[f]⟩,b (i+1),fun σ' c t=>⟨xs.length-(i+1),by lia,Z,f,t⟩,λx c y=>?_⟩;obtain⟨e,y⟩:=y;subst e;exact s i x σ _ (y xs q) p
 .have e:i=xs.length:=by lia
  subst e;exact .inl ⟨⟨xs,q,C0 _⟩,n σ H p⟩
theorem for_tup{K:O_}{a:R_}{xs:List V}{g:TG}{k:TS}{D:MT}{σ:St}{H:Hp}(b:Nat->St->Hp->Prop)(l:b 0 σ H)(r:∀i σ H,i<=xs.length->b i σ H->SqT K H a xs)
  (s:∀i x σ H,xs[i]?=some x->b i σ H->g x σ H fun d h=>k {D with nx:=b (i+1),ct:=b (i+1),bk:=D.nx} d h) (n:∀σ H,b xs.length σ H->D.nx σ H) :
  ∃W:Nat->Nat->St->Hp->Prop,(∃m,W 0 m σ H)/\∀i m σ H,W i m σ H ->
   ((Itt K a).stop i H/\D.nx σ H)\/((Itt K a).go i H/\∃N:St->Hp->Prop,(∀σ' c,N σ' c->∃j,j<m/\W (i+1) j σ' c)/\∀x c,(Itt K a).yld i H x c->g x σ c fun d h=>k {D with nx:=N,ct:=N,bk:=D.nx} d h):=by
 refine⟨λi m σ H=>m=xs.length-i/\i<=xs.length/\b i σ H,⟨xs.length,by simp,J0 _,l⟩,?_⟩;rintro i m σ H ⟨rfl,o,p⟩;have q:=r i σ H o p;by_cases f:i<xs.length
 .refine .inr ⟨⟨xs,xs[i],q,by simp[f]⟩,b (i+1),fun σ' c t=>⟨xs.length-(i+1),by lia,Z,f,t⟩,λx c y=>?_⟩;obtain⟨e,y⟩:=y;subst e;exact s i x σ _ (y xs q) p
 .have e:i=xs.length:=by lia
  subst e;exact .inl ⟨⟨xs,q,C0 _⟩,n σ H p⟩
theorem EK{lo:Int}{n:Nat}{g:TG}{j:TS}{D:MT}{σ:St}{H:Hp}(b:Nat->St->Hp->Prop)(k:b 0 σ H)
  (o:∀i σ H,i<n->b i σ H->g (.int (lo+i)) σ H fun d f=>j {D with nx:=b (i+1),ct:=b (i+1),bk:=D.nx} d f) (l:∀σ H,b n σ H->D.nx σ H) :
  ∃W:Nat->Nat->St->Hp->Prop,(∃m,W 0 m σ H)/\∀i m σ H,W i m σ H ->
   ((Itr lo n).stop i H/\D.nx σ H)\/((Itr lo n).go i H/\∃N:St->Hp->Prop,(∀σ' a,N σ' a->∃h,h<m/\W (i+1) h σ' a)/\∀x a,(Itr lo n).yld i H x a->g x σ a fun d f=>j {D with nx:=N,ct:=N,bk:=D.nx} d f):=by
 refine⟨λi m σ H=>m=n-i/\i<=n/\b i σ H,⟨n,by simp,J0 _,k⟩,?_⟩;rintro i m σ H ⟨rfl,r,p⟩;by_cases c:i<n
 .refine .inr ⟨c,b (i+1),fun σ' a q=>⟨n-(i+1),by lia,Z,c,q⟩,λx a y=>?_⟩;obtain⟨e,y⟩:=y;subst e y;exact o i σ _ c p
 .have e:i=n:=by lia
  subst e;exact .inl ⟨C0 _,l σ H p⟩
abbrev R2:=V->V->Hp->VK->Prop
def OpR(X:Cx)(f:Value->Value->Sem Value)(r:R2):Prop :=
 ∀(pins:A_)(s:P_)(σ:St)(H:Hp)(x y:V)(v u:S_)(Q:VK),Inv X pins σ H s->Bd x v->Bd y u->r x y H Q ->
  wpAny (model X.prog X.w) X.A (f v u) (EP X pins σ Q) X.xe s
def UnR(X:Cx)(f:Value->Sem Value)(r:V->Hp->VK->Prop):Prop :=
 ∀(pins:A_)(s:P_)(σ:St)(H:Hp)(x:V)(v:S_)(Q:VK),Inv X pins σ H s->Bd x v->r x H Q ->
  wpAny (model X.prog X.w) X.A (f v) (EP X pins σ Q) X.xe s
def GB(X:Cx)(f:S_)(r:List V->Hp->VK->Prop):Prop :=
 ∀(pins:A_)(s:P_)(σ:St)(H:Hp)(xs:List V)(us:F_)(Q:VK),Inv X pins σ H s->AR xs us->r xs H Q ->
  wpAny (model X.prog X.w) X.A (call f us) (EP X pins σ Q) X.xe s
def tOp(r:R2)(ta tb:TE):TE:=fun σ H Q=>ta σ H λx H1=>tb σ H1 λy H2=>r x y H2 Q
def tUn(r:V->Hp->VK->Prop)(ta:TE):TE:=fun σ H Q=>ta σ H λx H1=>r x H1 Q
def rI(C:Int->Int->Prop)(g:Int->Int->V):R2:=λx y H Q=>∃i j,x=.int i/\y=.int j/\C i j/\Q (g i j) H
def rI0(g:Int->Int->V):R2:=λx y H Q=>∃i j,x=.int i/\y=.int j/\Q (g i j) H
def rU(g:Int->V):V->Hp->VK->Prop:=λx H Q=>∃i,x=.int i/\Q (g i) H
section
variable{X:Cx}{a b c:Expr}{ta tb tc:TE}{pos:Pos}
theorem binT(n:PE X a ta)(o:PE X b tb){d:A_}{s:P_}{σ:St}{H:Hp}{R:V->V->Hp->Prop}(I:Inv X d σ H s)
  (h:ta σ H λx k=>tb σ k λy e=>R x y e) {Q:B_} {f:Value->Value->Sem Value}
  (p:∀v u j x y e,Inv X d σ e j->Bd x v->Bd y u->R x y e->wpAny (model X.prog X.w) X.A (f v u) Q X.xe j) :
  wpAny (model X.prog X.w) X.A (eval a X.env) (λv g=>wpAny (model X.prog X.w) X.A (eval b X.env) (λu i=>wpAny (model X.prog X.w) X.A (f v u) Q X.xe i) X.xe g) X.xe s:=by
 refine thn (n d s σ H _ I h) λv B ⟨x,k,l,t,q⟩=>?_;refine thn (o d B σ k _ l q) λu j ⟨y,e,m,z,r⟩=>?_;exact p v u j x y e m t z r
theorem AA{op:Operator}{r:R2}(j:OpR X (binaryOp op) r)(g:PE X a ta)(i:PE X b tb):PE X (.BinOp a op b pos) (tOp r ta tb):=by
 intro d s σ H Q I h;exact wpAny_BinOp (binT g i I h λv u m x y e f k l q=>j d m σ e x y v u Q f k l q)
theorem Fd{op:UnaryOp}{r:V->Hp->VK->Prop}(i:UnR X (unaryOp op) r)(g:PE X a ta):PE X (.UnaryOp op a pos) (tUn r ta):=by
 intro d s σ H Q I h;exact UnaryOp_ (thn (g d s σ H _ I h) λv l ⟨x,e,f,k,j⟩=>i d l σ e x v Q f k j)
theorem opI{f:Value->Value->Sem Value}{C:Int->Int->Prop}{g:Int->Int->Int}
  (d:∀(i j:Int)(t u:Tok)(s:P_)(Q:B_)(E:B_),C i j->Q (.int (g i j) s.toks) {s with toks:=s.toks+1}->wpAny (model X.prog X.w) X.A (f (.int i t) (.int j u)) Q E s) :
  OpR X f (rI C λi j=>.int (g i j)):=by
 intro e s σ H x y v u Q I l m h;obtain⟨i,j,rfl,rfl,k,q⟩:=h;obtain⟨t,rfl⟩:=l;obtain⟨t',rfl⟩:=m;exact d i j t t' s _ _ k ⟨.int (g i j),H,I.tok _,⟨_,Z⟩,q⟩
theorem opI0{f:Value->Value->Sem Value}{g:Int->Int->Int}
  (d:∀(i j:Int)(t u:Tok)(s:P_)(Q:B_)(E:B_),Q (.int (g i j) s.toks) {s with toks:=s.toks+1}->wpAny (model X.prog X.w) X.A (f (.int i t) (.int j u)) Q E s) :
  OpR X f (rI0 λi j=>.int (g i j)):=by
 intro e s σ H x y v u Q I k l h;obtain⟨i,j,rfl,rfl,q⟩:=h;obtain⟨t,rfl⟩:=k;obtain⟨t',rfl⟩:=l;exact d i j t t' s _ _ ⟨.int (g i j),H,I.tok _,⟨_,Z⟩,q⟩
theorem opB0{f:Value->Value->Sem Value}{g:Int->Int->Bool}
  (d:∀(i j:Int)(t u:Tok)(s:P_)(Q:B_)(E:B_),Q (.bool (g i j)) s->wpAny (model X.prog X.w) X.A (f (.int i t) (.int j u)) Q E s) :
  OpR X f (rI0 λi j=>.bl (g i j)):=by
 intro e s σ H x y v u Q I k l h;obtain⟨i,j,rfl,rfl,q⟩:=h;obtain⟨t,rfl⟩:=k;obtain⟨t',rfl⟩:=l;exact d i j t t' s _ _ ⟨.bl (g i j),H,I,Z,q⟩
def CDiv(i j:Int):Prop:=0<j/\j<1073741824
def CPow(i j:Int):Prop:=0<=j/\j<=1000000/\i.natAbs<2^64
def CMul(i j:Int):Prop:=(-(2^64)<i/\i<2^64)\/(-(2^64)<j/\j<2^64)
theorem CMul.ok{i j:Int}(h:CMul i j):IntMulOk i j:=by
 rcases h with ⟨d,e⟩|⟨d,e⟩
 .exact .of_left (intBits_le_64 d e)
 .exact .of_right (intBits_le_64 d e)
theorem AZ:OpR X (binaryOp .Add) (rI0 λi j=>.int (i+j)):=opI0 λ_ _ _ _ _ _ _ q=>add_int q
theorem Bm:OpR X (binaryOp .Sub) (rI0 λi j=>.int (i-j)):=opI0 λ_ _ _ _ _ _ _ q=>sub_int q
theorem EJ:OpR X (binaryOp .Mult) (rI CMul λi j=>.int (i*j)):=opI λ_ _ _ _ _ _ _ d q=>mul_int q d.ok
theorem CQ:OpR X (binaryOp .FloorDiv) (rI CDiv λi j=>.int (i/j)):=opI λi j _ _ _ _ _ d q=>by
 have e:(0:Int)<j:=d.1;have f:j<1073741824:=d.2;exact floordiv_int A0 (by rw[Int.fdiv_eq_ediv_of_nonneg i A0];exact q) (.inl (PyProof.noPylong_small A0))
theorem Bz:OpR X (binaryOp .Mod) (rI (λ_ j=>0<j) λi j=>.int (i%j)):=opI λi j _ _ _ _ _ d q=>by
 have e:(0:Int)<j:=d;exact mod_int' A0 (by rw[Int.fmod_eq_emod_of_nonneg i A0];exact q)
theorem op_pow:OpR X (binaryOp .Pow) (rI CPow λi j=>.int (i^j.toNat)):=opI λ_ _ _ _ _ _ _ d q=>pow_int_small d.1 d.2.1 d.2.2 q
theorem Jd:OpR X (binaryOp .LShift) (rI CPow λi j=>.int (i*2^j.toNat)):=opI λ_ _ _ _ _ _ _ d q=>lshift_int_small d.1 d.2.1 d.2.2 q
theorem unI{f:Value->Sem Value}{g:Int->Int}
  (d:∀(i:Int)(t:Tok)(s:P_)(Q:B_)(E:B_),Q (.int (g i) s.toks) {s with toks:=s.toks+1}->wpAny (model X.prog X.w) X.A (f (.int i t)) Q E s) :
  UnR X f (rU λi=>.int (g i)):=by
 intro e s σ H x v Q I j h;obtain⟨i,rfl,q⟩:=h;obtain⟨t,rfl⟩:=j;exact d i t s _ _ ⟨.int (g i),H,I.tok _,⟨_,Z⟩,q⟩
theorem CU:UnR X (unaryOp .USub) (rU λi=>.int (-i)):=unI λ_ _ _ _ _ q=>neg_int q
end
noncomputable def scal:V->V->Bool
|.non,.non=>true|.non,.int _=>true|.int _,.non=>true|.non,.bl _=>true|.bl _,.non=>true|.non,.str _=>true|.str _,.non=>true
|.int _,.int _=>true|.bl _,.bl _=>true|.str _,.str _=>true|.byt _,.byt _=>true
|.int _,.str _=>true|.str _,.int _=>true|.bl _,.str _=>true|.str _,.bl _=>true
|_,_=>false
def rEq:R2:=λx y H Q=>scal x y=true/\Q (.bl (decide (x=y))) H
def rNe:R2:=λx y H Q=>scal x y=true/\Q (.bl (!decide (x=y))) H
theorem OJ{i j:Int}:decide (V.int i=V.int j)=(i==j):=by
 rw[R6];simp
theorem dec_bl{i j:Bool}:decide (V.bl i=V.bl j)=(i==j):=by
 rw[R6];simp
theorem WH{i j:Str}:decide (V.str i=V.str j)=(i==j):=by
 rw[R6];simp
theorem WI{i j:Array UInt8}:decide (V.byt i=V.byt j)=(i.toList==j.toList):=by
 rw[R6];cases i;cases j;simp
section
variable{X:Cx}{a b c:Expr}{ta tb tc:TE}{pos:Pos}
theorem Bh{d:A_}{σ:St}{H:Hp}{s:P_}{Q:VK}{k f:Bool}(I:Inv X d σ H s)(q:Q (.bl k) H)(e:k=f):EP X d σ Q (.bool f) s:=by
 subst e;exact⟨.bl k,H,I,Z,q⟩
theorem De:OpR X (compareOp .Eq) rEq:=by
 intro g s σ H x y v u Q I f d h;obtain⟨e,q⟩:=h;cases x with
 |non =>
  cases f;cases y with
  |non=>cases d;exact PySem.EqNone.eq_none_none (Bh I q A6)
  |bl j=>cases d;exact PySem.EqNone.eq_none_bool (Bh I q A6)
  |int j=>obtain⟨t',rfl⟩:=d;exact PySem.EqNone.eq_none_int (Bh I q A6)
  |str j=>obtain⟨t',rfl⟩:=d;exact PySem.EqNone.eq_none_str (Bh I q A6)
  |_=>exact absurd (show false=true from e) D2
 |bl i =>
  cases f;cases y with
  |non=>cases d;exact PySem.EqNone.eq_bool_none (Bh I q A6)
  |bl j=>cases d;exact eq_bool (Bh I q dec_bl)
  |str j=>obtain⟨t',rfl⟩:=d;exact PySem.EqMixed.eq_bool_str (Bh I q A6)
  |_=>exact absurd (show false=true from e) D2
 |int i =>
  obtain⟨t,rfl⟩:=f;cases y with
  |non=>cases d;exact PySem.EqNone.eq_int_none (Bh I q A6)
  |int j=>obtain⟨t',rfl⟩:=d;exact eq_int (Bh I q OJ)
  |str j=>obtain⟨t',rfl⟩:=d;exact PySem.EqMixed.eq_int_str (Bh I q A6)
  |_=>exact absurd (show false=true from e) D2
 |str i =>
  obtain⟨t,rfl⟩:=f;cases y with
  |non=>cases d;exact PySem.EqNone.eq_str_none (Bh I q A6)
  |bl j=>cases d;exact PySem.EqMixed.eq_str_bool (Bh I q A6)
  |int j=>obtain⟨t',rfl⟩:=d;exact PySem.EqMixed.eq_str_int (Bh I q A6)
  |str j=>obtain⟨t',rfl⟩:=d;exact eq_str (Bh I q WH)
  |_=>exact absurd (show false=true from e) D2
 |byt i =>
  obtain⟨t,rfl⟩:=f;cases y with
  |byt j=>obtain⟨t',rfl⟩:=d;exact W.eq_bytes (Bh I q WI)
  |_=>exact absurd (show false=true from e) D2
 |_=>cases y<;>exact absurd (show false=true from e) D2
theorem JK:OpR X (compareOp .NotEq) rNe:=by
 intro g s σ H x y v u Q I f d h;obtain⟨e,q⟩:=h;cases x with
 |non =>
  cases f;cases y with
  |non=>cases d;exact PySem.EqNone.ne_none_none (Bh I q A6)
  |bl j=>cases d;exact PySem.EqNone.ne_none_bool (Bh I q A6)
  |int j=>obtain⟨t',rfl⟩:=d;exact PySem.EqNone.ne_none_int (Bh I q A6)
  |str j=>obtain⟨t',rfl⟩:=d;exact PySem.EqNone.ne_none_str (Bh I q A6)
  |_=>exact absurd (show false=true from e) D2
 |bl i =>
  cases f;cases y with
  |non=>cases d;exact PySem.EqNone.ne_bool_none (Bh I q A6)
  |bl j=>cases d;exact ne_bool (Bh I q (K0 not dec_bl))
  |str j=>obtain⟨t',rfl⟩:=d;exact PySem.EqMixed.ne_bool_str (Bh I q A6)
  |_=>exact absurd (show false=true from e) D2
 |int i =>
  obtain⟨t,rfl⟩:=f;cases y with
  |non=>cases d;exact PySem.EqNone.ne_int_none (Bh I q A6)
  |int j=>obtain⟨t',rfl⟩:=d;exact ne_int (Bh I q (K0 not OJ))
  |str j=>obtain⟨t',rfl⟩:=d;exact PySem.EqMixed.ne_int_str (Bh I q A6)
  |_=>exact absurd (show false=true from e) D2
 |str i =>
  obtain⟨t,rfl⟩:=f;cases y with
  |non=>cases d;exact PySem.EqNone.ne_str_none (Bh I q A6)
  |bl j=>cases d;exact PySem.EqMixed.ne_str_bool (Bh I q A6)
  |int j=>obtain⟨t',rfl⟩:=d;exact PySem.EqMixed.ne_str_int (Bh I q A6)
  |str j=>obtain⟨t',rfl⟩:=d;exact ne_str (Bh I q (K0 not WH))
  |_=>exact absurd (show false=true from e) D2
 |byt i =>
  obtain⟨t,rfl⟩:=f;cases y with
  |byt j=>obtain⟨t',rfl⟩:=d;exact W.ne_bytes (Bh I q (K0 not WI))
  |_=>exact absurd (show false=true from e) D2
 |_=>cases y<;>exact absurd (show false=true from e) D2
theorem GN:OpR X (compareOp .Lt) (rI0 λi j=>.bl (decide (i<j))):=opB0 λ_ _ _ _ _ _ _ q=>lt_int q
theorem JL:OpR X (compareOp .LtE) (rI0 λi j=>.bl (decide (i<=j))):=opB0 λ_ _ _ _ _ _ _ q=>le_int q
theorem NU:OpR X (compareOp .Gt) (rI0 λi j=>.bl (decide (j<i))):=opB0 λ_ _ _ _ _ _ _ q=>gt_int q
theorem op_ge:OpR X (compareOp .GtE) (rI0 λi j=>.bl (decide (j<=i))):=opB0 λ_ _ _ _ _ _ _ q=>ge_int q
theorem Yq:OpR X (compareOp .In) (λx y H Q=>∃i j,x=.str i/\y=.str j/\Q (.bl (!(Builtin.Str.occurrences j i 0 j.length 1).isEmpty)) H):=by
 intro d s σ H x y v u Q I e f h;obtain⟨i,j,rfl,rfl,q⟩:=h;obtain⟨t,rfl⟩:=e;obtain⟨t',rfl⟩:=f;exact in_str (Bh I q Z)
theorem Je:OpR X (compareOp .Is) (λx y H Q=>y=.non/\Q (.bl (decide (x=.non))) H):=by
 intro d s σ H x y v u Q I e f h;obtain⟨rfl,q⟩:=h;cases f;refine is_none_gen (Bh I q ?_);cases x<;>first
  | (cases e;rfl)
  | (obtain⟨t,rfl⟩:=e;rfl)
theorem Wn:OpR X (compareOp .IsNot) (λx y H Q=>y=.non/\Q (.bl (!decide (x=.non))) H):=by
 intro d s σ H x y v u Q I e f h;obtain⟨rfl,q⟩:=h;cases f;refine isnot_none_gen (Bh I q ?_);cases x<;>first
  | (cases e;rfl)
  | (obtain⟨t,rfl⟩:=e;rfl)
theorem Mz:OpR X (compareOp .NotIn) (λx y H Q=>∃i j,x=.str i/\y=.str j/\Q (.bl (!(!(Builtin.Str.occurrences j i 0 j.length 1).isEmpty))) H):=by
 intro d s σ H x y v u Q I e f h;obtain⟨i,j,rfl,rfl,q⟩:=h;obtain⟨t,rfl⟩:=e;obtain⟨t',rfl⟩:=f;exact notIn_str (Bh I q Z)
theorem AD(b:Expr){op:CmpOp}(h:op≠.In:=by decide)(f:op≠.NotIn:=by decide):behindInMarks op b=false:=by
 have d:(op==CmpOp.In)=false:=by cases op<;>first|rfl|exact absurd rfl h
 have e:(op==CmpOp.NotIn)=false:=by cases op<;>first|rfl|exact absurd rfl f
 cases b<;>simp[behindInMarks,d,e]
theorem Em{op:CmpOp}{r:R2}(k:OpR X (compareOp op) r)(g:PE X a ta)(i:PE X b tb)(j:behindInMarks op b=false):PE X (.Compare a [op] [b] pos) (tOp r ta tb):=by
 intro d s σ H Q I h;exact wpAny_Compare1 (binT g i I h λv u n x y e f l m q=>k d n σ e x y v u Q f l m q) j
def VH(t:TE):TT:=fun σ H Q=>t σ H λx H'=>∃k,x=.bl k/\Q k H'
theorem Az{op:CmpOp}{r:R2}(q:OpR X (compareOp op) r)(n:PE X a ta)(o:PE X b tb)(p:behindInMarks op b=false):PT X (.Compare a [op] [b] pos) (VH (tOp r ta tb)):=by
 intro d s σ H Q I h;refine wpAny_isTrue_Compare1 (thn (n d s σ H _ I h) λv E ⟨x,f,j,B,t⟩=>thn (o d E σ f _ j t) λu F ⟨y,g,l,C,w⟩ =>
  thn (q d F σ g x y v u _ l B C w) λc G ⟨z,i,m,D,k,e,A⟩=>?_) p
 subst e;cases D;exact K9 ⟨i,m,A⟩
def Zt(r r':R2)(ta tb tc:TE):TE:=fun σ H Q=>ta σ H λx H1=>tb σ H1 λy H2=>r x y H2 λz H3=>∃k,z=.bl k /\
 (if k=true then tc σ H3 λw' H4=>r' y w' H4 Q else Q (.bl false) H3)
theorem pe_chain{op g:CmpOp}{r n:R2}(G:OpR X (compareOp op) r)(i:OpR X (compareOp g) n)(C:PE X a ta)(D:PE X b tb)(E:PE X c tc)
  (F:lastMarks [op,g] [b,c]=false:=by with_unfolding_all rfl):PE X (.Compare a [op,g] [b,c] pos) (Zt r n ta tb tc):=by
 intro f s σ H Q I h;refine Compare_chain (thn (C f s σ H _ I h) λv R ⟨x,p,w,N,K⟩=>chain_link (thn (D f R σ p _ w K) λu S ⟨y,q,A,o,L⟩ =>
  thn (G f S σ q x y v u _ A N o L) λd T ⟨z,j,l,O,k,e,m⟩=>?_)) F
 subst e;cases O;refine K9 ?_;cases k with
 |false=>exact ite_ff ⟨.bl false,j,l,Z,m⟩
 |true=>exact ite_tt (chain_last (thn (E f T σ j _ l m) λV U ⟨W,t,B,P,M⟩=>i f U σ t y W u V Q B o P M))
theorem Pl{op g:CmpOp}{r n:R2}(N:OpR X (compareOp op) r)(i:OpR X (compareOp g) n)(G:PE X a ta)(K:PE X b tb)(L:PE X c tc)
  (M:lastMarks [op,g] [b,c]=false:=by with_unfolding_all rfl):PT X (.Compare a [op,g] [b,c] pos) (VH (Zt r n ta tb tc)):=by
 intro f s σ H Q I h;refine isTrue_chain (thn (G f s σ H _ I h) λv s1 ⟨x,p,A,U,P⟩=>test_link (thn (K f s1 σ p _ A P) λu s2 ⟨y,q,B,o,R⟩ =>
  thn (N f s2 σ q x y v u _ B U o R) λd s3 ⟨z,j,l,V,k,e,m⟩=>?_)) M
 subst e;cases V;refine K9 ?_;cases k with
 |false =>
  obtain⟨k',E,O⟩:=m;cases E;exact ite_ff ⟨j,l,O⟩
 |true =>
  refine ite_tt (test_last (thn (L f s3 σ j _ l m) λw' s4 ⟨z',t,C,W,S⟩=>thn (i f s4 σ t y z' u w' _ C o W S) λd' s5 ⟨z2,w,D,Y,k2,F,T⟩=>?_));subst F;cases Y;exact K9 ⟨w,D,T⟩
theorem PR:(sizeLine:Nat)<2^63:=by rw[sizeLine_eq];decide
theorem DO:OpR X (binaryOp .Add) (λx y H Q=>∃i j,x=.str i/\y=.str j/\i.length+j.length<=sizeLine/\Q (.str (i++j)) H):=by
 intro d s σ H x y v u Q I f g h;obtain⟨i,j,rfl,rfl,e,q⟩:=h;obtain⟨t,rfl⟩:=f;obtain⟨t',rfl⟩:=g;exact add_str (λt' tk=>⟨.str (i++j),H,I.tok _,⟨_,Z⟩,q⟩) e
theorem SO{x:V}{us:F_}(r:AR [x] us):∃u,us=[u]/\Bd x u:=by
 cases r with
 |cons d e=>cases e;exact⟨_,Z,d⟩
theorem vals2{x y:V}{us:F_}(r:AR [x,y] us):∃u d,us=[u,d]/\Bd x u/\Bd y d:=by
 cases r with
 |cons e f =>
  cases f with
  |cons g h=>cases h;exact⟨_,_,Z,e,g⟩
theorem Lq(f:X.calm=true):GB X (.builtin "max") (λxs H Q=>∃i j,xs=[.int i,.int j]/\Q (.int (if j > i then j else i)) H):=by
 intro e s σ H xs us Q I r h;obtain⟨i,j,rfl,q⟩:=h;obtain⟨u,g,rfl,⟨t,rfl⟩,⟨t',rfl⟩⟩:=vals2 r;refine max_two_ints (I.ok.hd f) λh' tk k=>⟨_,H,I.kept k,?_,q⟩
 by_cases d:j > i
 .rw[Z7 d,Z7 d];exact⟨_,Z⟩
 .rw[Z4 d,Z4 d];exact⟨_,Z⟩
theorem FK(f:X.calm=true):GB X (.builtin "min") (λxs H Q=>∃i j,xs=[.int i,.int j]/\Q (.int (if j<i then j else i)) H):=by
 intro e s σ H xs us Q I r h;obtain⟨i,j,rfl,q⟩:=h;obtain⟨u,g,rfl,⟨t,rfl⟩,⟨t',rfl⟩⟩:=vals2 r;refine min_two_ints (I.ok.hd f) λh' tk k=>⟨_,H,I.kept k,?_,q⟩
 by_cases d:j<i
 .rw[Z7 d,Z7 d];exact⟨_,Z⟩
 .rw[Z4 d,Z4 d];exact⟨_,Z⟩
theorem FE:GB X (.type "str") (λxs H Q=>∃i,xs=[.int i]/\i.natAbs.log2<1920/\Q (.str (toString i)) H):=by
 intro d s σ H xs us Q I r h;obtain⟨i,rfl,e,q⟩:=h;obtain⟨u,rfl,t,rfl⟩:=SO r;exact PySem.P.str_of_int e ⟨.str _,H,I.tok _,⟨_,Z⟩,q⟩
end
structure VA(h:T_)(x dx C:R_)(mA:C_):Prop where
obj:h.get? x=some (instObj C dx)
ns:h.Ns1 dx mA
ne:dx≠x
theorem YM{h:T_}{dx:R_}{d:C_}(n:h.Ns1 dx d):∃f,h.get? dx=some f/\∀name,lookIn name f=some (d name):=by
 obtain⟨o,c,p,l,i,j,_,k⟩:=n;refine⟨o,l,λname=>?_⟩;have e:=k name;unfold nsFind findBy at e;rw[<-Array.find?_toList]at e;unfold lookIn;rw[i];dsimp only;split
 .rename_i y q;rw[q]at e;exact K0 some e
 .rename_i q;rw[q]at e;have a:c.toList.any (·.refKey)=false:=by
   rw[List.any_eq_false];intro y m;obtain⟨z,t,b⟩:=j y (Array.mem_toList_iff.mp m);simp[DictEntry.refKey,b]
  have g:¬c.toList.any (·.refKey)=true:=by rw[a];exact D2
  rw[Z4 g];exact K0 some e
theorem VA.look{h:T_}{x dx C:R_}{b:C_}(I:VA h x dx C b):∃a,W.InstAt h x (instObj C dx) C (some a)/\∀name,lookIn name a=some (b name) :=
 let ⟨a,ho,hl⟩:=YM I.ns
 ⟨a,⟨I.obj,Z,Z,ho⟩,hl⟩
section
variable{prog:N_}{w:Q_}{A:Around}{E:B_}{s:P_}{K:O_}{x dx C f:R_}{mA:C_}{name:Str}{v:S_}
theorem get_map{a:Bool}{Q:B_}(X:K.In s.heap)(I:VA s.heap x dx C mA)(d:plainGet K C name=true)(e:hasDictIn K C=true)
  (c:findIn K (.ref C) name=some none) (i:mA name=some v) (b:handedIn v=true) (h:Q v {s with toks:=s.toks+1}) :
  wpAny (model prog w) A (getAttr (.ref x) name a) Q E s:=by
 obtain⟨j,J,g⟩:=I.look;exact W.get_value X J (A5c d).1 (W.findObj_own e c Z (by rw[g,i])) b h
theorem get_meth{pl:Sem Bool}{Q:Value×List Value->Shared->Prop}(X:K.In s.heap)(I:VA s.heap x dx C mA)(a:plainGet K C name=true)
  (b:findIn K (.ref C) name=some (some (.ref f))) (d:isFn K (.ref f)=true) (e:mA name=none) (h:Q (.ref f,[.ref x]) s) :
  wpAny (model prog w) A (getMethod (.ref x) name pl) Q E s:=by
 obtain⟨g,J,c⟩:=I.look;exact W.method_fn X J (A5c a).1 (A5c a).2 b (beq_iff_eq.mp d) (by show(lookIn name g).map (·.isSome)=some false;rw[c,e];rfl) h
theorem set_map{ns:K_}{Q:Unit->Shared->Prop}(X:K.In s.heap)(I:VA s.heap x dx C mA)
  (p:findIn K (.ref C) "__setattr__" = some (some (.builtin "object.__setattr__"))) (o:plainOver K C=true) (q:takerIn K C name=some none) (n:hasDictIn K C=true)
  (t:PySem.Within mA ns) (hsz:ns.length<=sizeLine)
  (h:∀h',VA h' x dx C (λy=>if y=name then some v else mA y)->Heap.SameBut dx s.heap h'->Q () {s with heap:=h',toks:=s.toks+2}) :
  wpAny (model prog w) A (setAttr (.ref x) name v) Q E s:=by
 obtain⟨F,J,B⟩:=I.look;refine W.set_plain X J p (W.osa_open (s:={s with toks:=s.toks+1}) (r:=none) X J o q λb=>?_)
 obtain⟨z,m,g⟩:=any_some n;have u:s.heap.get? x=some ⟨.ref C,some dx,.plain,#[]⟩:=I.obj;refine Z3 (Z6 (Z3 (Z3 (wpAny_loadPart u (Z3 (W.Looks.here (s:={s with toks:=s.toks+1}) (W.looks_clsIn X m) ?_))))))
 rw[g];refine Z6 (a:=some dx) (Z3 (Z6 (Z3 ?_)));refine wpAny_nsSet1 (s:={s with toks:=s.toks+1}) I.ns λh' c d=>?_;obtain⟨D,l,k,j,i,e⟩:=c.count (PySem.Within.cons name v t);refine Z3 (wpAny_lookBehind j (by rw[i];exact pastItsLine_dict (C9 e (by rw[F0];lia))) ?_);exact Z6 (h _ ⟨(d.2 _ (X5 I.ne)).trans I.obj,c,I.ne⟩ d)
theorem make_map{R:Result->Shared->Prop}{vs:F_}{kw:List (Str×Value)}(X:K.In s.heap)(e:makesIn K C=true)
  (c:findIn K (.ref C) "__init__" = some (some (.ref f))) (b:W.typeIn K (.ref f)=some (.type "function"))
  (h:codeAny (model prog w) (A.under (.builtin "type.__call__" ⟨.ref C::vs,kw⟩)) (.call (.ref f) ⟨.ref (s.heap.objs.size+1)::vs,kw⟩) (W.InitBack (s.heap.objs.size+1) R)
   {s with heap:=(s.heap.push emptyDict).push (instObj C s.heap.objs.size)}) :
  codeAny (model prog w) A (.call (.ref C) ⟨vs,kw⟩) R s:=by
 obtain⟨i,g,d,t,j⟩:=s;exact W.make_core (W.makes_of X e) (W.looks_findIn X c) (λa=>W.bind_fn X a b) (.inl Z) h
end
noncomputable def AW(f:Str)(v:V):List (Str×V)->List (Str×V)
|[]=>[(f,v)]
| (g,x)::r=>if g=f then(g,v)::r else(g,x)::AW f v r
theorem An(f g:Str)(v:V):∀fs:List (Str×V),(AW f v fs).lookup g=if g=f then some v else fs.lookup g
|[]=>by
 show List.lookup g [(f,v)]=_;by_cases h:g=f
 .have a:(g==f)=true:=beq_iff_eq.mpr h;simp only[List.lookup,a,Z7 h]
 .have a:(g==f)=false:=beq_eq_false_iff_ne.mpr h;simp only[List.lookup,a,Z4 h]
| (k,x)::r=>by
 have c:=An f g v r;rw[show AW f v ((k,x)::r)=(if k=f then(k,v)::r else(k,x)::AW f v r)from rfl];by_cases b:k=f
 .rw[Z7 b];by_cases h:g=k
  .have a:(g==k)=true:=beq_iff_eq.mpr h;simp only[List.lookup,a,Z7 (h.trans b)]
  .have a:(g==k)=false:=beq_eq_false_iff_ne.mpr h;simp only[List.lookup,a,Z4 (λe:g=f=>h (e.trans b.symm))]
 .rw[Z4 b];by_cases h:g=k
  .have a:(g==k)=true:=beq_iff_eq.mpr h;simp only[List.lookup,a,Z4 (λe:g=f=>b (h.symm.trans e))]
  .have a:(g==k)=false:=beq_eq_false_iff_ne.mpr h;simp only[List.lookup,a];exact c
theorem NH(f:Str)(v:V):∀fs:List (Str×V),f∈(AW f v fs).map (·.1)/\∀g,g∈fs.map (·.1)->g∈(AW f v fs).map (·.1)
|[]=>⟨by simp[AW],λg h=>by simp at h⟩
| (k,x)::r=>by
 obtain⟨b,c⟩:=NH f v r;rw[show AW f v ((k,x)::r)=(if k=f then(k,v)::r else(k,x)::AW f v r)from rfl];by_cases a:k=f
 .rw[Z7 a];subst a;exact⟨by simp,λg h=>by simpa using h⟩
 .rw[Z4 a];refine⟨?_,λg h=>?_⟩
  .rw[D9];exact C4 _ b
  .rw[D9]at h⊢;rcases C1.mp h with e|e
   .exact C1.mpr (.inl e)
   .exact C4 _ (c g e)
theorem BH(f:Str)(v:V):∀fs:List (Str×V),(AW f v fs).length<=fs.length+1
|[]=>by simp[AW]
| (k,x)::r=>by
 have b:=BH f v r;rw[show AW f v ((k,x)::r)=(if k=f then(k,v)::r else(k,x)::AW f v r)from rfl];by_cases a:k=f
 .rw[Z7 a,F0,F0];lia
 .rw[Z4 a,F0,F0];lia
theorem Jl.some_of{v:V}{o:Option Value}(r:Jl (some v) o):∃u,o=some u/\Bd v u:=by
 cases o with
 |none=>exact(show False from r).elim
 |some u=>exact⟨u,Z,r⟩
theorem Jl.none_of{o:Option Value}(r:Jl none o):o=none:=by
 cases o with
 |none=>rfl
 |some u=>exact(show False from r).elim
theorem YW{v:V}{u:S_}(r:Bd v u):handedIn u=true:=by
 cases v with
 |non=>cases(show u=Value.none from r);rfl
 |bl b=>cases(show u=Value.bool b from r);rfl
 |int i=>obtain⟨t,e⟩:=(show ∃t,u=Value.int i t from r);cases e;rfl
 |str x=>obtain⟨t,e⟩:=(show ∃t,u=Value.str x t from r);cases e;rfl
 |byt b=>obtain⟨t,e⟩:=(show ∃t,u=Value.bytes b t from r);cases e;rfl
 |flt b=>obtain⟨t,e⟩:=(show ∃t,u=Value.float b t from r);cases e;rfl
 |ref a=>cases(show u=Value.ref a from r);rfl
 |ty n=>cases(show u=Value.type n from r);rfl
section
variable{P:N_}{w:Q_}{H H':Hp}{h h':T_}{a C dx:R_}{fs fs':List (Str×V)}
theorem OG(c:HOk P w H h)(e:H a=some (.ins C dx fs)):∃b,VA h a dx C b/\(∀f,Jl (fs.lookup f) (b f))/\PySem.Within b (fs.map (·.1))/\fs.length<=1000/\H dx=some (.own a):=by
 obtain⟨d,z,g,i,b,n,r,q⟩:=(show BE P w H h a (.ins C dx fs)from c a _ e)
 exact⟨b,⟨i,n,g⟩,r,q,z,d⟩
end
structure Cls(K:O_)(C:R_):Prop where
pg:plainGet K C Str.empty=true
hd:hasDictIn K C=true
po:plainOver K C=true
sa:findIn K (.ref C) "__setattr__" = some (some (.builtin "object.__setattr__"))
theorem Cls.get{K:O_}{C:R_}(c:Cls K C)(f:Str):plainGet K C f=true:=c.pg
def BN(K:O_)(C:R_)(f:Str):Prop:=findIn K (.ref C) f=some none
theorem BN.taker{K:O_}{C:R_}{f:Str}(n:BN K C f):takerIn K C f=some none:=by
 unfold takerIn;rw[show findIn K (.ref C) f=some none from n];rfl
structure Qr(K:O_)(C:R_)(m:Str)(f:R_):Prop where
at_:findIn K (.ref C) m=some (some (.ref f))
fn:isFn K (.ref f)=true
kp:keepIn K (.ref f)=true
section
variable{X:Cx}{pins:A_}{σ:St}{H:Hp}{s:P_}{a C dx:R_}{fs:List (Str×V)}{f:Str}{v:V}{A:Around}{E:B_}
theorem Vo{b:Bool}{Q:B_}(I:Inv X pins σ H s)(e:H a=some (.ins C dx fs))(c:Cls X.K C)(n:BN X.K C f)(l:fs.lookup f=some v)
  (h:∀u g,Inv X pins σ H g->Bd v u->Q u g):wpAny (model X.prog X.w) A (getAttr (.ref a) f b) Q E s:=by
 obtain⟨j,O,r,_,_,_⟩:=OG I.hok e;obtain⟨u,i,d⟩:=Jl.some_of (v:=v) (o:=j f) (by rw[<-l];exact r f);exact get_map I.kIn O (c.get f) c.hd n i (YW d) (h u _ (I.tok _) d)
theorem Vn{m:Str}{g:R_}{pl:Sem Bool}{Q:Value×List Value->Shared->Prop}(I:Inv X pins σ H s)(e:H a=some (.ins C dx fs))(c:Cls X.K C)(k:Qr X.K C m g)(l:fs.lookup m=none)
  (h:Q (.ref g,[.ref a]) s):wpAny (model X.prog X.w) A (getMethod (.ref a) m pl) Q E s:=by
 obtain⟨d,O,r,_,_,_⟩:=OG I.hok e;have b:d m=none:=Jl.none_of (by rw[<-l];exact r m);exact get_meth I.kIn O (c.get m) k.at_ k.fn b h
theorem UK{y:V}{u:S_}{Q:Unit->Shared->Prop}(I:Inv X pins σ H s)(e:H a=some (.ins C dx fs))(c:Cls X.K C)(n:BN X.K C f)(G:fs.length<1000)(D:Bd y u)
  (h:∀l,Inv X pins σ (upd H a (.ins C dx (AW f y fs))) l->Q () l):wpAny (model X.prog X.w) A (setAttr (.ref a) f u) Q E s:=by
 obtain⟨k,O,r,m,_,j⟩:=OG I.hok e;have B:(fs.map (·.1)).length<=sizeLine:=by rw[B6,sizeLine_eq];lia
 refine set_map I.kIn O c.sa c.po n.taker c.hd m B λh' d F=>h _ ?_;have i:∃o,h'.get? dx=some o:=let ⟨o,_,_,e',_⟩:=d.ns;⟨o,e'⟩;refine I.write (x:=a) (e:=dx) (by rw[e];exact True.intro) (.inr j) (λb q p z=>(F.2 b p).trans z) i ?_;refine⟨by rw[As O.ne];exact j,?_,O.ne,d.obj,_,d.ns,λg=>?_,λg t=>?_⟩
 .have:=BH f y fs;lia
 .show Jl ((AW f y fs).lookup g) (if g=f then some u else k g);rw[An];by_cases q:g=f
  .rw[Z7 q,Z7 q];exact D
  .rw[Z4 q,Z4 q];exact r g
 .by_cases q:g=f
  .rw[q];exact(NH f y fs).1
  .refine(NH f y fs).2 g (m g λz=>t ?_);show(if g=f then some u else k g)=none;rw[Z4 q];exact z
theorem Inv.made(I:Inv X pins σ H s):Inv X pins σ (upd (upd H s.heap.objs.size (.own (s.heap.objs.size+1))) (s.heap.objs.size+1) (.ins C s.heap.objs.size []))
  {s with heap:=(s.heap.push emptyDict).push (instObj C s.heap.objs.size)}:=by
 have c:(s.heap.push emptyDict).get? s.heap.objs.size=some emptyDict:=D0 s.heap Z;have h:((s.heap.push emptyDict).push (instObj C s.heap.objs.size)).get? (s.heap.objs.size+1)=some (instObj C s.heap.objs.size):=by
  have:=D0 (s.heap.push emptyDict) (o:=instObj C s.heap.objs.size) Z
  rwa [O6]at this
 have i:(s.heap.push emptyDict).Ns s.heap.objs.size (λ_=>none):=⟨emptyDict,#[],_,c,Z,(λe j=>absurd j A6),λ_=>Z⟩
 have g:=I.laid (a:=s.heap.objs.size) (o:=.own (s.heap.objs.size+1)) (h':=s.heap.push emptyDict) (t':=s.toks) (λb u q=>B9 _ q) (C0 _) ⟨_,c⟩;refine g.laid (a:=s.heap.objs.size+1) (o:=.ins C s.heap.objs.size []) (t':=s.toks) (λb u q=>B9 _ q) (Nat.le_of_eq (O6 _ _)) ?_;have d:s.heap.objs.size≠s.heap.objs.size+1:=F2 (T0 _);refine⟨by rw[As d,Ag],J0 _,d,h,λ_=>none,(Heap.Ns1.of_empty i).at λo q=>B9 _ q,λ_=>True.intro,λy k=>absurd rfl k⟩
theorem attr_of{prog:N_}{w:Q_}{b:Env}{e:Expr}{f:Str}{pos:Pos}{s:P_}{Q:B_}(d:attributeBase e f b (eval e b)=eval e b)
  (h:wpAny (model prog w) A (eval e b) (λo c=>wpAny (model prog w) A (getAttr o f true) Q E c) E s):wpAny (model prog w) A (eval (.Attribute e f pos) b) Q E s :=
 Attribute_any_ h (by rw[arm_eval_Attribute,d])
end
def tFld(K:O_)(ta:TE)(f:Str):TE:=fun σ H Q=>ta σ H λx H1=>∃a C dx fs v,x=.ref a/\H1 a=some (.ins C dx fs)/\Cls K C/\BN K C f/\fs.lookup f=some v/\Q v H1
def sFld(K:O_)(ta tv:TE)(f:Str):TS:=λD σ H=>tv σ H λy H1=>ta σ H1 λx H2=>∃a C dx fs,x=.ref a/\H2 a=some (.ins C dx fs)/\Cls K C/\BN K C f/\fs.length<1000 /\
 D.nx σ (upd H2 a (.ins C dx (AW f y fs)))
section
variable{X:Cx}{o e value:Expr}{f:Str}{pos pos' tpos:Pos}{ta tv:TE}
theorem AB(p:PE X e ta)(m:attributeBase e f X.env (eval e X.env)=eval e X.env):PE X (.Attribute e f pos) (tFld X.K ta f):=by
 intro b s σ H Q I h;refine attr_of m (thn (p b s σ H _ I h) λu w ⟨x,d,g,t,a,C,dx,fs,v,k,j,c,n,l,q⟩=>?_);subst k;obtain rfl:u=Value.ref a:=t;exact Vo g j c n l λz y i r=>⟨v,d,i,r,q⟩
theorem Cv(p:PE X o ta)(t:PE X value tv)(r:swapsWith value (some (.Attribute o f pos')) pos.line X.env=pure false):PS X (.Assign [.Attribute o f pos'] value pos) (sFld X.K ta tv f):=by
 intro b s σ H D I h;refine plainObj_wpAny_Assign_Attribute (thn (t b s σ H _ I h) λu B ⟨y,d,g,A,q⟩=>thn (p b B σ d _ g q) λv F ⟨x,E,i,z,a,C,dx,fs,m,k,c,n,l,w⟩=>?_) r;subst m;obtain rfl:v=Value.ref a:=z;exact UK i k c n l A λG j=>⟨σ,_,j,w⟩
end
section
variable{X:Cx}{pins:A_}{σ:St}{H:Hp}{s:P_}{A:Around}{E:B_}{Q:B_}{c:S_}{b:Bool}
inductive NN(K:O_)(H:Hp):V->Value->Prop where
|non:NN K H .non (.type "NoneType")
|bl (x:Bool):NN K H (.bl x) (.type "bool")
|int (i:Int):NN K H (.int i) (.type "int")
|str (x:Str):NN K H (.str x) (.type "str")
|flt (x:UInt64):NN K H (.flt x) (.type "float")
|lst {a:R_} {xs:List V} (e:H a=some (.lst xs)):NN K H (.ref a) (.type "list")
|frz {a:R_} {o:Obj} {xs:List V} (e:H a=some (.frz o (.lst xs))):NN K H (.ref a) (.type "list")
|tup {a:R_} {xs:List V} (e:H a=some (.tup xs)):NN K H (.ref a) (.type "tuple")
|dK {a:R_} {kvs:List (Key×V)} (e:H a=some (.dK kvs)):NN K H (.ref a) (.type "dict")
|dT {a:R_} {kvs:List (List Key×V)} (e:H a=some (.dT kvs)):NN K H (.ref a) (.type "dict")
|ins {a C dx:R_} {fs:List (Str×V)} (e:H a=some (.ins C dx fs)) (cl:Cls K C) (ha:findIn K (.ref C) "__class__" = some (some (.builtin "object.__class__")))
  (hn:specialIn K (.builtin "object.__class__") "__get__" = some (some (.builtin "getset_descriptor.__get__"))) (htk:takesIn K (.builtin "object.__class__")=some true)
  (hm:mroIn K C (.type "object")=some true):NN K H (.ref a) (.ref C)
theorem YS{x:V}{u t:S_}(I:Inv X pins σ H s)(f:Bd x u)(ty:NN X.K H x t)(e:kitOne X.K t c=some b)(h:∀tk,Q (.bool b) {s with toks:=tk}) :
  wpAny (model X.prog X.w) A (call (.builtin "isinstance") [u,c]) Q E s:=by
 cases ty with
 |non=>cases(show u=Value.none from f);exact A0a W.kitx_none I.kIn True.intro e (λz=>nomatch z) h
 |bl y=>cases(show u=Value.bool y from f);exact A0a W.kitx_bool I.kIn True.intro e (λz=>nomatch z) h
 |int i=>obtain⟨t,q⟩:=(show ∃t,u=Value.int i t from f);cases q;exact A0a W.kitx_int I.kIn True.intro e (λz=>nomatch z) h
 |str y=>obtain⟨t,q⟩:=(show ∃t,u=Value.str y t from f);cases q;exact A0a W.kitx_str I.kIn True.intro e (λz=>nomatch z) h
 |flt y=>obtain⟨t,q⟩:=(show ∃t,u=Value.float y t from f);cases q;exact A0a W.kitx_float I.kIn True.intro e (λz=>nomatch z) h
 |@lst a xs d =>
  cases(show u=Value.ref a from f);obtain⟨_,_,n,_,g⟩:=(show BE X.prog X.w H s.heap a (.lst xs)from I.hok a _ d)
  exact A0a kitx_list I.kIn ⟨_,g,Z⟩ e (λz=>nomatch z) h
 |@frz a F xs d =>
  cases(show u=Value.ref a from f);obtain⟨_,_,_,n,_,g⟩:=(show BE X.prog X.w H s.heap a (.frz F (.lst xs))from I.hok a _ d)
  exact A0a kitx_list I.kIn ⟨_,g,Z⟩ e (λz=>nomatch z) h
 |@tup a xs d =>
  cases(show u=Value.ref a from f);obtain⟨_,_,_,p⟩:=(show BE X.prog X.w H s.heap a (.tup xs)from I.hok a _ d)
  obtain⟨o,g,j,_⟩:=p;exact A0a W.kitx_tuple I.kIn ⟨o,g,j⟩ e (λz=>nomatch z) h
 |@dK a kvs d =>
  cases(show u=Value.ref a from f);obtain⟨_,_,vs,_,p⟩:=(show BE X.prog X.w H s.heap a (.dK kvs)from I.hok a _ d)
  obtain⟨o,r,m,g,j,_⟩:=p;exact A0a kitx_dict I.kIn ⟨o,g,j.1⟩ e (λz=>nomatch z) h
 |@dT a kvs d =>
  cases(show u=Value.ref a from f);obtain⟨_,_,xs,_,o,r,m,g,j,_⟩:=(show BE X.prog X.w H s.heap a (.dT kvs)from I.hok a _ d)
  exact A0a kitx_dict I.kIn ⟨o,g,j.1⟩ e (λz=>nomatch z) h
 |@ins a C dx fs d l v D k B =>
  cases(show u=Value.ref a from f);obtain⟨G,O,_⟩:=OG I.hok d;obtain⟨L,J,_⟩:=O.look;exact A0a (W.kitx_own (l.get _) l.hd v D k B) I.kIn J e (λz=>nomatch z) h
end
structure CM(k:Nat)(A:Around):Prop where
hd:A.handled=none
dp:A.depth+3*k+5<recursionLimit
un:A.units+16*k+200<cLine
theorem CM.mono{j k:Nat}{A:Around}(r:CM k A)(h:j<=k):CM j A:=⟨r.hd,by have:=r.dp;lia,by have:=r.un;lia⟩
theorem CM.deeper{k:Nat}{A:Around}(r:CM (k+1) A)(a:Env):CM k (A.deeper a) :=
 ⟨r.hd,by have:=r.dp;show A.depth+1+3*k+5<_;lia,by have:=r.un;show A.units+3+16*k+200<_;lia⟩
theorem CM.in1{k:Nat}{A:Around}(r:CM (k+1) A):CM k A.in1 :=
 ⟨r.hd,by have:=r.dp;show A.depth+3*k+5<_;lia,by have:=r.un;show A.units+1+16*k+200<_;lia⟩
theorem Vh{A:Around}{C:R_}{us:F_}{kw:List (Str×Value)}:(A.under (.builtin "type.__call__" ⟨.ref C::us,kw⟩)).depth=A.depth+1:=by
 first|rfl|simp[Around.under,Code.weight,Code.isCreation,Code.isGuard,Code.isCaller,Code.frames,Code.isFrame,guardIds]
theorem Vg{A:Around}{C:R_}{us:F_}{kw:List (Str×Value)}:(A.under (.builtin "type.__call__" ⟨.ref C::us,kw⟩)).units=A.units+1:=by
 first|rfl|simp[Around.under,Code.cUnits,Code.frames,Code.isFrame]
theorem CM.make{k:Nat}{A:Around}(r:CM (k+1) A)(C:R_)(us:F_)(kw:List (Str×Value)):CM k (A.under (.builtin "type.__call__" ⟨.ref C::us,kw⟩)) :=
 ⟨r.hd,by have:=r.dp;rw[Vh];lia,by have:=r.un;rw[Vg];lia⟩
theorem CM.depth{k:Nat}{A:Around}(r:CM k A):A.depth<recursionLimit:=by have:=r.dp;lia
theorem CM.units{k:Nat}{A:Around}(r:CM k A):A.units+64<cLine:=by have:=r.un;lia
def Qt:TA:=λ_ H Q=>Q [] H
def CN(ta:TE)(tr:TA):TA:=fun σ H Q=>ta σ H λx H1=>tr σ H1 λxs H2=>Q (x::xs) H2
section
variable{X:Cx}{e:Expr}{es:List Expr}{te:TE}{t:TA}{pos:Pos}
theorem Ac:PA X [] Qt:=λ_ _ _ _ H Q I h=>Calls.spliced_nil ⟨[],H,I,.nil,h⟩
theorem Aa(g:PE X e te)(i:PA X es t)(j:starEach (e::es) X.env=(false,eval e X.env)::starEach es X.env:=by rfl):PA X (e::es) (CN te t):=by
 intro pos a s σ H Q I h;rw[j];show wpAny _ _ (spliced ((false,eval e X.env)::backTo pos (starEach es X.env))) _ _ s;refine A7b (thn (g a s σ H _ I h) λu o ⟨x,b,d,m,k⟩=>?_);exact thn (i pos a o σ b _ d k) λus p ⟨xs,c,f,n,l⟩=>⟨x::xs,c,f,.cons m n,l⟩
def Zq(t:TA):TE:=fun σ H Q=>t σ H λxs H1=>xs.length<=sizeLine/\∀p,H1 p=none->Q (.ref p) (upd H1 p (.tup xs))
def tLst(t:TA):TE:=fun σ H Q=>t σ H λxs H1=>xs.length<=sizeLine/\∀p,H1 p=none->Q (.ref p) (upd H1 p (.lst xs))
theorem Dx{x1}(h:PA X es t):PE X (.Tuple es x1 pos) (Zq t):=by
 intro a s σ H Q I i;refine wpAny_Tuple_spliced (thn (h pos a s σ H _ I i) λus c ⟨xs,d,f,r,z,q⟩=>⟨by rw[<-r.length];exact z,?_⟩);have g:d c.heap.objs.size=none:=f.hok.fresh (C0 _);refine⟨.ref c.heap.objs.size,upd d c.heap.objs.size (.tup xs),f.laid (t':=c.toks) (λb u e=>B9 _ e) (C0 _) ?_,Z,q _ g⟩;exact⟨z,us,r,⟨_,D0 _ Z,Z,_,Z⟩⟩
theorem CL(h:PA X es t):PE X (.List es pos) (tLst t):=by
 intro a s σ H Q I i;refine wpAny_List_spliced (thn (h pos a s σ H _ I i) λus c ⟨xs,d,f,r,z,q⟩=>⟨by rw[<-r.length];exact z,?_⟩);have g:d c.heap.objs.size=none:=f.hok.fresh (C0 _);refine⟨.ref c.heap.objs.size,upd d c.heap.objs.size (.lst xs),f.laid (t':=c.toks) (λb u e=>B9 _ e) (C0 _) ?_,Z,q _ g⟩;exact⟨z,us,0,r,D0 _ Z⟩
end
abbrev Sp:=List V->Hp->VK->XK->Prop
abbrev CXT:=List Env->Hp->Shared->XK->Value->Shared->Prop
structure Op(P:N_)(w:Q_)(K:O_)(mg:C_)(base:T_)(A:Around)(outer:List Env)(s:P_)(H:Hp):Prop where
frames:A.frames=some outer
mod:Mod K mg base
bs:∀b o,base.get? b=some o->s.heap.get? b=some o/\H b=none
bsz:base.objs.size<=s.heap.objs.size
funs:s.heap.FunFrames base outer
frf:∀b∈frs outer,H b=none
hok:HOk P w H s.heap
bare:AllBare s.gens
def CE(outer:List Env)(P:N_)(w:Q_)(H:Hp)(s:P_)(Q:VK)(u:S_)(s':P_):Prop :=
 ∃v H',s'.os=s.os/\AllBare s'.gens/\Un (frs outer) [] H H' s.heap s'.heap/\HOk P w H' s'.heap/\Bd v u/\Q v H'
def CR(CX:CXT)(outer:List Env)(P:N_)(w:Q_)(H:Hp)(s:P_)(Q:VK)(E:XK)(r:Result)(s':P_):Prop :=
 match r with
 |.ok (.ret u)=>CE outer P w H s Q u s'
 |.ok _=>False
 |.error e=>CX outer H s E e s'
structure AN(P:N_)(w:Q_)(K:O_)(mg:C_)(base:T_)(CX:CXT)(k:Nat)(f:R_)(fd:E_)(ps:K_)(sp:Sp):Prop where
len:∀vs H Q E,sp vs H Q E->vs.length=ps.length
run:∀(A:Around)(outer:List Env)(s:P_)(H:Hp)(args:Args)(us:F_)(vs:List V)(Q:VK)(E:XK),CM k A->Op P w K mg base A outer s H->BindsTo s fd args (ps.zip us)->AR vs us->sp vs H Q E ->
 codeAny (model P w) A (.call (.ref f) args) (CR CX outer P w H s Q E) s
theorem AN.imp{P:N_}{w:Q_}{K:O_}{g:C_}{a:T_}{CX:CXT}{k:Nat}{f:R_}{e:E_}{i:K_}{sp d:Sp}(F:AN P w K g a CX k f e i sp)
  (h:∀vs H Q E,d vs H Q E->sp vs H Q E):AN P w K g a CX k f e i d :=
 ⟨λvs H Q E q=>F.len vs H Q E (h _ _ _ _ q),λA b s H c us vs Q E m l j o n=>F.run A b s H c us vs Q E m l j o (h _ _ _ _ n)⟩
theorem Op.make{P:N_}{w:Q_}{K:O_}{c:C_}{b:T_}{A:Around}{a:List Env}{s:P_}{H:Hp}(e:Op P w K c b A a s H)(C:R_)(us:F_)(kw:List (Str×Value)) :
 Op P w K c b (A.under (.builtin "type.__call__" ⟨.ref C::us,kw⟩)) a s H:=⟨by first|exact e.frames|(simpa[Around.under,Code.envs,Code.isFrame,pushEnvs] using e.frames),e.mod,e.bs,e.bsz,e.funs,e.frf,e.hok,e.bare⟩
theorem Op.in1{P:N_}{w:Q_}{K:O_}{c:C_}{b:T_}{A:Around}{a:List Env}{s:P_}{H:Hp}(e:Op P w K c b A a s H) :
 Op P w K c b A.in1 a s H:=⟨e.frames,e.mod,e.bs,e.bsz,e.funs,e.frf,e.hok,e.bare⟩
section
variable{X:Cx}{pins:A_}{σ:St}{H:Hp}{s s':P_}
theorem Inv.env0(I:Inv X pins σ H s):Op X.prog X.w X.K X.mg X.base X.A X.stack s H :=
 ⟨I.ok.frames,I.ok.mod,I.bs,C9 I.ok.bsz I.sz,I.stack,I.stkFree,I.hok,I.bare⟩
theorem Inv.after{Q:VK}{u:S_}(I:Inv X pins σ H s)(h:CE X.stack X.prog X.w H s Q u s'):EP X pins σ Q u s':=by
 obtain⟨v,f,e,bare,un,a,r,q⟩:=h;obtain⟨i,g,d,t,c⟩:=s';obtain rfl:c=s.os:=e;exact⟨v,f,I.call (h':=i) (g':=g) (d':=d) (t':=t) (ch:=[]) un a bare (λb z=>absurd z A6),r,q⟩
end
def tCall(sp:Sp)(dvs:List V)(E:XK)(t:TA):TE:=fun σ H Q=>t σ H λvs H1=>sp (vs++dvs) H1 Q E
def VI(C:R_)(m:Str)(sp:Sp)(dvs:List V)(E:XK)(ta:TE)(t:TA):TE:=fun σ H Q=>ta σ H λx H1=>∃a dx fs,x=.ref a/\H1 a=some (.ins C dx fs)/\fs.lookup m=none /\
 t σ H1 λvs H2=>sp (x::(vs++dvs)) H2 Q E
def VJ(C:R_)(sp:Sp)(dvs:List V)(E:XK)(t:TA):TE:=fun σ H Q=>t σ H λvs H1=>∀x dx,H1 x=none->H1 dx=none->dx≠x ->
 sp (.ref x::(vs++dvs)) (upd (upd H1 dx (.own x)) x (.ins C dx [])) (λv H2=>v=.non/\Q (.ref x) H2) E
def Ci(K:O_)(fd:E_)(ps:K_)(ds:F_):Prop :=
 ∀(s:P_)(us:F_),K.In s.heap->(us++ds).length=ps.length->BindsTo s fd ⟨us,[]⟩ (ps.zip (us++ds))
theorem Ci.all{K:O_}{b:E_}{a:K_}(h:∀us:List Value,us.length=a.length->bindArgs b ⟨us,[]⟩=pure (a.zip us)):Ci K b a []:=λs us _ c=>by
 rw[P0]at c⊢;exact .of_eq (h us c)
def Gz(CX:CXT)(X:Cx)(E:XK):Prop:=∀(pins:A_)(σ:St)(H:Hp)(s:P_)(e:S_)(s':P_),Inv X pins σ H s->CX X.stack H s E e s'->X.xe e s'
section
variable{X:Cx}{CX:CXT}{k:Nat}{f C:R_}{fd:E_}{ps:K_}{sp:Sp}{dvs:List V}{ds:F_}{E:XK}{x m:Str}{p pos apos:Pos}{e o:Expr}{es:List Expr}{ta:TE}{t:TA}
theorem ZO{a:A_}{σ:St}{H:Hp}{s:P_}{Q:VK}{us:F_}{vs:List V}(F:AN X.prog X.w X.K X.mg X.base CX k f fd ps sp)(l:CM k X.A)(g:Ci X.K fd ps ds)(i:AR dvs ds)(n:Gz CX X E)
  (I:Inv X a σ H s) (r:AR vs us) (h:sp (vs++dvs) H Q E):wpAny (model X.prog X.w) X.A (call (.ref f) us) (EP X a σ Q) X.xe s:=by
 have c:AR (vs++dvs) (us++ds):=r.append i;have j:(us++ds).length=ps.length:=by rw[<-c.length];exact F.len _ _ _ _ h
 refine wpAny_call (A5d (F.run X.A X.stack s H ⟨us,[]⟩ (us++ds) (vs++dvs) Q E l I.env0 (g s us I.kIn j) c h) λr q b=>?_);cases r with
 |error e=>exact n a σ H s e q I b
 |ok d =>
  cases d with
  |ret u=>exact I.after b
  |next=>exact False.elim b
  |brk=>exact False.elim b
  |cont=>exact False.elim b
theorem pe_call(F:AN X.prog X.w X.K X.mg X.base CX k f fd ps sp)(y:CM k X.A)(n:Gl X x)(v:X.mg x=some (.ref f))(u:keepIn X.K (.ref f)=true)(i:Ci X.K fd ps ds)(j:AR dvs ds)(z:Gz CX X E)
  (g:PA X (e::es) t) (b:(x==("__debug__" : Str))=false:=by decide) (l:starEach (e::es) X.env=(false,eval e X.env)::starEach es X.env:=by rfl) (c:(backTo pos (starEach es X.env)).any (·.1)=false:=by rfl) :
  PE X (.Call (.Name x p) (e::es) [] pos) (tCall sp dvs E t):=by
 intro a s σ H Q I h;refine A2d (OF I n v ?_ b);refine A6a (h₀:=X.base) I.ok.mod.kin u (thn (g pos a s σ H _ I h) λus D ⟨vs,B,d,r,q⟩=>⟨d.kIn,?_⟩) l c;exact ZO F y i j z d r q
theorem pe_meth{pl:Sem Bool}(M:PE X o ta)(c:Cls X.K C)(n:Qr X.K C m f)(F:AN X.prog X.w X.K X.mg X.base CX k f fd ps sp)(N:CM k X.A)(G:Ci X.K fd ps ds)(L:AR dvs ds)(P:Gz CX X E)(D:PA X (e::es) t)
  (g:starEach (e::es) X.env=(false,eval e X.env)::starEach es X.env:=by rfl) (d:(backTo pos (starEach es X.env)).any (·.1)=false:=by rfl)
  (O:eval (.Call (.Attribute o m apos) (e::es) [] pos) X.env=(do
   let v <-eval o X.env
   standAt apos.atName
   let (f,first) <-holding [v] (getMethod v m pl)
   callWith pos f first (backTo pos (starEach (e::es) X.env)) (backToKw pos (keywordEach [] X.env))):=by rfl) :
  PE X (.Call (.Attribute o m apos) (e::es) [] pos) (VI C m sp dvs E ta t):=by
 intro b s σ H Q I h;refine W.methodCall_KW (pl:=pl) (thn (M b s σ H _ I h) λu T ⟨x,y,i,S,a,dx,fs,B,z,l,q⟩=>?_) O;subst B;obtain rfl:u=Value.ref a:=S;refine Vn i z c n l ?_;refine A6a (first:=[.ref a]) (h₀:=X.base) I.ok.mod.kin n.kp (thn (D pos b T σ y _ i q) λus V ⟨vs,U,j,r,R⟩=>⟨j.kIn,?_⟩) g d;exact ZO (us:=.ref a::us) (vs:=.ref a::vs) F N G L P j (.cons Z r) R
structure Mk(K:O_)(C f:R_):Prop where
makes:makesIn K C=true
init:findIn K (.ref C) "__init__" = some (some (.ref f))
fn:isFn K (.ref f)=true
kp:keepIn K (.ref C)=true
theorem Tk{b:A_}{σ:St}{H:Hp}{s:P_}{Q:VK}{us:F_}{vs:List V}(M:Mk X.K C f)(F:AN X.prog X.w X.K X.mg X.base CX k f fd ps sp)(D:CM (k+1) X.A)(y:Ci X.K fd ps ds)(z:AR dvs ds)
  (G:Gz CX X E) (I:Inv X b σ H s) (r:AR vs us)
  (h:∀x dx,H x=none->H dx=none->dx≠x->sp (.ref x::(vs++dvs)) (upd (upd H dx (.own x)) x (.ins C dx [])) (λv j=>v=.non/\Q (.ref x) j) E) :
  wpAny (model X.prog X.w) X.A (call (.ref C) us) (EP X b σ Q) X.xe s:=by
 have d:=h (s.heap.objs.size+1) s.heap.objs.size (I.hok.fresh (S0 _)) (I.hok.fresh (C0 _)) (F2 (T0 _));have c:=Inv.made (C:=C) I;have g:AR (V.ref (s.heap.objs.size+1)::(vs++dvs)) (Value.ref (s.heap.objs.size+1)::(us++ds)):=.cons Z (r.append z);have B:(Value.ref (s.heap.objs.size+1)::us++ds).length=ps.length:=by
  have e:=g.length;rw[F.len _ _ _ _ d]at e;exact e.symm
 refine wpAny_call (make_map (f:=f) I.kIn M.makes M.init (beq_iff_eq.mp M.fn) (A5d (F.run _ X.stack _ _ ⟨Value.ref (s.heap.objs.size+1)::us,[]⟩ (Value.ref (s.heap.objs.size+1)::(us++ds)) _ _ E (D.make C us [])
  (c.env0.make C us []) (y _ (Value.ref (s.heap.objs.size+1)::us) c.kIn B) g d) λr O a=>?_))
 cases r with
 |error e=>exact G b σ _ _ e O c a
 |ok q =>
  cases q with
  |ret u =>
   obtain⟨v,i,l,N,n,L⟩:=c.after a;subst n;exact⟨N,⟨V.ref (s.heap.objs.size+1),i,l,Z,L⟩⟩
  |next=>exact False.elim a
  |brk=>exact False.elim a
  |cont=>exact False.elim a
theorem pe_make(M:Mk X.K C f)(F:AN X.prog X.w X.K X.mg X.base CX k f fd ps sp)(v:CM (k+1) X.A)(n:Gl X x)(u:X.mg x=some (.ref C))(i:Ci X.K fd ps ds)(j:AR dvs ds)(y:Gz CX X E)
  (g:PA X (e::es) t) (b:(x==("__debug__" : Str))=false:=by decide) (l:starEach (e::es) X.env=(false,eval e X.env)::starEach es X.env:=by rfl) (c:(backTo pos (starEach es X.env)).any (·.1)=false:=by rfl) :
  PE X (.Call (.Name x p) (e::es) [] pos) (VJ C sp dvs E t):=by
 intro a s σ H Q I h;refine A2d (OF I n u ?_ b);refine A6a (h₀:=X.base) I.ok.mod.kin M.kp (thn (g pos a s σ H _ I h) λus B ⟨vs,z,d,r,q⟩=>⟨d.kIn,?_⟩) l c;exact Tk M F v i j y d r q
theorem pe_make0(M:Mk X.K C f)(F:AN X.prog X.w X.K X.mg X.base CX k f fd ps sp)(j:CM (k+1) X.A)(g:Gl X x)(i:X.mg x=some (.ref C))(c:Ci X.K fd ps ds)(d:AR dvs ds)(l:Gz CX X E)
  (a:(x==("__debug__" : Str))=false:=by decide):PE X (.Call (.Name x p) [] [] pos) (VJ C sp dvs E Qt):=by
 intro b s σ H Q I h;refine A2d (OF I g i ?_ a);exact W.callWith_K0 I.kIn M.kp (Tk (us:=[]) M F j c d l I .nil h)
end
def PK(X:Cx)(kws:List Keyword)(t:TA):Prop :=
 ∀(pos:Pos)(pins:A_)(s:P_)(σ:St)(H:Hp)(Q:List V->Hp->Prop),Inv X pins σ H s->t σ H Q->wpAny (model X.prog X.w) X.A (evalAll ((backToKw pos (keywordEach kws X.env)).map (·.2))) (AP X pins σ Q) X.xe s
section
variable{X:Cx}{CX:CXT}{k:Nat}{f C:R_}{fd:E_}{ps ks:K_}{sp:Sp}{E:XK}{x m:Str}{p pos apos kpos:Pos}{e o:Expr}{es:List Expr}{kws:List Keyword}{te ta:TE}{t tk:TA}{nm:Option Str}
theorem pk_nil:PK X [] Qt:=λ_ _ _ _ H Q I h=>wpAny_evalAll_nil ⟨[],H,I,.nil,h⟩
theorem pk_cons(i:PE X e te)(j:PK X kws t):PK X (⟨nm,e,kpos⟩::kws) (CN te t):=by
 intro pos a s σ H Q I h;show wpAny _ _ (evalAll ((do let v <-eval e X.env;standAt pos;pure v)::(backToKw pos (keywordEach kws X.env)).map (·.2))) _ _ s;refine wpAny_evalAll_cons (Z3 (thn (i a s σ H _ I h) λu w ⟨x,b,d,q,l⟩=>Z3 (A6h (Z6 ?_))));exact thn (j pos a w σ b _ d l) λus y ⟨xs,c,g,r,n⟩=>⟨x::xs,c,g,.cons q r,n⟩
variable{g:List Value->List Value->List Value}{gV:List V->List V->List V}
end
structure Ar(N P:K_)(sc:Scope):Prop where
kind:sc.kind=.function
co:sc.isCoroutine=false
gen:sc.isGenerator=false
nd:N.Nodup
pre:N.take P.length=P
par:∀x∈P,sc.names.lookup x=some .local\/sc.names.lookup x=some .cell
nofree:∀y∈sc.names,y.2≠.free
theorem Rs{a:Str->Option NameKind}{x:Str}:∀{binds:List (Str×Value)}{m:C_},(∀v,(x,v)∉binds)->bindL a binds m x=m x
|[],_,_=>rfl
| (n,v)::r,m,h=>by
 unfold bindL;rw[Rs λw b=>h w (C4 _ b)];split
 .have:x≠n:=by rintro rfl;exact h v C2
  simp[this]
 .rfl
theorem Ru{a:Str->Option NameKind}{x:Str}:∀{binds:List (Str×Value)}{m:C_},(∀v,(x,v)∉binds)->bindC a binds m x=m x
|[],_,_=>rfl
| (n,v)::r,m,h=>by
 unfold bindC;rw[Ru λw b=>h w (C4 _ b)];split
 .rfl
 .have:x≠n:=by rintro rfl;exact h v C2
  simp[this]
theorem Rt{a:Str->Option NameKind}{x:Str}{v:S_}:∀{P:K_}{vs:F_}{i:Nat}{m:C_},P.Nodup->P[i]?=some x->vs[i]?=some v->a x=some .local ->
 bindL a (P.zip vs) m x=some v
|[],_,_,_,_,h,_,_=>by simp at h
|_::_,[],_,_,_,_,h,_=>by simp at h
|p::P,w::vs,0,m,nd,h1,h2,hk=>by
 simp at h1 h2;subst h1;subst h2;show bindL a ((p,w)::P.zip vs) m p=_;unfold bindL;rw[Rs λv b=>(M6.mp nd).1 (List.of_mem_zip b).1,Z7 hk];simp
|p::P,w::vs,i+1,m,nd,h1,h2,hk=>by
 show bindL a ((p,w)::P.zip vs) m x=_;unfold bindL;exact Rt (i:=i) (M6.mp nd).2 (by simpa using h1) (by simpa using h2) hk
theorem Rv{a:Str->Option NameKind}{x:Str}{v:S_}:∀{P:K_}{vs:F_}{i:Nat}{m:C_},P.Nodup->P[i]?=some x->vs[i]?=some v->a x≠some .local ->
 bindC a (P.zip vs) m x=some v
|[],_,_,_,_,h,_,_=>by simp at h
|_::_,[],_,_,_,_,h,_=>by simp at h
|p::P,w::vs,0,m,nd,h1,h2,hk=>by
 simp at h1 h2;subst h1;subst h2;show bindC a ((p,w)::P.zip vs) m p=_;unfold bindC;rw[Ru λv b=>(M6.mp nd).1 (List.of_mem_zip b).1,Z4 hk];simp
|p::P,w::vs,i+1,m,nd,h1,h2,hk=>by
 show bindC a ((p,w)::P.zip vs) m x=_;unfold bindC;exact Rv (i:=i) (M6.mp nd).2 (by simpa using h1) (by simpa using h2) hk
noncomputable def NR(N:K_)(vs:List V):St:=vs.map some++List.replicate (N.length-vs.length) none
noncomputable def Zd(CX:CXT)(P:N_)(w:Q_)(K:O_)(mg:C_)(base:T_)(N:K_)(qual:Str)(scope:Scope)(f:R_)(cd:S_)(A:Around)(outer:List Env)(s:P_)(H:Hp)(E:XK):Cx where
 prog:=P
 w:=w
 K:=K
 mg:=mg
 base:=base
 A:=A.deeper (envOfC qual scope s.heap.objs.size f cd)
 N:=N
 s₀:=s
 H₀:=H
 env:=envOfC qual scope s.heap.objs.size f cd
 outer:=outer
 stack:=envOfC qual scope s.heap.objs.size f cd::outer
 ex:=[]
 calm:=true
 fn:=λ_=>true
 pn:=[]
 xe:=λe s'=>wpAny (model P w) (A.deeper (envOfC qual scope s.heap.objs.size f cd)) (leaving (envOfC qual scope s.heap.objs.size f cd) e) (λ_ s''=>CX outer H s E e s'') (λe' s''=>CX outer H s E e' s'') s'
theorem Um{a:Scope}{n:Nat}{x:Str}(h:a.names.lookup x=some .cell):∃c,(cellsFrom n a.names []).lookup x=some c:=by
 have q:=W.cellsFrom_some a.names n [] (.inl h);exact Option.isSome_iff_exists.mp q
theorem YT{CX:CXT}{P:N_}{w:Q_}{K:O_}{M:C_}{m:T_}{N C:K_}{j:Str}{d:Scope}{f:R_}{G:S_}{A:Around}{g:List Env}{s R:P_}{H:Hp}{E:XK}{us:F_}{vs:List V}
  (S:Ar N C d) (U:A.handled=none) (o:Op P w K M m A g s H) (hl:vs.length=C.length) (r:AR vs us)
  (x:InCallC s s.heap.objs.size (bindL (envOfC j d s.heap.objs.size f G).kindOf (C.zip us) λ_=>none) (cellsFrom (s.heap.objs.size+1) d.names []) (bindC (envOfC j d s.heap.objs.size f G).kindOf (C.zip us) λ_=>none) R) :
  Inv (Zd CX P w K M m N j d f G A g s H E) [] (NR N vs) H R:=by
 have X:C.length<=N.length:=by have:=K0 List.length S.pre;rw[L7]at this;lia
 obtain⟨I,tk,rfl,O⟩:=x.done;have B:∀b:Addr,b∉(Zd CX P w K M m N j d f G A g s H E).ex:=λb z=>absurd (show b∈([]:H_)from z) A6;refine⟨⟨o.mod,S.kind,Z,Z,C0 _,λy z c I l=>?_,λy t=>?_,λy c _ h=>?_,λ_=>U,Around.frames_deeper o.frames,.inr ⟨Z,Z⟩,λb z=>absurd z (B b),o.bs,o.bsz,λb _ _=>B b,λb z=>absurd z (B b),o.funs,o.frf⟩,
  rfl,o.bare,Un.kept O,⟨_,x.toInCall.ns,λi y v I l h3=>?_⟩,λy c h=>⟨_,x.cell y c h⟩,o.hok.fresh (C0 _),λy c h=>?_,λp D=>absurd (show p∈([]:A_)from D) A6,o.hok.kept O,?_⟩
 .exact name_of_addr x.apart (A0g I) (A0g l)
 .have t:d.names.lookup y=some .cell\/d.names.lookup y=some .free:=t;rcases t with t|t
  .exact Um t
  .exact absurd Z (S.nofree _ (A0g t))
 .exact S8 (x.above y c (A0g h))
 .have L:i<vs.length:=by
   unfold NR at l;by_cases L:i<vs.length
   .exact L
   .rw[F8 (by simpa using L)]at l;rw[V2]at l;split at l<;>cases l
  have T:vs[i]?=some v:=by
   unfold NR at l;rw[M4 (by simpa using L),B8]at l;cases e:vs[i]? with
   |none=>rw[e]at l;cases l
   |some a=>rw[e]at l;cases l;rfl
  obtain⟨u,Q,Y⟩:=r.get T;have D:C[i]?=some y:=by
   rw[<-S.pre,U6 A0];exact I
  have F:C.Nodup:=by rw[<-S.pre];exact S.nd.sublist (List.take_sublist _ _)
  refine⟨u,Y,?_⟩;rcases S.par y (D5 D)with k|k
  .exact .inl ⟨k,Rt F D Q k⟩
  .obtain⟨c,e⟩:=Um (n:=s.heap.objs.size+1) k;refine .inr ⟨.inl k,c,e,?_⟩;have q:=x.cell y c e;rw[Rv F D Q (by show d.names.lookup y≠_;rw[k];decide)]at q;exact q
 .exact o.hok.fresh (S8 (x.above y c (A0g h)))
 .unfold NR;show _=N.length;rw[C3,B6,N8];lia
theorem fn_of{CX:CXT}{P:N_}{w:Q_}{K:O_}{F:C_}{g:T_}{k:Nat}{f:R_}{name d:Str}{i:Arguments}{j:List Stmt}{a:Scope}{dV kV B pm h ct oc:S_}{Y od:Option Addr}
  {R:Array (Option Value)} {N G:K_} {sp:Sp} (lk:K.lookup f=some ⟨oc,od,.func (W.fnOf name d i j a dV kV B pm Y h ct),R⟩) (L:W.codeIn K h d=true) (S:Ar N G a)
  (len:∀vs H Q E,sp vs H Q E->vs.length=G.length)
  (m:∀(A:Around)(c:List Env)(s:P_)(H:Hp)(vs:List V)(Q:VK)(E:XK),CM k (A.deeper (envOfC d a s.heap.objs.size f h))->sp vs H Q E ->
   ∃t,PSs (Zd CX P w K F g N d a f h A c s H E) j t/\t {nx:=λ_ l=>Q .non l,rt:=Q} (NR N vs) H) :
  AN P w K F g CX (k+1) f (W.fnOf name d i j a dV kV B pm Y h ct) G sp:=by
 refine⟨len,λA c s H aa us vs Q E M C hb r D=>?_⟩;have hl:=len _ _ _ _ D;have X:K.In s.heap:=C.mod.kin.keeps λb o e=>(C.bs b o e).1;have O:s.heap.NoLimit:=C.mod.nolimit.keeps λb o e=>(C.bs b o e).1;have p:∀y∈G.zip us,a.names.lookup y.1=some .local\/(a.names.lookup y.1=some .cell/\((cellsFrom (s.heap.objs.size+1) a.names []).lookup y.1).isSome=true):=λ⟨n,v⟩ hy=>by
  rcases S.par n (List.of_mem_zip hy).1 with q|q
  .exact .inl q
  .exact .inr ⟨q,W.cellsFrom_some _ _ _ (.inl q)⟩
 refine codeAny_call_function M.depth (X _ _ lk) Z S.co S.gen Z (W.codeRec_of X L) (hb _ _ _ _ ?_);refine wpAny_newFunctionEnv_cells S.kind p λab he s1 x=>?_;subst he;refine⟨O.keeps x.toInCall.keep,codeAny_func ?_⟩;obtain⟨t,ht,hq⟩:=m A c s H vs Q E (M.deeper _) D;have I:Inv (Zd CX P w K F g N d a f h A c s H E) [] (NR N vs) H s1:=YT S M.hd C hl r x;refine A1b (ht [] s1 (NR N vs) H _ I hq) (λfl U z=>?_) λe U z=>z;have fin:∀{σ':St}{l:Hp}{v:V}{u:S_},Inv (Zd CX P w K F g N d a f h A c s H E) [] σ' l U->Bd v u->Q v l->CE c P w H s Q u U :=
  λ{σ' l v u} J T q=>⟨v,l,J.os,J.bare,J.base,J.hok,T,q⟩
 cases fl with
 |ret u =>
  obtain⟨v,σ',l,J,T,q⟩:=z;exact fin J T q
 |next =>
  obtain⟨σ',l,J,q⟩:=z;exact fin (v:=V.non) (u:=Value.none) J Z q
 |brk =>
  obtain⟨_,_,_,q⟩:=z;exact False.elim q
 |cont =>
  obtain⟨_,_,_,q⟩:=z;exact False.elim q
section
variable{X:Cx}{x:Str}{p pos:Pos}{e:Expr}{es:List Expr}{t:TA}{id T:String}{r:List V->Hp->VK->Prop}
def tCB(r:List V->Hp->VK->Prop)(t:TA):TE:=fun σ H Q=>t σ H λvs H1=>r vs H1 Q
theorem AJ(i:GB X (.builtin id) r)(k:Gl X x)(l:X.mg x=none)(n:bootBuiltins x=some (.builtin id))(g:PA X (e::es) t)(m:x≠"__name__" := by decide)(b:(x==("__debug__" : Str))=false:=by decide)
  (j:starEach (e::es) X.env=(false,eval e X.env)::starEach es X.env:=by rfl) (c:(backTo pos (starEach es X.env)).any (·.1)=false:=by rfl):PE X (.Call (.Name x p) (e::es) [] pos) (tCB r t):=by
 intro a s σ H Q I h;refine A2d (JQ I k l n ?_ m b);exact PyProof.Rows.callWith_builtin1 (thn (g pos a s σ H _ I h) λus u ⟨vs,d,f,q,o⟩=>i a u σ d vs us Q f q o) j c
theorem BG(i:GB X (.type T) r)(k:Gl X x)(l:X.mg x=none)(n:bootBuiltins x=some (.type T))(g:PA X (e::es) t)(m:x≠"__name__" := by decide)(b:(x==("__debug__" : Str))=false:=by decide)
  (j:starEach (e::es) X.env=(false,eval e X.env)::starEach es X.env:=by rfl) (c:(backTo pos (starEach es X.env)).any (·.1)=false:=by rfl):PE X (.Call (.Name x p) (e::es) [] pos) (tCB r t):=by
 intro a s σ H Q I h;refine A2d (JQ I k l n ?_ m b);exact A1a (thn (g pos a s σ H _ I h) λus u ⟨vs,d,f,q,o⟩=>i a u σ d vs us Q f q o) j c
end
end L2
namespace HT
open PySem PyProof.Rows
section
variable{prog:N_}{w:Q_}{A:Around}{E:B_}{s:P_}
noncomputable def sIx(n d:Nat):Option Int->Nat
|none=>d
|some v=>if v<0 then(v+(n:Int)).toNat else min v.toNat n
end
end HT
namespace L2
open PySem PySem.Spec PyProof.Rows
abbrev TO:=St->Hp->(Option Int->Hp->Prop)->Prop
def PO(X:Cx)(e:Option Expr)(t:TO):Prop :=
 ∀(pins:A_)(s:P_)(σ:St)(H:Hp)(Q:Option Int->Hp->Prop),Inv X pins σ H s->t σ H Q ->
  wpAny (model X.prog X.w) X.A (evalPart e X.env) (λu s'=>∃o H',Inv X pins σ H' s'/\IsPart u o/\Q o H') X.xe s
def tNoPart:TO:=λ_ H Q=>Q none H
def tPart(t:TE):TO:=fun σ H Q=>t σ H λx H1=>∃i,x=.int i/\Q (some i) H1
section
variable{X:Cx}{e:Expr}{te:TE}{lo hi:Option Expr}{tl th:TO}{pos p2:Pos}
theorem po_none:PO X none tNoPart:=by
 intro a s σ H Q I h;rw[evalPart_none];exact Z6 ⟨none,H,I,.none,h⟩
theorem RM(h:PE X e te):PO X (some e) (tPart te):=by
 intro a s σ H Q I d;rw[evalPart_some];refine thn (h a s σ H _ I d) λu j ⟨x,b,c,g,f⟩=>?_;obtain⟨i,rfl,q⟩:=f;obtain⟨t,rfl⟩:=g;exact⟨some i,b,c,.int i t,q⟩
def SlR(X:Cx)(r:V->Option Int->Option Int->Hp->VK->Prop):Prop :=
 ∀(pins:A_)(s:P_)(σ:St)(H:Hp)(x:V)(v vl vu:S_)(lo hi:Option Int)(sl:R_)(Q:VK),Inv X pins σ H s->Bd x v->s.heap.IsSliceOf sl vl vu .none->IsPart vl lo->IsPart vu hi->r x lo hi H Q ->
  ∃T id,typeLookup (.type T) "__getitem__" = pure (some (.builtin id))/\s.TypeIs v T/\wpAny (model X.prog X.w) X.A (getItem v (.ref sl)) (EP X pins σ Q) X.xe s
def tSl(r:V->Option Int->Option Int->Hp->VK->Prop)(te:TE)(tl th:TO):TE:=fun σ H Q=>te σ H λx H1=>tl σ H1 λl H2=>th σ H2 λu H3=>r x l u H3 Q
theorem Tt{r:V->Option Int->Option Int->Hp->VK->Prop}(B:SlR X r)(t:PE X e te)(z:PO X lo tl)(D:PO X hi th):PE X (.Subscript e (.Slice lo hi none p2) pos) (tSl r te tl th):=by
 intro a s σ H Q I h;refine Subscript_ (thn (t a s σ H _ I h) λv M ⟨x,i,k,L,F⟩=>?_);refine wpAny_Slice (thn (z a M σ i _ k F) λd N ⟨l,j,m,pl,G⟩=>thn (D a N σ j _ m G) λf c ⟨u,g,n,E,K⟩=>?_);rw[evalPart_none];refine Z6 ?_;have o:Inv X a σ g {c with heap:=c.heap.push {cls:=.type "slice",data:=.fields #[d,f,.none]} }:=n.kept (t':=c.toks) λb O q=>B9 _ q;obtain⟨T,id,p,C,y⟩:=B a {c with heap:=c.heap.push {cls:=.type "slice",data:=.fields #[d,f,.none]} } σ g x v d f l u c.heap.objs.size Q o L (Heap.IsSliceOf.new ..) pl E K;show wpAny (model X.prog X.w) X.A (subscriptTail e (.Slice lo hi none p2) v (.ref c.heap.objs.size)) (EP X a σ Q) X.xe {c with heap:=c.heap.push {cls:=.type "slice",data:=.fields #[d,f,.none]} };exact tail_any (ops:=[.ref c.heap.objs.size,v]) C p y (by with_unfolding_all rfl)
noncomputable def Vs(xs:List V)(lo hi:Option Int):List V:=(xs.drop (HT.sIx xs.length 0 lo)).take (HT.sIx xs.length xs.length hi-HT.sIx xs.length 0 lo)
theorem Ue(xs:List V)(lo hi:Option Int):(Vs xs lo hi).length<=xs.length:=by
 unfold Vs;rw[L7,List.length_drop];lia
end
noncomputable def ixN(n:Nat)(i:Int):Option Nat:=if 0<=i then(if i<n then some i.toNat else none)else if -(n:Int)<=i then some (i+n).toNat else none
noncomputable def atI{α:Type}(xs:List α)(i:Int):Option α:=(ixN xs.length i).bind λj=>xs[j]?
theorem WB{n:Nat}{i:Int}{j:Nat}(h:ixN n i=some j):seqIndex? i n=some j/\j<n/\-(n:Int)<=i/\i<n:=by
 unfold ixN at h;by_cases b:0<=i
 .rw[Z7 b]at h;by_cases a:i<n
  .rw[Z7 a]at h;have e:i.toNat=j:=X4 h;exact⟨by rw[seqIndex_of b a,e],by lia,by lia,a⟩
  .rw[Z4 a]at h;cases h
 .rw[Z4 b]at h;by_cases a:-(n:Int)<=i
  .rw[Z7 a]at h;have e:(i+n).toNat=j:=X4 h;exact⟨by rw[seqIndex_neg A0 a,e],by lia,a,by lia⟩
  .rw[Z4 a]at h;cases h
theorem WN{α:Type}{xs:List α}{i:Int}{v:α}(h:atI xs i=some v):∃j,seqIndex? i xs.length=some j/\xs[j]?=some v/\j<xs.length/\-(xs.length:Int)<=i/\i<xs.length:=by
 unfold atI at h;cases e:ixN xs.length i with
 |none=>rw[e]at h;cases h
 |some j =>
  rw[e]at h;obtain⟨a,b,c,d⟩:=WB e;exact⟨j,a,h,b,c,d⟩
theorem Ah{α:Type}{xs:List α}{j:Nat}{v:α}(h:xs[j]?=some v):atI xs (j:Int)=some v:=by
 have a:j<xs.length:=(B7.mp h).1;have e:ixN xs.length (j:Int)=some j:=by
  unfold ixN;rw[Z7 A0,Z7 A0];simp
 unfold atI;rw[e];exact h
def PlainIx(b:Expr):Prop:=∀o i,subscripted b false o i=operate [o,i] (getItem o i)
def IxR(X:Cx)(r:R2):Prop :=
 ∀(value slice:Expr)(pins:A_)(s:P_)(σ:St)(H:Hp)(x y:V)(v u:S_)(Q:VK),Inv X pins σ H s->Bd x v->Bd y u->r x y H Q ->
  subscripted slice false v u=operate [v,u] (getItem v u)->wpAny (model X.prog X.w) X.A (subscriptTail value slice v u) (EP X pins σ Q) X.xe s
def MtR(X:Cx)(id:String)(r:V->List V->Hp->VK->Prop):Prop :=
 ∀(pins:A_)(s:P_)(σ:St)(H:Hp)(x:V)(xs:List V)(v:S_)(us:F_)(Q:VK),Inv X pins σ H s->Bd x v->AR xs us->r x xs H Q ->
  wpAny (model X.prog X.w) X.A (call (.builtin id) (v::us)) (EP X pins σ Q) X.xe s
section
variable{X:Cx}{a b:Expr}{ta tb:TE}{pos:Pos}
theorem Ai{r:R2}(i:IxR X r)(f:PE X a ta)(g:PE X b tb)(j:PlainIx b):PE X (.Subscript a b pos) (tOp r ta tb):=by
 intro c s σ H Q I h;exact Subscript_ (binT f g I h λv u m x y d e k l q=>i a b c m σ d x y v u Q e k l q (j _ _))
def rIxL(K:O_):R2:=λx y H Q=>∃p xs i v,x=.ref p/\y=.int i/\SqL K H p xs/\atI xs i=some v/\Q v H
def GC(K:O_):R2:=λx y H Q=>∃p xs i v,x=.ref p/\y=.int i/\SqT K H p xs/\atI xs i=some v/\Q v H
theorem Aw:IxR X (rIxL X.K):=by
 intro l k c s σ H x y v u Q I G L h o;obtain⟨p,xs,i,z,rfl,rfl,F,D,q⟩:=h;cases G;obtain⟨t,rfl⟩:=L;obtain⟨f,r,pl,P⟩:=I.list F;obtain⟨j,d,A,N,B,C⟩:=WN D;obtain⟨w,m,g⟩:=r.get A;have E:=r.length;have O:=PR;have fin:EP X c σ Q w s:=⟨z,H,I,g,q⟩
 by_cases n:0<=i
 .have e:i.toNat=j:=by
   rw[seqIndex_of n C]at d;exact X4 d
  exact item_listR pl.isList n A0 (by rw[e];simpa using m) fin o
 .have e:(i+(f.toArray.size:Int)).toNat=j:=by
   rw[seqIndex_neg A0 B]at d;rw[D4,<-E];exact X4 d
  exact subscriptTail_builtinR (x:=w) pl.isList.typeIs slot_list_getitem.lookup
   (wpAny_getItem_list_neg (Q:=λr M=>r=w/\EP X c σ Q r M) pl.isList A0 (by rw[D4]<;>lia) A0 (by rw[e];simpa using m) ⟨Z,fin⟩) o
theorem Al:IxR X (GC X.K):=by
 intro f e c s σ H x y v u Q I C D h A;obtain⟨p,xs,i,z,rfl,rfl,o,m,q⟩:=h;cases C;obtain⟨t,rfl⟩:=D;obtain⟨B,r,pl,N⟩:=I.tuple o;obtain⟨j,k,l,F,G,L⟩:=WN m;obtain⟨w,g,d⟩:=r.get l;have n:=r.length;have M:=PR;have fin:EP X c σ Q w s:=⟨z,H,I,d,q⟩
 exact subscriptTail_builtinR (x:=w) pl.typeIs slot_tuple_getitem.lookup
  (getItem_tuple (j:=j) (Q:=λr E=>r=w/\EP X c σ Q r E) pl A0 A0 (by rw[D4,<-n];exact k) (by simpa using g) ⟨Z,fin⟩) A
theorem Vf(c:F_)(n j:Nat)(u:S_):Obj.mapSeq (·.setIfInBounds j u) {cls:=.type "list",data:=.seq c.toArray n}={cls:=.type "list",data:=.seq (c.set j u).toArray n}:=by
 simp[Obj.mapSeq]
theorem Inv.lst{d:A_}{σ:St}{H:Hp}{s:P_}{p:R_}{xs:List V}(I:Inv X d σ H s)(h:H p=some (.lst xs)) :
  ∃(c:F_)(n:Nat),AR xs c/\s.heap.get? p=some {cls:=.type "list",data:=.seq c.toArray n}/\xs.length<=sizeLine:=by
 obtain⟨z,c,n,r,e⟩:=I.hok p _ h;exact⟨c,n,r,e,z⟩
theorem Inv.lstUpd{c:A_}{σ:St}{H:Hp}{s:P_}{p:R_}{xs ys:List V}{d its':F_}{n g:Nat}{f:Obj->Obj}(I:Inv X c σ H s)(h:H p=some (.lst xs))
  (k:s.heap.get? p=some {cls:=.type "list",data:=.seq d.toArray n}) (i:f {cls:=.type "list",data:=.seq d.toArray n}={cls:=.type "list",data:=.seq its'.toArray g}) (r:AR ys its') (l:ys.length<=sizeLine) (t:Nat) :
  Inv X c σ (upd H p (.lst ys)) {s with heap:=s.heap.update p f,toks:=t}:=by
 have e:(s.heap.update p f).get? p=some {cls:=.type "list",data:=.seq its'.toArray g}:=by
  rw[W2 f k (by rw[i]<;>rfl),i]
 refine I.write (x:=p) (e:=p) (by rw[h];trivial) (.inl Z) (λb u j q=>(V9 _ _ (X5 j)).trans q) ⟨_,e⟩ ?_;exact⟨l,its',g,r,e⟩
def rSetL:V->V->V->Hp->(Hp->Prop)->Prop:=λo i v H Q=>∃p xs k j,o=.ref p/\i=.int k/\H p=some (.lst xs)/\ixN xs.length k=some j/\Q (upd H p (.lst (xs.set j v)))
theorem ZL:PSet X rSetL:=by
 intro d s σ H o i v L K u Q I D C E h;obtain⟨p,xs,k,j,rfl,rfl,z,A,q⟩:=h;cases D;obtain⟨t,rfl⟩:=C;obtain⟨c,n,r,l,B⟩:=I.lst z;obtain⟨e,F,x,y⟩:=WB A;have g:=r.length;have G:=PR;have m:Inv X d σ (upd H p (.lst (xs.set j v))) {s with heap:=s.heap.update p (Obj.mapSeq (·.setIfInBounds j u))} :=
  I.lstUpd z l (Vf c n j u) (r.set E j) (by rw[List.length_set];exact B) s.toks
 by_cases w:0<=k
 .have f:k.toNat=j:=by
   rw[seqIndex_of w y]at e;exact X4 e
  exact W.ki_setAt l w A0 (by rw[D4,<-g];exact y) (by rw[f];exact⟨_,m,q⟩)
 .have f:(k+(c.toArray.size:Int)).toNat=j:=by
   rw[seqIndex_neg A0 x]at e;rw[D4,<-g];exact X4 e
  exact W.ki_setBack l A0 (by rw[D4,<-g];exact x) A0 (by rw[f];exact⟨_,m,q⟩)
theorem RH(lo c:Option Int)(n:Nat):(sliceBounds lo c none n).1=((HT.sIx n 0 lo:Nat):Int)/\(sliceBounds lo c none n).2.1=((HT.sIx n n c:Nat):Int)/\(sliceBounds lo c none n).2.2=1:=by
 refine⟨?_,?_,Z⟩
 .cases lo with
  |none=>simp[sliceBounds,HT.sIx]
  |some i =>
   simp only[sliceBounds,HT.sIx,Option.getD_none,show(1:Int) > 0 by decide,A4a];by_cases h:i<0
   .simp only[h,A4a]<;>lia
   .simp only[h,A0c]<;>lia
 .cases c with
  |none=>simp[sliceBounds,HT.sIx]
  |some i =>
   simp only[sliceBounds,HT.sIx,Option.getD_none,show(1:Int) > 0 by decide,A4a];by_cases h:i<0
   .simp only[h,A4a]<;>lia
   .simp only[h,A0c]<;>lia
theorem Qu(c:F_)(lo d:Option Int):slicePick c.toArray lo d none=((c.drop (HT.sIx c.length 0 lo)).take (HT.sIx c.length c.length d-HT.sIx c.length 0 lo)).toArray:=by
 obtain⟨e,f,g⟩:=RH lo d c.toArray.size;unfold slicePick;rw[e,f,g];simp only[sliceRange_one,pick_run,D4]<;>rfl
def rSlL(K:O_):V->Option Int->Option Int->Hp->VK->Prop:=λx lo hi H Q=>∃a xs,x=.ref a/\SqL K H a xs/\∀p,H p=none->Q (.ref p) (upd H p (.lst (Vs xs lo hi)))
theorem Wc:SlR X (rSlL X.K):=by
 intro f s σ H x v t u lo d p Q I m g pl l h;obtain⟨a,xs,rfl,i,q⟩:=h;cases m;obtain⟨k,r,e,j⟩:=I.list i;have c:=r.length;refine⟨"list",_,slot_list_getitem.lookup,e.isList.typeIs,?_⟩;refine wpAny_getItem_list_slice e.isList g pl l .none A6 ?_ (by rw[D4]<;>lia);rw[Qu,<-c];refine⟨.ref s.heap.objs.size,_,I.laid (t':=s.toks) (o:=.lst (Vs xs lo d)) (λb n q=>B9 _ q) (C0 _) ?_,Z,q _ (I.hok.fresh (C0 _))⟩;exact⟨C9 (Ue xs lo d) j,_,0,(r.drop (HT.sIx xs.length 0 lo)).take (HT.sIx xs.length xs.length d-HT.sIx xs.length 0 lo),D0 _ Z⟩
noncomputable def MO:V->Bool
|.non=>true
|.bl _=>true
|.int _=>true
|.str _=>true
|_=>false
noncomputable def eqV:V->V->Bool
|.non,.non=>true
|.bl a,.bl b=>a==b
|.bl a,.int b=>(if a then 1 else 0)==b
|.int a,.bl b=>a==(if b then 1 else 0)
|.int a,.int b=>a==b
|.str a,.str b=>a==b
|_,_=>false
theorem eqAt_V{A:Around}{s:P_}{y x:V}{u v:S_}(d:Bd y u)(c:Bd x v)(e:MO y=true)(fx:MO x=true):SeqAt.EqAt A s u v (eqV y x):=by
 cases y with
 |non =>
  cases d;cases x with
  |non=>cases c;exact SeqAt.EqAt.same _
  |bl b=>cases c;exact SeqAt.EqAt.none_bool b
  |int b=>obtain⟨t,rfl⟩:=c;exact SeqAt.EqAt.none_int b t
  |str b=>obtain⟨t,rfl⟩:=c;exact SeqAt.EqAt.none_str b t
  |_=>exact absurd (show false=true from fx) D2
 |bl a =>
  cases d;cases x with
  |non=>cases c;exact SeqAt.EqAt.bool_none a
  |bl b=>cases c;exact SeqAt.EqAt.bool_bool a b
  |int b=>obtain⟨t,rfl⟩:=c;exact SeqAt.EqAt.bool_int a b t
  |str b=>obtain⟨t,rfl⟩:=c;exact SeqAt.EqAt.bool_str a b t
  |_=>exact absurd (show false=true from fx) D2
 |int a =>
  obtain⟨t',rfl⟩:=d;cases x with
  |non=>cases c;exact SeqAt.EqAt.int_none a t'
  |bl b=>cases c;exact SeqAt.EqAt.int_bool a t' b
  |int b=>obtain⟨t,rfl⟩:=c;exact SeqAt.EqAt.int_int a t' b t
  |str b=>obtain⟨t,rfl⟩:=c;exact SeqAt.EqAt.int_str a t' b t
  |_=>exact absurd (show false=true from fx) D2
 |str a =>
  obtain⟨t',rfl⟩:=d;cases x with
  |non=>cases c;exact SeqAt.EqAt.str_none a t'
  |bl b=>cases c;exact SeqAt.EqAt.str_bool a t' b
  |int b=>obtain⟨t,rfl⟩:=c;exact SeqAt.EqAt.str_int a t' b t
  |str b=>obtain⟨t,rfl⟩:=c;exact SeqAt.EqAt.str_str a t' b t
  |_=>exact absurd (show false=true from fx) D2
 |_=>exact absurd (show false=true from e) D2
noncomputable def eqU(x:V)(u:S_):Bool:=match u with
|.none=>eqV .non x
|.bool b=>eqV (.bl b) x
|.int i _=>eqV (.int i) x
|.str z _=>eqV (.str z) x
|_=>false
theorem eqU_of{x y:V}{u:S_}(r:Bd y u)(f:MO y=true):eqU x u=eqV y x:=by
 cases y with
 |non=>cases r;rfl
 |bl b=>cases r;rfl
 |int i=>obtain⟨t,rfl⟩:=r;rfl
 |str z=>obtain⟨t,rfl⟩:=r;rfl
 |_=>exact absurd (show false=true from f) D2
theorem SI{x:V}:∀{xs:List V}{us:F_},AR xs us->xs.all MO=true->us.any (eqU x)=xs.any λy=>eqV y x
|_,_,.nil,_=>rfl
|y::xs,u::us,.cons r t,f=>by
 rw[List.all_cons,P8]at f;rw[U7,U7,eqU_of r f.1,SI t f.2]
theorem PQ{A:Around}{s:P_}{x:V}{v:S_}(d:Bd x v)(fx:MO x=true):∀{xs:List V}{us:F_},AR xs us->xs.all MO=true->∀u∈us,SeqAt.EqAt A s u v (eqU x u)
|_,_,.nil,_=>λu c=>by cases c
|y::xs,u::us,.cons r t,f=>λe c=>by
 rw[List.all_cons,P8]at f;rcases C1.mp c with rfl|c
 .rw[eqU_of r f.1];exact eqAt_V r d f.1 fx
 .exact PQ d fx t f.2 e c
noncomputable def inV(x:V)(xs:List V):Bool:=xs.any λy=>eqV y x
def rIn(K:O_)(neg:Bool):R2:=λx y H Q=>∃p xs,y=.ref p/\(SqL K H p xs\/SqT K H p xs)/\MO x=true/\xs.all MO=true/\Q (.bl (if neg then !inV x xs else inV x xs)) H
theorem Yr:OpR X (compareOp .In) (rIn X.K false):=by
 intro f s σ H x y v u Q I g j h;obtain⟨p,xs,rfl,d,fx,fs,q⟩:=h;cases j;rcases d with d|d
 .obtain⟨c,r,pl,i⟩:=I.list d;refine SeqAt.in_listAt (eqU x) pl.isList (λw e=>PQ g fx r fs w (by simpa using e)) ⟨.bl _,H,I,Z,?_⟩;rw[show c.toArray.any (eqU x)=c.any (eqU x) by simp,SI r fs];exact q
 .obtain⟨c,r,pl,i⟩:=I.tuple d;refine SeqAt.in_tupleAt (eqU x) pl (λw e=>PQ g fx r fs w (by simpa using e)) ⟨.bl _,H,I,Z,?_⟩;rw[show c.toArray.any (eqU x)=c.any (eqU x) by simp,SI r fs];exact q
theorem BD:GB X (.builtin "len") (λxs H Q=>∃p ys,xs=[.ref p]/\(SqL X.K H p ys\/SqT X.K H p ys)/\Q (.int ys.length) H):=by
 intro g s σ H xs us Q I r h;obtain⟨p,ys,rfl,d,q⟩:=h;obtain⟨u,rfl,j⟩:=SO r;cases j;have k:=PR;rcases d with d|d
 .obtain⟨e,f,pl,i⟩:=I.list d;have c:=f.length;exact Calls.call_len_list pl.isList (by simp only[D4]<;>lia) ⟨.int ys.length,H,I.tok _,⟨s.toks+1,by rw[D4,c]⟩,q⟩
 .obtain⟨e,f,pl,i⟩:=I.tuple d;have c:=f.length;exact len_tuple pl (by simp only[D4]<;>lia) ⟨.int ys.length,H,I.tok _,⟨s.toks+1,by rw[D4,c]⟩,q⟩
theorem Jj:GB X (.builtin "len") (λxs H Q=>∃z,xs=[.str z]/\z.length<=sizeLine/\Q (.int z.length) H):=by
 intro c s σ H xs us Q I r h;obtain⟨z,rfl,e,q⟩:=h;obtain⟨u,rfl,t,rfl⟩:=SO r;have d:=PR;exact len_str A0 ⟨.int z.length,H,I.tok _,⟨_,Z⟩,q⟩
theorem SD:GB X (.type "list") (λxs H Q=>∃p ys,xs=[.ref p]/\(SqL X.K H p ys\/SqT X.K H p ys)/\∀l,H l=none->Q (.ref l) (upd H l (.lst ys))):=by
 intro k s σ H xs us Q I r h;obtain⟨p,ys,rfl,i,q⟩:=h;obtain⟨u,rfl,x⟩:=SO r;cases x;have fin:∀(c:F_),AR ys c->ys.length<=sizeLine->∀(h':T_)(d:Nat),(∀b o',s.heap.get? b=some o'->h'.get? b=some o') ->
   h'.get? s.heap.objs.size=some {cls:=.type "list",dict:=none,data:=.seq c.toArray d,slots:=#[]}->EP X k σ Q (.ref s.heap.objs.size) {s with heap:=h'}:=λc f j h' d kp e =>
  ⟨.ref s.heap.objs.size,_,I.laid (t':=s.toks) kp (C0 _) (show BE X.prog X.w _ h' _ (.lst ys)from⟨j,c,d,f,e⟩),Z,q _ (I.hok.fresh (C0 _))⟩
 rcases i with i|i
 .obtain⟨c,f,pl,j⟩:=I.list i;have g:=f.length;obtain⟨o,v,m,n,t⟩:=pl.isList;exact call_list_seq p (.inl Z) v m t (λh' d kp e=>fin c f j h' d kp e) (by simp only[D4]<;>lia)
 .obtain⟨c,f,pl,j⟩:=I.tuple i;have g:=f.length;obtain⟨o,v,m,n,t⟩:=pl;exact call_list_seq p (.inr Z) v m t (λh' d kp e=>fin c f j h' d kp e) (by simp only[D4]<;>lia)
theorem BV:GB X (.type "tuple") (λxs H Q=>∃p ys,xs=[.ref p]/\((SqL X.K H p ys/\∀l,H l=none->Q (.ref l) (upd H l (.tup ys)))\/(SqT X.K H p ys/\Q (.ref p) H))):=by
 intro c s σ H xs us Q I r h;obtain⟨p,ys,rfl,h⟩:=h;obtain⟨u,rfl,n⟩:=SO r;cases n;rcases h with ⟨f,q⟩|⟨f,q⟩
 .obtain⟨d,g,pl,k⟩:=I.list f;have j:=g.length;refine call_tuple_list pl.isList (λh' kp=>?_) (by simp only[D4]<;>lia);have i:Inv X c σ H {s with heap:=h'}:=I.kept (t':=s.toks) kp
  have m:Inv X c σ (upd H h'.objs.size (.tup ys)) {s with heap:=h'.push {cls:=.type "tuple",data:=.seq d.toArray} } :=
   i.laid (t':=s.toks) (λb o e=>B9 _ e) (C0 _) (show BE X.prog X.w _ _ _ (.tup ys)from⟨k,d,g,IsTup.new _ _⟩)
  exact⟨.ref h'.objs.size,_,m,Z,q _ (i.hok.fresh (C0 _))⟩
 .obtain⟨d,g,pl,k⟩:=I.tuple f;exact call_tuple_same pl ⟨.ref p,H,I,Z,q⟩
def tyV(K:O_)(T:String)(x:V)(H:Hp):Prop:=match x with
|.str _=>T="str"
|.int _=>T="int"
|.ref p=>(T="list" /\ ∃xs,SqL K H p xs)\/(T="tuple" /\ ∃o,K.lookup p=some o/\o.cls=.type "tuple" /\ o.dict=none) \/
  (T="dict" /\ ((∃kvs,H p=some (.dK kvs))\/∃kvs,H p=some (.dT kvs)))\/(T="set" /\ ∃S n,H p=some (.set S n))
|_=>False
theorem tyV_is{g:A_}{σ:St}{H:Hp}{s:P_}{T:String}{x:V}{v:S_}(I:Inv X g σ H s)(r:Bd x v)(ty:tyV X.K T x H) :
  s.TypeIs v T/\∀a,v=.ref a->∃k,s.heap.get? a=some k/\k.dict=none:=by
 cases x with
 |str z =>
  obtain⟨t,rfl⟩:=r;cases(show T="str" from ty);exact⟨typeIs_str s z t,λ_ e=>nomatch e⟩
 |int i =>
  obtain⟨t,rfl⟩:=r;cases(show T="int" from ty);exact⟨typeIs_int s i t,λ_ e=>nomatch e⟩
 |ref p =>
  cases r;rcases ty with ⟨rfl,xs,m⟩|⟨rfl,o,d,l,j⟩|⟨rfl,d⟩|⟨rfl,S,n,d⟩
  .obtain⟨q,_,pl,_⟩:=I.list m;refine⟨pl.isList.typeIs,λa e=>?_⟩;cases e;obtain⟨o,n,e,c,j,_⟩:=pl;exact⟨o,e,j⟩
  .refine⟨⟨o,I.kIn p o d,l⟩,λa e=>?_⟩;cases e;exact⟨o,I.kIn _ o d,j⟩
  .have z:∃o,s.heap.get? p=some o/\o.ExactDict:=by
    rcases d with ⟨kvs,d⟩|⟨kvs,d⟩
    .obtain⟨_,_,_,_,o,_,_,e,f,_⟩:=I.hok p _ d;exact⟨o,e,f⟩
    .obtain⟨_,_,_,_,o,_,_,e,f,_⟩:=I.hok p _ d;exact⟨o,e,f⟩
   obtain⟨o,e,f⟩:=z;refine⟨⟨o,e,f.1⟩,λa h=>?_⟩;cases h;exact⟨o,e,f.2.1⟩
  .obtain⟨o,_,_,_,e,f,_⟩:=I.hok p _ d;refine⟨⟨o,e,f.1⟩,λa h=>?_⟩;cases h;exact⟨o,e,f.2.1⟩
 |_=>exact False.elim ty
def tBM(K:O_)(T:String)(r:V->List V->Hp->VK->Prop)(to:TE)(t:TA):TE:=fun σ H Q=>to σ H λx H1=>tyV K T x H1/\t σ H1 λxs H2=>r x xs H2 Q
variable{o e:Expr}{es:List Expr}{to:TE}{t:TA}{name:Str}{apos cpos:Pos}{T id:String}{r:V->List V->Hp->VK->Prop}
theorem Fe(D:PlainAttrs T)(j:Slot T name id)(k:typeOf (.builtin id)=pure (.type "method_descriptor"))(A:MtR X id r)(B:PE X o to)(z:PA X (e::es) t)
  (f:attributeBase o name X.env (eval o X.env)=eval o X.env:=by rfl)
  (i:((backTo cpos (starEach (e::es) X.env)).all (λx=>!x.1) && (backToKw cpos (keywordEach [] X.env)).all (λx=>x.1.isSome)
   && decide ((e::es).length+([]:List Keyword).length+(if([]:List Keyword).isEmpty then 0 else 1)<30))=true:=by rfl)
  (g:(apos.endLine==cpos.line)=true:=by rfl) (C:starEach (e::es) X.env=(false,eval e X.env)::starEach es X.env:=by rfl) (d:(backTo cpos (starEach es X.env)).any (·.1)=false:=by rfl) :
  PE X (.Call (.Attribute o name apos) (e::es) [] cpos) (tBM X.K T r to t):=by
 intro c s σ H Q I h;refine wpAny_Call_method_late f i g Z (thn (B c s σ H _ I h) λv L ⟨x,p,l,n,ty,E⟩=>?_);obtain⟨w,y⟩:=tyV_is l n ty;refine⟨T,id,D,j,k,w,y,?_⟩;have m:=z cpos c L σ p _ l E;rw[C]at m⊢;refine A5e (by show(false || (backTo cpos (starEach es X.env)).any (·.1))=false;rw[d]<;>rfl) (A6d ?_);exact thn m λus M ⟨vs,q,u,G,F⟩=>A c M σ q x vs v us Q u n G F
end
def MtM(X:Cx)(id:String)(r:V->List V->Hp->VK->Prop):Prop :=
 ∀(pins:A_)(s:P_)(σ:St)(H:Hp)(x:V)(xs:List V)(v:S_)(us:F_)(Q:VK),Inv X pins σ H s->Bd x v->AR xs us->r x xs H Q ->
  wpAny (model X.prog X.w) X.A (call (.builtin id) (v::us)) (EP X pins σ Q) X.xe s
theorem AR.one:∀{x:V}{us:F_},AR [x] us->∃u,us=[u]/\Bd x u
|_,_,.cons r .nil=>⟨_,Z,r⟩
theorem AR.two:∀{x y:V}{us:F_},AR [x,y] us->∃u v,us=[u,v]/\Bd x u/\Bd y v:=by
 intro x y us h;cases h with
 |cons r t=>cases t with
  |cons q t=>cases t;exact⟨_,_,Z,r,q⟩
theorem AR.rep{xs:List V}{us:F_}(h:AR xs us):∀k:Nat,AR (List.replicate k xs).flatten (List.replicate k us).flatten
|0=>.nil
|k+1=>by
 rw[Q7,Q7,U3,U3];exact AR.append h (AR.rep h k)
theorem Ri(b:F_):∀(k:Nat)(a:F_),
 List.foldl (λd f=>d++f) a.toArray (List.replicate k b.toArray)=(a++(List.replicate k b).flatten).toArray
|0,a=>by simp
|k+1,a=>by
 have e:a.toArray++b.toArray=(a++b).toArray:=by simp
 have c:(a++b)++(List.replicate k b).flatten=a++(List.replicate (k+1) b).flatten:=by
  rw[Q7,U3,Q4]
 rw[<-c,<-Ri b k (a++b),<-e,Q7,S5]
section
variable{X:Cx}{pins:A_}{σ:St}{H:Hp}{s:P_}{l b:R_}{xs ys zs:List V}
theorem Inv.lset{a its':F_}{n:Nat}{f:Array Value->Array Value}{t':Nat}(I:Inv X pins σ H s)(c:H l=some (.lst xs))
  (e:s.heap.get? l=some {cls:=.type "list",data:=.seq a.toArray n}) (g:f a.toArray=its'.toArray) (i:AR ys its') (j:ys.length<=sizeLine) :
  Inv X pins σ (upd H l (.lst ys)) {s with heap:=s.heap.update l (Obj.mapSeq f),toks:=t'}:=by
 have q:=PySem.IsL.update e f;rw[g]at q;refine I.write (x:=l) (e:=l) (by rw[c];exact trivial) (.inl Z) (λb' u d h=>(V9 s.heap (Obj.mapSeq f) (X5 d)).trans h) ⟨_,q⟩ ?_;exact⟨j,its',_,i,q⟩
theorem Inv.lnew{a:F_}{t':Nat}(I:Inv X pins σ H s)(c:AR ys a)(d:ys.length<=sizeLine) :
  Inv X pins σ (upd H s.heap.objs.size (.lst ys)) {s with heap:=s.heap.push {cls:=.type "list",data:=.seq a.toArray},toks:=t'} :=
 I.laid (λ_ _ q=>B9 _ q) (C0 _) ⟨d,a,0,c,D0 _ Z⟩
theorem Inv.fresh(I:Inv X pins σ H s):H s.heap.objs.size=none:=I.hok.fresh (C0 _)
theorem Inv.lstM(I:Inv X pins σ H s)(c:H l=some (.lst xs)):xs.length<=sizeLine/\∃(a:F_)(n:Nat),AR xs a/\xs.length=a.length/\s.heap.get? l=some {cls:=.type "list",data:=.seq a.toArray n}:=by
 obtain⟨z,a,n,r,e⟩:=I.hok l _ c;exact⟨z,a,n,r,r.length,e⟩
theorem notLongL{n:Nat}(h:n<=sizeLine):Builtin.List.listTooLong n=false:=by
 unfold Builtin.List.listTooLong;exact Z8 A0
end
section
variable{X:Cx}
def Wi:V->List V->Hp->VK->Prop:=λx vs H Q=>∃l xs y,x=.ref l/\vs=[y]/\H l=some (.lst xs)/\xs.length<sizeLine/\Q .non (upd H l (.lst (xs++[y])))
theorem Cc:MtM X "list.append" Wi:=by
 intro c s σ H x vs v us Q I g f h;obtain⟨l,xs,y,rfl,rfl,b,j,q⟩:=h;cases g;obtain⟨u,rfl,d⟩:=f.one;obtain⟨z,a,n,r,i,e⟩:=I.lstM b;refine A3h F.slot_list_append ⟨_,e,Z⟩ F.entry_list_append (F.args_list_append_2 _ _) (PySem.list_append l a.toArray n u (by rw[D4];lia)) ⟨e,?_⟩;refine⟨.non,_,I.lset (its':=a++[u]) b e A6 (r.append (.cons d .nil)) ?_,Z,q⟩;rw[C3,R8];lia
def rCat:R2:=λx y H Q=>∃l b xs zs,x=.ref l/\y=.ref b/\H l=some (.lst xs)/\H b=some (.lst zs)/\xs.length+zs.length<=sizeLine/\∀p,H p=none->Q (.ref p) (upd H p (.lst (xs++zs)))
theorem op_cat:OpR X (binaryOp .Add) rCat:=by
 intro d s σ H x y v u Q I o p h;obtain⟨l,b,xs,C,rfl,rfl,j,i,w,q⟩:=h;cases o;cases p;obtain⟨z,c,n,r,t,e⟩:=I.lstM j;obtain⟨B,a,A,m,k,f⟩:=I.lstM i;refine PySem.P.add_list e f ?_ (by rw[D4,D4];lia);have g:c.toArray++a.toArray=(c++a).toArray:=by simp
 rw[g];exact⟨.ref _,_,I.lnew (t':=s.toks) (r.append m) (by rw[C3];lia),Z,q _ I.fresh⟩
def rRep:R2:=λx y H Q=>∃l k xs,x=.ref l/\y=.int k/\H l=some (.lst xs)/\-(2^63)<=k/\k<2^63/\xs.length*k.toNat<=sizeLine /\
 ∀p,H p=none->Q (.ref p) (upd H p (.lst (List.replicate k.toNat xs).flatten))
theorem len_rep{α:Type}(xs:List α)(k:Nat):(List.replicate k xs).flatten.length=k*xs.length:=by
 induction k with
 |zero=>simp
 |succ k a=>rw[Q7,U3,C3,a,V5,V8]
theorem op_rep:OpR X (binaryOp .Mult) rRep:=by
 intro w s σ H x y v u Q I G K h;obtain⟨l,k,xs,rfl,rfl,D,B,C,p,q⟩:=h;cases G;obtain⟨t,rfl⟩:=K;obtain⟨z,b,n,r,E,e⟩:=I.lstM D;have g:b.toArray.size*k.toNat<=sizeLine:=by rw[D4,<-E];exact p
 have d:¬b.toArray.size*k.toNat > (2^63-1)/8:=by
  have:(sizeLine:Nat)<=(2^63-1)/8:=by decide
  lia
 have f:¬(!Builtin.List.listFitsIndex k)=true:=by
  rw[fitsIndex_both B C];exact D2
 have c:¬Builtin.List.listTooLong (b.toArray.size*k.toNat)=true:=by
  rw[notLongL g];exact D2
 have i:List.foldl (λj o=>j++o) #[] (List.replicate (if b.toArray.isEmpty=true then 0 else k.toNat) b.toArray)=(List.replicate k.toNat b).flatten.toArray:=by
  have A:∀m:Nat,List.foldl (λj o=>j++o) #[] (List.replicate m b.toArray)=(List.replicate m b).flatten.toArray:=λm=>by
   have:=Ri b m [];rw[List.nil_append]at this;exact this
  rw[A];cases b with
  |nil=>simp
  |cons a M=>rw[Z4 A6]
 refine wpAny_binaryOp_repeat_ref (T:="list") (U:="int") A4 ⟨_,e,Z⟩ (λL=>typeIs_int L k t) noFill_list_mul F.fills_int_mul F.slot_int_rmul repeat_list F.slot_int_index.lookup
  (A3h F.slot_int_rmul (typeIs_int s k t) F.entry_int_rmul (F.args_int_rmul_2 _ _) (int___rmul___int_list k t l b.toArray n)
   ⟨e,Z,⟨_,e,Z⟩,A3h F.slot_list_mul ⟨_,e,Z⟩ F.entry_list_mul (F.args_list_mul_2 _ _) (AutoListH.list___mul___list_int_3 l b.toArray n k t f d c) ⟨e,?_⟩⟩)
 rw[i];exact⟨.ref _,_,I.lnew (t':=s.toks) (r.rep k.toNat) (by rw[len_rep,S1];exact p),Z,q _ I.fresh⟩
end
end L2
namespace Att
open PySem PySem.W PySem.Calls PyProof.Rows
theorem Om{P:Params}{h:T_}:∀(ns:I_)(vs:F_),WellAll P h vs (ns.map WData.int)->IntsAre vs ns:=by
 intro ns;induction ns with
 |nil =>
  intro vs w;rw[Z0]at w;cases w;exact .nil
 |cons n ns c =>
  intro vs w;rw[D9]at w;cases w with
  |cons a b =>
   cases a;exact .cons _ _ (c _ b)
theorem Yj{l:OpenLaw}{n:Nat}(t:l.most=some n){P:Params}{h:T_}{args:List WData}{c:F_}
  (b:l.row.toRowW.claim.pre args=true) (k:WellAll P h c args) :
  ∃a vs ns,c=[Value.ref a]/\args=[WData.list (ns.map WData.int)]/\h.get? a=some {cls:=.type "list",data:=.seq vs.toArray}/\IntsAre vs ns/\ns.length<=n:=by
 have j:WShape.hasAll [] args [.list .int]=true:=(pre_splitW b).1;have m:l.pre.holds [] {args:=args}=true:=(pre_splitW b).2;obtain⟨d,r,rfl,o,p⟩:=hasAllW_cons j;obtain rfl:=hasAllW_nil p;obtain⟨xs,rfl,s⟩:=hasW_list o;obtain⟨ns,rfl⟩:=items_int s;have f:ns.length<=n:=by
  unfold OpenLaw.pre at m;have g:(WTm.not (.lt (.lit (.int (n:Int))) (.len (.arg 0)))).holds [] {args:=[.list (ns.map .int)]}=true:=by
   have g:=(holds_andW m).1;rw[t]at g;exact g
  have i:=condW_of g (w_not (w_lt w_lit (w_len_list (w_arg Z))));rw[B6]at i;refine P6 λq=>?_;have v:(n:Int)<((ns.length:Nat):Int):=by lia
  first
   | (rw[Z5 v]at i;exact absurd i A4)
   | (simp at i;lia)
 cases k with
 |cons w x =>
  cases x;cases w with
  |list u e=>exact⟨_,_,ns,Z,Z,u,Om ns _ e,f⟩
theorem Yn(l:OpenLaw)(args:List WData):l.row.toRowW.claim.post args (.bool true) args=true :=
 postW_of (r:=l.row.toRowW) (X:=(true==true))
  (show WShape.has [] (.bool true) .bool=true by first|rfl|decide|simp[WShape.has,WShape.arms,WShape.armsAll])
  (show(WTm.eq .res (.lit (.bool true))).value [] {args:=args,res:=some (.bool true),after:=args}=some (.bool (true==true))from w_eq_bool (w_res Z) w_lit) Z
theorem Ur{l:OpenLaw}{n:Nat}{q:N_}{c:K_}{B:(Str->Option Value)->Heap->Prop}{C:World->Heap->Prop}{d:DefRec}
  (R:l.most=some n) (v:d.params.defaults=[])
  (call:∀(w:Q_)(e b:P_)(s z:C_)(i:R_)(o:Obj)(A p g:S_)(a:R_)(vs:F_)(ns:I_),
   Ground q c [] B w e s z b.heap->C w b.heap ->
   b.heap.get? i=some o->o.data=.func (docDef d.name d.params d.body d.scope A p g)->b.heap.CodeRec p d.name->s d.name=some (.ref i) ->
   b.heap.get? a=some {cls:=.type "list",data:=.seq vs.toArray}->IntsAre vs ns->ns.length<=n->b.gens=#[] ->
   codeAny (model l.prog w) callerA (.call (.ref i) ⟨[.ref a],[]⟩) (λr t=>r=.ok (.ret (.bool true))/\OldK b.heap t.heap/\t.os=b.os/\AllBare t.gens) b) :
  WalkO q c B C l.row.toRowW d [] (λf vs=>PySem.call f vs):=by
 intro w e b s z G Y i o A p g I kV S N u E x O D H as m F U y P;obtain rfl:I=.none:=Dflts.none E v;obtain rfl:kV=.none:=Dflts.noKw E;obtain⟨a,vs,ns,rfl,rfl,k,h,j⟩:=Yj R m y;refine enter_call (A5d (call w e b s z i o A p g a vs ns G Y S (fd_plain N) u x k h j O) λr t T=>?_);obtain⟨rfl,K,L,M⟩:=T;exact⟨.inl ⟨.bool true,.bool true,[],Z,λ_=>Z,.bool true,Yn l _,λ_=>⟨List.Pairwise.nil,λ_ Q=>(nomatch Q)⟩⟩,K,L,M⟩
end Att
namespace L2
open PySem PySem.Spec PyProof.Rows
theorem QR:∀{vs:F_}{ns:I_},IntsAre vs ns->AR (ns.map V.int) vs
|_,_,.nil=>.nil
|_,_,.cons n t h=>.cons ⟨t,Z⟩ (QR h)
def Only(H:Hp):Prop:=∀b,H b=none\/∃o xs,H b=some (.frz o (.lst xs))
theorem law_call{P:N_}{w:Q_}{K:O_}{L Y:C_}{CX:CXT}{k:Nat}{R a:R_}{fd:E_}{x:Str}{sp:Sp}{c:P_}{vs:F_}{ns:I_}
  (KX:K.In c.heap) (D:c.heap.Ns mainGlobals L) (g:c.heap.Ns builtinsNs Y) (T:∀x:Str,x≠"__name__" -> Y x=bootBuiltins x) (C:c.heap.NoLimit) (hg:c.gens=#[])
  (O:c.heap.get? a=some {cls:=.type "list",data:=.seq vs.toArray}) (hi:IntsAre vs ns) (hl:ns.length<=sizeLine) (hr:CM k callerA)
  (F:∀i:Heap,K.In i->i.Ns mainGlobals L->AN P w K L i CX k R fd [x] sp) (t:∀(s:P_)(u:S_),BindsTo s fd ⟨[u],[]⟩ [(x,u)])
  (X:∀H:Hp,Only H->SqL K H a (ns.map V.int)->sp [.ref a] H (λv _=>v=.bl true) λ_ _ _=>False)
  (S:∀H e j,CX [] H c (λ_ _ _=>False) e j->False) :
  codeAny (model P w) callerA (.call (.ref R) ⟨[.ref a],[]⟩) (λr j=>r=.ok (.ret (.bool true))/\OldK c.heap j.heap/\j.os=c.os/\AllBare j.gens) c:=by
 have rv:=QR hi;have I:=hi.length;have p:∀H:Hp,Only H->SqL K H a (ns.map V.int)->HOk P w H c.heap->(∀b,H b≠none->b=a)->(H a≠none->K.lookup a=none) ->
   codeAny (model P w) callerA (.call (.ref R) ⟨[.ref a],[]⟩) (λr j=>r=.ok (.ret (.bool true))/\OldK c.heap j.heap/\j.os=c.os/\AllBare j.gens) c:=by
  intro H hO hS E hA hK;have f:∀{b:R_}{o:Obj},c.heap.get? b=some o->H b=none->(Sr c.heap H).get? b=some o:=λe n=>hidT_get e n;have aa:∀{b:R_}{o:Obj}{A:Array DictEntry}{y:Nat},c.heap.get? b=some o->o.data=.dict A y->H b=none:=λ{b o A y} e d=>by
   cases q:H b with
   |none=>rfl
   |some u =>
    have Q:b=a:=hA b (by rw[q];simp);subst Q;rw[O]at e;cases e;have d':Data.seq vs.toArray _=Data.dict A y:=d;cases d'
  have l:∀{b:R_}{m:C_},c.heap.Ns b m->(Sr c.heap H).Ns b m:=λ{b m} ⟨o,A,y,e,d,r⟩=>⟨o,A,y,f e (aa e d),d,r⟩
  have B:K.In (Sr c.heap H):=λb o e=>f (KX b o e) (by
   cases q:H b with
   |none=>rfl
   |some u =>
    have Q:b=a:=hA b (by rw[q];simp);subst Q;rw[hK (by rw[q];simp)]at e;cases e)
  have hM:Mod K L (Sr c.heap H):=⟨B,l D,⟨Y,l g,T⟩,let ⟨mc,h1,h2⟩:=C;⟨mc,l h1,h2⟩⟩
  have e0:Op P w K L (Sr c.heap H) callerA [] c H:=⟨Z,hM,λb o e=>of_hidT e,Nat.le_of_eq (YV _ _),trivial,λb g=>absurd (show b∈([]:H_)from g) A6,E,.of_eq hg⟩
  refine A5d ((F _ B (l D)).run callerA [] c H ⟨[.ref a],[]⟩ [.ref a] [.ref a] _ _ hr e0 (t c (.ref a)) (.cons Z .nil) (X H hO hS)) λr j h=>?_;cases r with
  |error e=>exact(S H e j h).elim
  |ok fl =>
   cases fl with
   |next=>exact False.elim h
   |brk=>exact False.elim h
   |cont=>exact False.elim h
   |ret u =>
    obtain⟨v,H',M,bare,un,G,r',q⟩:=h;have q':v=.bl true:=q;subst q';obtain rfl:u=Value.bool true:=r';refine⟨Z,OldK.of_keep λb o e=>?_,M,bare⟩;cases q:H b with
    |none=>exact un.keep b o e q (by intro z;exact absurd (show b∈([]:H_)from z) A6) A6
    |some u =>
     rcases hO b with z|⟨ob,xs,z⟩
     .rw[q]at z;cases z
     .have z2:=un.frzs b ob _ z;obtain⟨e1,_⟩:=E b _ z;obtain⟨e2,_⟩:=G b _ z2;rw[e]at e1;cases e1;exact e2
 cases U:K.lookup a with
 |some o =>
  have e:=KX a o U;rw[O]at e;cases e;refine p (λ_=>none) (λ_=>.inl Z) (.inr ⟨_,vs.toArray,_,U,Z,Z,Z,by rw[D4,I];exact hl,by simpa using rv⟩) (λb u z=>by have N:(none:Option HO)=some u:=z;cases N) (λb z=>absurd Z z) λz=>absurd Z z
 |none =>
  refine p (λb=>if b=a then some (.frz {cls:=.type "list",data:=.seq vs.toArray} (.lst (ns.map V.int)))else none) (λb=>?_) (.inl (.inr ⟨{cls:=.type "list",data:=.seq vs.toArray},Z7 Z⟩)) (λb u z=>?_) (λb z=>?_) λ_=>U
  .by_cases g:b=a
   .exact .inr ⟨_,_,Z7 g⟩
   .exact .inl (Z4 g)
  .by_cases g:b=a
   .have N:=(Z7 g).symm.trans z;cases N;subst g;exact⟨O,by rw[B6];exact hl,vs,_,rv,O⟩
   .have N:=(Z4 g).symm.trans z;cases N
  .by_cases g:b=a
   .exact g
   .exact absurd (Z4 g) z
theorem VB{l:W.OpenLaw}{n k:Nat}{q:N_}{m:K_}{O:(Str->Option Value)->Heap->Prop}{M:World->Heap->Prop}{d:DefRec}{K:Params->W.Frag}{CX:World->CXT}{sp:World->Sp}{x:Str}
  (hn:l.most=some n) (D:n<=sizeLine) (B:d.params.defaults=[]) (hr:CM k callerA)
  (U:∀(w:Q_)(h:T_),M w h->(K w.params).In h)
  (F:∀(w:Q_)(p:C_)(y:R_)(h:T_),(K w.params).In h->h.Ns mainGlobals p->p d.name=some (.ref y) ->
   ∃z:FuncData,(∀(s:P_)(u:S_),BindsTo s z ⟨[u],[]⟩ [(x,u)]) /\
    ∀c:Heap,(K w.params).In c->c.Ns mainGlobals p->AN l.prog w (K w.params) p c (CX w) k y z [x] (sp w))
  (E:∀(w:Q_)(H:Hp)(a:R_)(ns:I_),ns.length<=n->Only H->SqL (K w.params) H a (ns.map V.int)->sp w [.ref a] H (λv _=>v=.bl true) λ_ _ _=>False)
  (A:∀(w:Q_)(H:Hp)(s:P_)(e:S_)(I:P_),CX w [] H s (λ_ _ _=>False) e I->False) :
  W.WalkO q m O M l.row.toRowW d [] (λf vs=>PySem.call f vs):=by
 refine Att.Ur hn B λw N t p mb y o pm cd P a vs ns G Y ho hd aa C r j i hg=>?_;have L:=U w _ Y;obtain⟨z,X,Q⟩:=F w p y _ L G.T.g C;exact law_call L G.T.g G.T.b G.T.builtins G.T.nolimit hg r j (C9 i D) hr Q X (λH R S=>E w H a ns i R S) λH e I=>A w H t e I
end L2
namespace L2
open PySem PySem.Spec PyProof.Rows
noncomputable def Bb(s:Stmt)(j:Nat):Stmt:=match s with
|.ClassDef _ _ _ body _ _ _ _ _ _ _=>body.getD j (.Pass ⟨0,0,0,0⟩)
|_=>.Pass ⟨0,0,0,0⟩
noncomputable def MP(s:Stmt):Arguments:=match s with
|.FunctionDef _ a _ _ _ _ _ _ _ _=>a
|_=>{posonlyargs:=[],args:=[],vararg:=none,kwonlyargs:=[],kw_defaults:=[],kwarg:=none,defaults:=[]}
noncomputable def Lk(s:Stmt):List Stmt:=match s with
|.FunctionDef _ _ b _ _ _ _ _ _ _=>b
|_=>[]
noncomputable def Aj(s:Stmt):Scope:=match s with
|.FunctionDef _ _ _ _ _ _ sc _ _ _=>sc
|_=>{kind:=.function,names:=[],isGenerator:=false,isCoroutine:=false}
abbrev CX0:CXT:=λ_ _ _ _ _ _=>False
abbrev E0:XK:=λ_ _ _=>False
theorem Am{X:Cx}:Gz CX0 X E0:=λ_ _ _ _ _ _ _ h=>h.elim
structure Fun(K:O_)(x qual:Str)(st:Stmt)(f:R_)(fd:E_):Prop where
ex:∃(oc:S_)(od:Option Addr)(kV doc pm:S_)(an:Option Addr)(cdv ct:S_)(osl:Array (Option Value)),
 fd=W.fnOf x qual (MP st) (Lk st) (Aj st) .none kV doc pm an cdv ct/\K.lookup f=some ⟨oc,od,.func fd,osl⟩/\W.codeIn K cdv qual=true
kp:keepIn K (.ref f)=true
section
variable{P:N_}{w:Q_}{K:O_}{mg:C_}{base:T_}
theorem Fun.ok{x b:Str}{e:Stmt}{f:R_}{l:E_}{N j:K_}{k:Nat}{sp:Sp}(F:Fun K x b e f l)(S:Ar N j (Aj e))(len:∀vs H Q E,sp vs H Q E->vs.length=j.length)
  (d:∀(c:S_)(A:Around)(a:List Env)(s:P_)(H:Hp)(vs:List V)(Q:VK)(E:XK),CM k (A.deeper (envOfC b (Aj e) s.heap.objs.size f c))->sp vs H Q E ->
   ∃t,PSs (Zd CX0 P w K mg base N b (Aj e) f c A a s H E).nox (Lk e) t/\t {nx:=λ_ m=>Q .non m,rt:=Q} (NR N vs) H):AN P w K mg base CX0 (k+1) f l j sp:=by
 obtain⟨y,z,kV,n,B,u,c,v,r,rfl,p,g⟩:=F.ex;refine fn_of p g S len λA a s H vs Q E o i=>?_;obtain⟨t,h,q⟩:=d c A a s H vs Q E o i;exact⟨t,h.nox,q⟩
theorem Fun.binds{x a:Str}{d:Stmt}{f:R_}{k:E_}{j:K_}(F:Fun K x a d f k)
  (h:∀(kV c i:S_)(e:Option Addr)(b g:S_)(us:F_),us.length=j.length->bindArgs (W.fnOf x a (MP d) (Lk d) (Aj d) .none kV c i e b g) ⟨us,[]⟩=pure (j.zip us)):Ci K k j []:=by
 obtain⟨o,p,kV,c,i,e,b,g,m,rfl,n,l⟩:=F.ex;exact .all (h kV c i e b g)
theorem Vp {x a:Str} {e:Stmt} {f:R_} {m:S_} {n h:Option Addr} {g:Array (Option Value)} {kV d j b i:S_} (l:K.lookup f=some ⟨m,n,.func (W.fnOf x a (MP e) (Lk e) (Aj e) .none kV d j h b i),g⟩)
 (c:W.codeIn K b a=true) (k:keepIn K (.ref f)=true):Fun K x a e f (W.fnOf x a (MP e) (Lk e) (Aj e) .none kV d j h b i):=⟨⟨m,n,kV,d,j,h,b,i,g,Z,l,c⟩,k⟩
end
theorem DV{A:Around}{k:Nat}(a:CM k A):A.units+1<cLine:=J8 (Nat.add_le_add_left (by decide:1<=64) _) a.units
section
variable{X:Cx}
theorem pv(i:Nat){x:Str}{pos:Pos}(b:X.N[i]?=some x:=by rfl)(d:Vis X.env.scope x:=by first|exact Or.inl rfl|exact Or.inr O_9|exact Or.inr (Or.inr rfl))(c:(x==("__debug__" : Str))=false:=by decide)
 (a:(x==("__classdict__" : Str))=false:=by decide):PE X (.Name x pos) (Fa i):=pe_var b d c a
end
theorem AX{A B:Prop}(h:B):if false=true then A else B:=by
 rw[Z4 D2];exact h
theorem Cg{A B:Prop}(h:A):if true=true then A else B:=by
 rw[Z7 rfl];exact h
theorem GD{c A B:Prop}[Decidable c](a:c->A)(b:¬c->B):if c then A else B:=by
 by_cases h:c
 .rw[Z7 h];exact a h
 .rw[Z4 h];exact b h
theorem PZ{c A B:Prop}[Decidable c](a:c)(h:B):if(!decide c)=true then A else B:=by
 rw[Z5 a];exact AX h
def Ay(H H':Hp):Prop:=∀b o,H b=some o->H' b=some o
theorem Ay.refl(H:Hp):Ay H H:=λ_ _ h=>h
theorem Ay.trans{H d e:Hp}(a:Ay H d)(b:Ay d e):Ay H e:=λc o h=>b c o (a c o h)
theorem Ay.seq{K:O_}{H b:Hp}{a:R_}{xs:List V}(e:Ay H b)(h:SqL K H a xs):SqL K b a xs:=by
 rcases h with (h|⟨o,h⟩)|h
 .exact .inl (.inl (e _ _ h))
 .exact .inl (.inr ⟨o,e _ _ h⟩)
 .exact .inr h
def Yc(a D:R_)(h:T_):Prop:=∃o,h.get? a=some o/\o.cls=.ref D/\∃vs,o.data=.fields vs/\vs[2]?=some .none
theorem Yc.not{a D:R_}{h:T_}(x:Yc a D h):∃o,h.get? a=some o/\o.cls=.ref D/\notCls o=true:=by
 obtain⟨o,e,c,vs,d,_⟩:=x;exact⟨o,e,c,by unfold notCls;rw[d]⟩
noncomputable def isExc(a D:R_):HO:=.ext (Yc a D)
theorem Inv.track{X:Cx}{d:A_}{σ:St}{H:Hp}{s:P_}{a:R_}{o:HO}(I:Inv X d σ H s)(i:H a=none)(g:X.s₀.heap.get? a=none)(t:X.base.get? a=none)(h:X.env.locals≠a)(j:∀x c,X.env.cells.lookup x=some c->c≠a)
  (k:∀p,p∈X.pn++d->p.1≠a) (y:∀b,b∈X.fs->b≠a) (new:BE X.prog X.w (upd H a o) s.heap a o):Inv X d σ (upd H a o) s:=by
 have f:∀b u,H b=some u->b≠a:=λb u q z=>by rw[z,i]at q;cases q
 refine⟨I.ok,I.os,I.bare,⟨I.base.keep,I.base.slot,λb u q n x=>?_,I.base.there,λb xs q=>?_,λb u v q=>?_,λb l q=>?_⟩,I.loc,I.cell,?_,λx c q=>?_,λp z=>?_,λb u q=>?_,I.len⟩
 .rw[As (λz=>by rw[z,g]at q;cases q)];exact I.base.free b u q n x
 .have z:=I.base.tups b xs q;rw[As (f _ _ z)];exact z
 .have z:=I.base.frzs b u v q;rw[As (f _ _ z)];exact z
 .obtain⟨m,z⟩:=I.base.tbls b l q;exact⟨m,by rw[As (f _ _ z)];exact z⟩
 .rw[As h];exact I.free
 .rw[As (j x c q)];exact I.freeC x c q
 .obtain⟨e,n,r⟩:=I.pin p z;exact⟨e,by rw[As (k p z)];exact n,r⟩
 .by_cases z:b=a
  .subst z;rw[Ag]at q;cases q;exact new
  .rw[As z]at q;exact(I.hok b u q).stay (λc v _ r=>r) (λc r=>by rw[As (f _ _ r)];exact r) λc xs r=>by rw[As (f _ _ r)];exact r
section
variable{X:Cx}{tg:Expr}
noncomputable def Its(x:Str):It:=⟨λi _=>i<x.cps.size,λi H v H'=>H'=H/\∃c,x.cps[i]?=some c/\v=.str ⟨#[c]⟩,λi _=>i=x.cps.size⟩
theorem SR{P:N_}{w:Q_}{K:O_}(it:R_)(x:Str)(t:Tok)(T:String)(O:["enumerate","zip","dict_itemiterator","dict_reverseitemiterator","odict_iterator","itertools.zip_longest","itertools.pairwise"].contains T=false)
  (W:∀A:Around,A.handled=none->Walks P w A it [it] [it] x.cps.size (SignAt x) (λi h=>h.IsStrIter it T x t i))
  (g:∀(A:Around)(i:Nat)(s:P_)(Q:B_)(E:B_),s.heap.IsStrIter it T x t i->Q (.ref it) s->wpAny (model P w) A (pyIter (.ref it)) Q E s):QN P w K tg (Its x) [it] it (λi h=>h.IsStrIter it T x t i) where
 mem:=by simp
 obj:=λi h j b f=>by
  have e:b=it:=by simpa using f
  subst e;obtain⟨o,e,c,d⟩:=j;exact⟨o,e,λv z=>by rw[d]at z;cases z⟩
 keep:=λi h h' ⟨o,e,r⟩ k=>⟨o,k it A6 o e,r⟩
 item:=by
  intro X C L B D i a s σ H E I m j G;subst C L B;obtain⟨n,p,N,q,f4,y⟩:=m it A6;refine(W X.A (I.ok.hd D)).item i s _ _ G j λv h' tk R l kk=>?_;obtain⟨c,u,F,rfl⟩:=R;have M:Inv X a σ H {s with heap:=h',toks:=tk}:=I.turned (λb o f e=>kk b o (by simpa using f) e) n p q f4 y;obtain⟨o,e,S,U⟩:=id l;exact⟨_,Z,TY (s:={s with heap:=h',toks:=tk}) e S U O ⟨.str ⟨#[c]⟩,H,M,⟨u,Z⟩,⟨Z,c,F,Z⟩,l,λb f=>(m b f).1⟩⟩
 done:=by
  intro X C L B D i a s σ H E I m j G;subst C L B;obtain⟨n,p,N,q,f4,y⟩:=m it A6;have z:i=x.cps.size:=G;subst z;exact(W X.A (I.ok.hd D)).done s _ _ j λh' tk kk=>⟨Z,I.turned (λb o f e=>kk b o (by simpa using f) e) n p q f4 y⟩
 self:=g
def iStr(tl:TE):TI:=fun σ H R=>tl σ H λv H1=>∃x,v=.str x/\R (Its x) H1
theorem ZZ{l:Expr}{k:TE}(p:PE X l k):PI X tg l (iStr k):=by
 intro a s σ H R I h;refine thn (p a s σ H _ I h) λv c m=>?_;obtain⟨y,f,d,u,r⟩:=m;obtain⟨x,rfl,q⟩:=r;obtain⟨t,rfl⟩:=u;have fp:∀b,b∈[c.heap.objs.size]->DC X a f b:=λb n=>by
  have e:b=c.heap.objs.size:=by simpa using n
  subst e;exact d.fpOk (C0 _) (d.hok.fresh (C0 _))
 cases j:x.cps.all (· < 128)with
 |true =>
  refine wpAny_pyIter_ascii j ?_;refine⟨c.heap.objs.size,[c.heap.objs.size],_,_,f,Z,d.kept (t':=c.toks) λb o e=>B9 _ e,SR _ x t "str_ascii_iterator" A4 (λA g=>Walks.strAscii g _ x t) (λ_ _ _ _ _ i h=>wpAny_pyIter_striter_ascii i h),⟨_,D0 _ Z,Z,Z⟩,fp,q⟩
 |false =>
  refine wpAny_pyIter_wide j ?_;refine⟨c.heap.objs.size,[c.heap.objs.size],_,_,f,Z,d.kept (t':=c.toks) λb o e=>B9 _ e,SR _ x t "str_iterator" A4 (λA g=>Walks.strWide g _ x t) (λ_ _ _ _ _ i h=>wpAny_pyIter_striter_wide i h),⟨_,D0 _ Z,Z,Z⟩,fp,q⟩
theorem for_str{x:Str}{g:TG}{k:TS}{D:MT}{σ:St}{H:Hp}(b:Nat->St->Hp->Prop)(l:b 0 σ H)
  (q:∀i c σ H,x.cps[i]?=some c->b i σ H->g (.str ⟨#[c]⟩) σ H fun d h=>k {D with nx:=b (i+1),ct:=b (i+1),bk:=D.nx} d h) (o:∀σ H,b x.cps.size σ H->D.nx σ H) :
  ∃W:Nat->Nat->St->Hp->Prop,(∃m,W 0 m σ H)/\∀i m σ H,W i m σ H ->
   ((Its x).stop i H/\D.nx σ H)\/((Its x).go i H/\∃N:St->Hp->Prop,(∀σ' a,N σ' a->∃j,j<m/\W (i+1) j σ' a)/\∀v a,(Its x).yld i H v a->g v σ a fun d h=>k {D with nx:=N,ct:=N,bk:=D.nx} d h):=by
 refine⟨λi m σ H=>m=x.cps.size-i/\i<=x.cps.size/\b i σ H,⟨x.cps.size,by simp,J0 _,l⟩,?_⟩;rintro i m σ H ⟨rfl,s,p⟩;by_cases f:i<x.cps.size
 .refine .inr ⟨f,b (i+1),fun σ' a r=>⟨x.cps.size-(i+1),by lia,Z,f,r⟩,λv a y=>?_⟩;obtain⟨e,c,n,rfl⟩:=y;subst e;exact q i c σ _ n p
 .have e:i=x.cps.size:=by lia
  subst e;exact .inl ⟨Z,o σ H p⟩
theorem Iu:GB X (.type "int") (λxs H Q=>∃x n,xs=[.str x]/\PySem.intText? x=some n/\x.length<=640/\Q (.int n) H):=by
 intro a s σ H xs us Q I r h;obtain⟨x,n,rfl,c,b,q⟩:=h;cases r with
 |cons d e =>
  cases e;obtain⟨t,rfl⟩:=d;exact W.KIN.call_text c b ⟨.int n,H,I.tok _,⟨_,Z⟩,q⟩
theorem Uq(F:X.calm=true):GB X (.builtin "all") (λxs H Q=>∃(p:R_)(bs:List Bool),xs=[.ref p]/\SqL X.K H p (bs.map V.bl)/\Q (.bl (bs.all id)) H):=by
 intro d s σ H xs us Q I r h;obtain⟨p,bs,rfl,G,q⟩:=h;cases r with
 |cons L M =>
  cases M;cases(show _=Value.ref p from L);obtain⟨a,m,pl,R⟩:=I.list G;have l:p≠s.heap.objs.size:=F2 (by obtain⟨o,n,e,_⟩:=pl;exact D3 e);refine call_all_walk (A2h pl.isList ?_);have f:∀(i:Nat) v,a[i]?=some v->∃b,bs[i]?=some b/\v=.bool b:=λi v e=>by
   cases g:bs[i]? with
   |none =>
    have:a[i]?=none:=m.none_of (by rw[B8,g];rfl);rw[e]at this;cases this
   |some b =>
    obtain⟨u,t,N⟩:=m.get (i:=i) (x:=V.bl b) (by rw[B8,g];rfl);rw[e]at t;cases t;exact⟨b,Z,N⟩
  refine⟨s.heap.objs.size,_,_,_,_,_,λi=>bs.getD i true,Z,Walks.list (A:=X.A.in1) (I.ok.hd F) s.heap.objs.size p l a.toArray,⟨⟨_,D0 _ Z,Z,Z⟩,?_⟩,?_,?_⟩
  .exact pl.isList.at λo e=>B9 _ e
  .intro i v O y P D j;obtain⟨b,g,rfl⟩:=f i v (by simpa using D);have B:bs.getD i true=b:=by rw[C7,g];rfl
   have j:y (bs.getD i true) O:=j;rw[B]at j;exact K9 j
  .intro h' tk kk;have w:Inv X d σ H {s with heap:=h',toks:=tk}:=I.kept λb o e=>kk b o (by intro z;exact F2 (D3 e) (by simpa using z)) (B9 _ e);have len:a.toArray.size=bs.length:=by rw[D4,<-m.length,B6]
   have C:(List.range a.toArray.size).all (λi=>bs.getD i true)=bs.all id:=by
    rw[len,R6,T3,T3];constructor
    .intro z b E;obtain⟨i,k,e⟩:=W5.mp E;have:=z i (F1.mpr k);rw[C7,C5 k,e]at this;exact this
    .intro z i k;have c:=F1.mp k;rw[C7,C5 c];exact z _ (R0 c)
   rw[C];exact⟨.bl _,H,w,Z,q⟩
end
structure ExcF(K:O_)(D:R_):Prop where
hd:hasDictIn K D=true
ga:findIn K (.ref D) "__getattribute__" = some (some (.builtin "BaseException.__getattribute__"))
gt:findIn K (.ref D) "__getattr__" = some none
cl:findIn K (.ref D) "__class__" = some (some (.builtin "object.__class__"))
sp:specialIn K (.builtin "object.__class__") "__get__" = some (some (.builtin "getset_descriptor.__get__"))
tk:takesIn K (.builtin "object.__class__")=some true
mo:mroIn K D (.type "object")=some true
mb:mroIn K D (.type "BaseException")=some true
section
variable{K:O_}{prog:N_}{w:Q_}{A:Around}{E:B_}{s:P_}{a D:R_}{o:Obj}
open PySem.W Builtin Builtin.ObjectAttr Builtin.Getset_descriptor
theorem exc_find{M:Model}{h:T_}(X:K.In h)(f:ExcF K D):Looks M h (find (.ref a) (.ref D) "__class__") (.bind (.builtin "getset_descriptor.__get__") (.builtin "object.__class__")) :=
 (looks_findIn X f.cl).andThen ((looks_specialIn X f.sp).andThen ((show Looks M h (dataDescriptor? (some (.builtin "object.__class__")) (some (.builtin "getset_descriptor.__get__"))) (some (.builtin "getset_descriptor.__get__",.builtin "object.__class__"))from(looks_takesIn X f.tk).andThen .now).andThen (Looks.tag .now)))
theorem exc_get{R:Result->Shared->Prop}{i:S_}(X:K.In s.heap)(f:ExcF K D)(c:s.heap.get? a=some o)(b:o.cls=.ref D)(e:R (.ok (.ret (.ref D))) s) :
  codeAny (model prog w) A (.call (.builtin "getset_descriptor.__get__") ⟨[.builtin "object.__class__",.ref a,i],[]⟩) R s:=by
 obtain⟨h,g,d,t,l⟩:=s;have j:Looks (model prog w) h (typeOf (.ref a)) (.ref D):=b▸(Looks.ld c).andThen .now;have k:=looks_mroIn (M:=model prog w) X f.mo;refine codeAny_call_builtin KF.slot_gs.plain KF.entry_gs (KF.slot_gs.check _ _ _ _ _ _ _ _ KF.type_class (KF.args_gs _ _ _) ?_);unfold Builtin.«getset_descriptor.__get__» descrGet;rw[dga_obj];refine Z3 (Z6 ?_);unfold descrGetter descrCheckInstance descrNameAndClass isInstance;simp only[KF.owner_class]
 repeat lk
 refine⟨Code.quiet_builtin _ A1,codeAny_builtin KF.entry_class ?_⟩;unfold Builtin.«object.__class__» shownTypeOf
 repeat lk
 exact e
theorem YZ{Q:Option Value->Shared->Prop}(X:K.In s.heap)(f:ExcF K D)(j:s.heap.get? a=some o)(i:o.cls=.ref D)(q:Q (some (.ref D)) {s with toks:=s.toks+1}) :
  wpAny (model prog w) A (getAttr? (.ref a) "__class__") Q E s:=by
 obtain⟨h,g,d,t,u⟩:=s;have e:Looks (model prog w) h (typeOf (.ref a)) (.ref D):=i▸(Looks.ld j).andThen .now;have k:=looks_findIn (M:=model prog w) X f.ga;have l:=looks_findIn (M:=model prog w) X f.gt;have m:=exc_find (M:=model prog w) (a:=a) X f;have n:Looks (model prog w) h (isInstance (.ref a) (.type "BaseException")) true:=e.andThen (looks_mroIn X f.mb);unfold getAttr? getAttrBy? getAttrBy;refine Z3 (wpAny_mkText (Z3 (A3c (A1g (Z3 (e.at (Z3 (k.at ?_))))))));dsimp only;have r:(Value.builtin "BaseException.__getattribute__" == Value.builtin "object.__getattribute__")=false:=by decide +kernel
 rw[Z4 (by rw[r,Bool.and_false];exact D2)];unfold getAttrByItsOwn hookBefore;rw[Z7 (by rfl)];refine Z3 (l.at ?_);refine Z3 (A3c (A1g ?_));unfold callGetattribute;rw[Z4 A4];unfold boundAndCalled;refine Z3 (wpAny_of_eq (PySem.F.excAttr_ValueError.ga.bind (.ref a)) ?_);dsimp only;refine wpAny_call (codeAny_call_builtin PySem.F.excAttr_ValueError.ga.plain PySem.F.entry_bexc_ga ?_);have p:builtinKind "BaseException.__getattribute__" = some .slot:=by decide +kernel
 have c:splitId "BaseException.__getattribute__" = some ("BaseException","__getattribute__"):=by decide +kernel
 have b:=PySem.F.args_bexc_ga (.ref a) (.str "__class__" t);simp only[checkBuiltinCall,p,c];refine Z3 (n.at ?_);rw[Z4 A4];refine wpAny_of_eq (a:=()) b ?_;unfold Builtin.«object.__getattribute__»;dsimp only at m
 repeat ((fail_if_success (with_reducible show wpAny _ _ (call _ _) _ _ _));lk)
 refine wpAny_call (exc_get (s:=⟨h,g,d,t+1,u⟩) X f j i ?_);dsimp only
 repeat lk
 exact q
end
inductive TyX(K:O_)(H:Hp):V->Value->Prop where
|of {x:V} {t:S_} (h:NN K H x t):TyX K H x t
|exc {a D:R_} (e:H a=some (isExc a D)) (f:ExcF K D):TyX K H (.ref a) (.ref D)
theorem kitx_exc{K:O_}{a D:R_}(f:ExcF K D):W.KitX K (.ref a) (.ref D) (λh=>∃o,h.get? a=some o/\o.cls=.ref D/\notCls o=true) where
 ty:=λM h X ⟨o,e,c,_⟩=>c▸(W.Looks.ld e).andThen .now
 it:=λM h X _=>by
  obtain⟨m,b,_⟩:=any_some f.hd;unfold clsIn at b;split at b
  .rename_i l d' d j g;intro s u t w k q;unfold isType loadHead;exact Z3 (wpAny_loadPart (k _ _ (X _ _ g)) (Z6 q))
  .cases b
 ne:=λh r v p n x X i=>by
  obtain⟨m,b,_⟩:=any_some f.hd;refine Z2.mpr λq=>?_;have e:D=r:=Value.ref.inj (beq_iff_eq.mp q);subst e;unfold clsIn at b;split at b
  .rename_i l d' d j g;have z:=(X _ _ g).symm.trans i;cases z
  .cases b
 ca:=λX ⟨o,e,c,_⟩ k=>YZ X f e c k
noncomputable def clsV:V->Option Value
|.ty n=>some (.type n)
|.ref C=>some (.ref C)
|_=>none
theorem CC{X:Cx}:GB X (.builtin "isinstance") (λxs H Q=>∃x c d t b,xs=[x,c]/\clsV c=some d/\TyX X.K H x t/\kitOne X.K t d=some b/\Q (.bl b) H):=by
 intro j s σ H xs us Q I r h;obtain⟨x,c,d,t,b,rfl,g,ty,i,q⟩:=h;cases r with
 |@cons _ u _ _ l y =>
  cases y with
  |@cons _ v _ _ k o =>
   cases o;have m:v=d:=by
    cases c with
    |ty n=>cases g;exact k
    |ref C=>cases g;exact k
    |_=>cases g
   subst m;cases ty with
   |of ty=>exact YS I l ty i λtk=>⟨.bl b,H,I.tok tk,Z,q⟩
   |@exc a D e f =>
    cases(show u=Value.ref a from l);obtain⟨p,_,_⟩:=(show BE X.prog X.w H s.heap a (isExc a D)from I.hok a _ e)
    exact A0a (kitx_exc f) I.kIn (Yc.not p) i (λz=>nomatch z) λtk=>⟨.bl b,H,I.tok tk,Z,q⟩
noncomputable def Ir(env:Env)(a:List (Str×Addr))(x:Str×NameKind):List (Str×Addr):=if(x.2==NameKind.free)=true then(x.1,(env.cells.lookup x.1).getD 0)::a else a
noncomputable def Vu(env:Env)(l:List (Str×NameKind)):List (Str×Addr):=l.foldl (Ir env) []
theorem Vq{α β:Type}{l:List α}{f:α->β->Sem (ForInStep β)}{g:β->α->β}(h:∀x∈l,∀b,f x b=pure (.yield (g b x))):∀b,forIn l b f=pure (l.foldl g b):=by
 induction l with
 |nil=>intro b;rfl
 |cons x l c =>
  intro b;rw[List.forIn_cons,h x C2,pure_bind];exact c (λy a=>h y (C4 _ a)) _
theorem Qj{d:Scope}{b:Env}(h:∀y∈d.names,y.2=.free->∃c,b.cells.lookup y.1=some c):closureFor d b=pure (Vu b d.names):=by
 simp only[closureFor];rw[Vq (g:=Ir b) (λx l c=>by
  obtain⟨n,k⟩:=x;by_cases i:k=.free
  .subst i;obtain⟨a,f⟩:=h _ l rfl;have e:cellOf b n=pure a:=by unfold cellOf;rw[show b.cells.lookup n=some a from f]
   simp only[Ir,beq_self_eq_true,A4a,e,show b.cells.lookup n=some a from f,Option.getD_some];rfl
  .have j:(k==NameKind.free)=false:=by simpa using i
   simp only[Ir,j,J9,A0c])]
 rfl
theorem Rp(b:Env){y:Str}{c:R_}:∀(l:List (Str×NameKind))(a:List (Str×Addr)),(l.foldl (Ir b) a).lookup y=some c->a.lookup y=some c\/((y,NameKind.free)∈l/\c=(b.cells.lookup y).getD 0)
|[],a,h=>.inl h
| (n,k)::r,a,h=>by
 rw[S5]at h;rcases Rp b r _ h with z|⟨z,e⟩
 .unfold Ir at z;split at z
  .rename_i g;have d:k=.free:=by simpa using g
   rw[P7]at z;split at z
   .rename_i i;have f:y=n:=by simpa using i
    subst f d;exact .inr ⟨C2,(X4 z).symm⟩
   .exact .inl z
  .exact .inl z
 .exact .inr ⟨C4 _ z,e⟩
theorem Uk(b:Env){y:Str}:∀(l:List (Str×NameKind))(a:List (Str×Addr)),(∃c,a.lookup y=some c)->∃c,(l.foldl (Ir b) a).lookup y=some c
|[],_,h=>h
| (n,k)::r,a,h=>by
 rw[S5];refine Uk b r _ ?_;unfold Ir;split
 .rw[P7];split
  .exact⟨_,Z⟩
  .exact h
 .exact h
theorem Vt(b:Env){y:Str}:∀(l:List (Str×NameKind))(a:List (Str×Addr)),(y,NameKind.free)∈l->∃c,(l.foldl (Ir b) a).lookup y=some c
|[],_,h=>by simp at h
| (n,k)::r,a,h=>by
 rw[S5];rcases C1.mp h with e|h
 .cases e;refine Uk b r _ ⟨(b.cells.lookup y).getD 0,?_⟩;unfold Ir;simp only[beq_self_eq_true,A4a,P7]
 .exact Vt b r _ h
theorem Pk{a:Env}{y:Str}:∀{b:List (Str×NameKind)},(∀z∈b,z.2≠.cell) ->
 ((b.map λ(n,k)=>if(k==NameKind.free && a.scope.kind==.function && a.kindOf n==some .cell)then(n,NameKind.cell)else(n,k)).lookup y=some .cell \/
  (b.map λ(n,k)=>if(k==NameKind.free && a.scope.kind==.function && a.kindOf n==some .cell)then(n,NameKind.cell)else(n,k)).lookup y=some .free)->(y,NameKind.free)∈b
|[],_,h=>by simp at h
| (n,k)::r,hc,h=>by
 have e:=@Pk a y r (λz g=>hc z (C4 _ g));have h':List.lookup y ((if(k==NameKind.free && a.scope.kind==.function && a.kindOf n==some .cell)=true then(n,NameKind.cell)else(n,k))::(r.map λ(n,k)=>if(k==NameKind.free && a.scope.kind==.function && a.kindOf n==some .cell)then(n,NameKind.cell)else(n,k)))=some .cell \/
  List.lookup y ((if(k==NameKind.free && a.scope.kind==.function && a.kindOf n==some .cell)=true then(n,NameKind.cell)else(n,k))::(r.map λ(n,k)=>if(k==NameKind.free && a.scope.kind==.function && a.kindOf n==some .cell)then(n,NameKind.cell)else(n,k)))=some .free:=h
 clear h;by_cases d:(k==NameKind.free && a.scope.kind==.function && a.kindOf n==some .cell)=true
 .rw[Z7 d]at h';have f:k=.free:=by
   simp only[P8,A6b]at d;exact d.1.1
  simp only[P7]at h';cases c:y==n with
  |true =>
   have:y=n:=by simpa using c
   subst this f;exact C2
  |false =>
   rw[c]at h';exact C4 _ (e h')
 .rw[Z4 d]at h';simp only[P7]at h';cases c:y==n with
  |true =>
   rw[c]at h';have:y=n:=by simpa using c
   subst this;rcases h' with z|z
   .exact absurd (X4 z) (hc (y,k) C2)
   .cases X4 z;exact C2
  |false =>
   rw[c]at h';exact C4 _ (e h')
theorem Mt{a:Env}{y:Str}:∀{b:List (Str×NameKind)},b.lookup y=some .free ->
 ((b.map λ(n,k)=>if(k==NameKind.free && a.scope.kind==.function && a.kindOf n==some .cell)then(n,NameKind.cell)else(n,k)).lookup y=some .cell \/
  (b.map λ(n,k)=>if(k==NameKind.free && a.scope.kind==.function && a.kindOf n==some .cell)then(n,NameKind.cell)else(n,k)).lookup y=some .free)
|[],h=>by simp at h
| (n,k)::r,h=>by
 have e:=@Mt a y r;show List.lookup y ((if(k==NameKind.free && a.scope.kind==.function && a.kindOf n==some .cell)=true then(n,NameKind.cell)else(n,k))::(r.map λ(n,k)=>if(k==NameKind.free && a.scope.kind==.function && a.kindOf n==some .cell)then(n,NameKind.cell)else(n,k)))=some .cell \/
  List.lookup y ((if(k==NameKind.free && a.scope.kind==.function && a.kindOf n==some .cell)=true then(n,NameKind.cell)else(n,k))::(r.map λ(n,k)=>if(k==NameKind.free && a.scope.kind==.function && a.kindOf n==some .cell)then(n,NameKind.cell)else(n,k)))=some .free
 rw[P7]at h;by_cases d:(k==NameKind.free && a.scope.kind==.function && a.kindOf n==some .cell)=true
 .rw[Z7 d];simp only[P7];cases c:y==n with
  |true=>exact .inl Z
  |false=>rw[c]at h;exact e h
 .rw[Z4 d];simp only[P7];cases c:y==n with
  |true=>rw[c]at h;exact .inr h
  |false=>rw[c]at h;exact e h
section
variable{prog:N_}{w:Q_}{A:Around}{R:Result->Shared->Prop}{s:P_}
noncomputable abbrev VF(ifs:List Expr)(env:Env):Sem Bool:=forIn ifs true λc r=>if r=true then do let ok <-isTrue c env (eval c env);pure (ForInStep.yield ok)else pure (ForInStep.yield r)
theorem Uf{q a i:Expr}{t:List Expr}{c:Scope}{pos:Pos}{it p:S_}{b:Env}(I:Nat->Shared->Prop)
  (turn:∀n s,I n s->wpAny (model prog w) A (pyNext it) (λr d=>match r with
   |none=>R (.ok .next) d
   |some v=>wpAny (model prog w) A (letOwnedTupleGo a it v) (λ_ j=>wpAny (model prog w) A (assign a b v) (λ_ k =>
     wpAny (model prog w) A (VF t b) (λok e =>
      if ok=true then wpAny (model prog w) A (eval q b) (λx l =>
       wpAny (model prog w) A (call (.builtin "list.append") [p,x]) (λ_ o=>∃m,m<n/\I m o) (λ_ _=>False) l) (λ_ _=>False) e
      else ∃m,m<n/\I m e) (λ_ _=>False) k) (λ_ _=>False) j) (λ_ _=>False) d) (λ_ _=>False) s)
  (n:Nat) (h:I n s):codeAny (model prog w) A (.compLoop (.ListComp q [⟨a,i,t,0⟩] c pos) 0 it p b) R s:=by
 refine codeAny_loop Z I (λn s B=>?_) n h;show wpAny _ A ((compTurn (.ListComp q [⟨a,i,t,0⟩] c pos) 0 it p b).onRaise (λx=>do noteFrame x b;theTreesLotGoes x)) _ _ s;refine wpAny_noted ?_;rw[compTurn_list];refine Z3 (A6h (Z3 (A1b (turn n s B) (λr d f=>?_) λ_ _ h'=>h'.elim)));cases r with
 |none=>exact Z6 f
 |some v =>
  refine Z3 (A1b f (λ_ j h₀=>?_) λ_ _ h'=>h'.elim);refine Z3 (A1b h₀ (λ_ k u=>Z3 (A1b u (λok e g=>?_) λ_ _ h'=>h'.elim)) λ_ _ h'=>h'.elim);cases ok with
  |false=>exact Z6 ⟨Z,g⟩
  |true =>
   exact Z3 (Z3 (A1b g (λx l y=>Z3 (A1b y (λ_ o z=>Z6 (Z6 ⟨Z,z⟩)) λ_ _ h'=>h'.elim)) λ_ _ h'=>h'.elim))
end
noncomputable def Oo(cs:J_)(σ:St):St:=cs.map λj=>(σ[j]?).getD none
noncomputable def cxC(X:Cx)(scope:Scope)(N:K_)(s:P_)(H:Hp)(ex:H_):Cx :=
 {X with N:=N,s₀:=s,H₀:=H,env:=compEnvC scope (Vu X.env scope.names) s.heap.objs.size X.env,outer:=X.stack,stack:=X.stack,ex:=ex,fn:=λ_=>false,pn:=[],xe:=λ_ _=>False}
def PTs(X:Cx)(ifs:List Expr)(t:TT):Prop :=
 ∀(pins:A_)(s:P_)(σ:St)(H:Hp)(Q:Bool->Hp->Prop),Inv X pins σ H s->t σ H Q->wpAny (model X.prog X.w) X.A (VF ifs X.env) (TP X pins σ Q) X.xe s
def tYes:TT:=λ_ H Q=>Q true H
theorem BP{X:Cx}:PTs X [] tYes:=λ_ _ _ H _ I h=>wpAny_tests_nil ⟨H,I,h⟩
structure BK(X:Cx)(scope:Scope)(N:K_)(k:Nat)(cs:J_):Prop where
cell:∀y∈scope.names,y.2≠.cell
kind:scope.kind=.function
names:∀y∈scope.names,y.2=.local->scope.names.lookup y.1=some .local
free:∀y∈scope.names,y.2=.free->X.env.scope.names.lookup y.1=some .cell\/X.env.scope.names.lookup y.1=some .free
len:N.length=k+cs.length
cap:∀j,j<cs.length->∃x,N[k+j]?=some x/\X.N[cs.getD j 0]?=some x/\scope.names.lookup x=some .free
def GP(k:Nat)(cs:J_)(g:TG)(tc:TT)(te:TE)(J:It)(σ:St)(H1:Hp)(fin:List V->Hp->Prop):Prop :=
 ∃W:Nat->Nat->List V->Hp->Prop,(∃m,W 0 m [] H1)/\∀i m acc H,W i m acc H ->
  (J.stop i H/\fin acc H)\/(J.go i H/\∃Nx:List V->Hp->Prop,(∀acc' H',Nx acc' H'->∃m',m'<m/\W (i+1) m' acc' H')/\∀x H',J.yld i H x H'->g x (List.replicate k none++Oo cs σ) H' fun σ2 H2=>(∃ts:St,ts.length=k/\σ2=ts++Oo cs σ)/\acc.length<sizeLine /\
   tc σ2 H2 λb H3=>if b=true then te σ2 H3 λv H4=>Nx (acc++[v]) H4 else Nx acc H3)
def tComp(k:Nat)(cs:J_)(wi:TI)(g:TG)(tc:TT)(te:TE):TE:=fun σ H Q=>wi σ H λJ H1=>GP k cs g tc te J σ H1 λacc H2=>∀p,H2 p=none->Q (.ref p) (upd H2 p (.lst acc))
section
variable{X:Cx}{tg iter elt:Expr}{ifs:List Expr}{scope:Scope}{pos:Pos}{wi:TI}{g:TG}{tc:TT}{te:TE}{N:K_}{k:Nat}{cs:J_}
theorem Inv.block{t:A_}{σ:St}{H:Hp}{s C:P_}{G:H_}(S:BK X scope N k cs)(I:Inv X t σ H s)
  (f:∀b∈G,DC X t H b/\∃o,s.heap.get? b=some o) (P:C.os=s.os) (hg:AllBare C.gens) (E:∀b o,s.heap.get? b=some o->C.heap.get? b=some o) (hn:∃m,C.heap.Ns s.heap.objs.size m) :
  Inv (cxC X scope N s H G) [] (List.replicate k none++Oo cs σ) H C:=by
 have A:∀{x c},(Vu X.env scope.names).lookup x=some c->X.env.cells.lookup x=some c:=λ{x c} h=>by
  rcases Rp X.env _ _ h with z|⟨z,e⟩
  .simp at z
  .obtain⟨a,ha⟩:=I.ok.has x (S.free _ z Z);rw[e,ha];rfl
 have Q:∀b,b∈G->b≠s.heap.objs.size:=λb r z=>by
  obtain⟨_,o,B⟩:=f b r;exact absurd (D3 B) (by rw[z];exact O3 _)
 refine⟨⟨I.ok.mod,S.kind,I.ok.glob,I.ok.blt,C0 _,λx y c K d=>I.ok.inj x y c (A K) (A d),λx hx=>?_,λx c h _=>(nomatch h),I.ok.hd,I.ok.frames,.inl Z,λb r=>⟨Q b r,λx c h=>?_⟩,I.bs,?_,λb o e r=>?_,λb r hf=>?_,I.stack,I.stkFree⟩,
  P,hg,Un.kept E,?_,λx c h=>?_,I.hok.fresh (C0 _),λx c h=>I.freeC x c (A h),λp hp=>absurd (show p∈([]:A_)from hp) A6,I.hok.kept E,?_⟩
 .exact Vt X.env _ _ (Pk S.cell hx)
 .exact(f b r).1.2.2.2.2.1 x c (A h)
 .exact C9 I.ok.bsz I.sz
 .rcases(f b r).1.2.2.2.1 with z|z
  .exact I.ok.noex b o e z
  .exact absurd (F3 (D3 e) (C9 I.ok.bsz z)) (O3 _)
 .rcases C1.mp (I.stkSub b hf)with z|z
  .exact(f b r).1.2.1 z
  .exact(f b r).1.2.2.1 z
 .obtain⟨m,hm⟩:=hn;obtain⟨mo,aa,O⟩:=I.loc;refine⟨m,hm,λi x v K d h3=>?_⟩;have hi:k<=i:=by
   by_cases z:i<k
   .rw[M4 (by simpa using z),V2,Z7 z]at d;cases d
   .lia
  obtain⟨j,rfl⟩:∃j,i=k+j:=⟨i-k,by lia⟩
  rw[F8 A6,N8,Nat.add_sub_cancel_left]at d;unfold Oo at d;rw[B8]at d;have M:j<cs.length:=by
   by_cases z:j<cs.length
   .exact z
   .rw[R9 A0]at d;cases d
  obtain⟨x',R,T,F⟩:=S.cap j M;rw[show N[k+j]?=some x from K]at R;cases R;rw[C5 M]at d;have n:(σ[cs[j]]?).getD none=some v:=X4 d;rw[C7,C5 M]at T;have Y:σ[cs[j]]?=some (some v):=by
   cases q:σ[cs[j]]? with
   |none=>rw[q]at n;cases n
   |some w=>rw[q]at n;rw[show w=some v from n]
  have W:=S.free (x,.free) (A0g F) Z;obtain⟨u,ru,l⟩:=O _ x v T Y (.inr W);refine⟨u,ru,?_⟩;rcases l with ⟨z,_⟩|⟨_,c,L,z⟩
  .have z':X.env.scope.names.lookup x=some .local:=z;rcases W with q|q<;>· rw[z']at q;cases q
  .obtain⟨c',U⟩:=Vt X.env _ [] (A0g F);have V:=A U;rw[L]at V;cases V;obtain⟨o,B,D⟩:=z;exact .inr ⟨Mt F,c,U,o,E _ _ B,D⟩
 .obtain⟨v,o,B,D⟩:=I.cell x c (A h);exact⟨v,o,E _ _ B,D⟩
 .show(List.replicate k none++Oo cs σ).length=N.length;rw[C3,N8,S.len];unfold Oo;rw[B6]
end
structure TurnQ(C:Cx->Prop)(P:N_)(w:Q_)(K:O_)(tg:Expr)(J:It)(fp:H_)(it:R_)(tn:Nat->Heap->Prop):Prop where
obj:∀i h,tn i h->∀b∈fp,∃o,h.get? b=some o/\∀v,o.data≠.cell v
keep:∀i h h',tn i h->(∀b∈fp,∀o,h.get? b=some o->h'.get? b=some o)->tn i h'
item:∀(X:Cx),C X->X.prog=P->X.w=w->X.K=K->∀(i:Nat)(pins:A_)(s:P_)(σ:St)(H:Hp)(E:B_),Inv X pins σ H s->(∀b∈fp,DC X pins H b)->tn i s.heap->J.go i H ->
 wpAny (model P w) X.A (pyNext (.ref it)) (λr s1=>∃u,r=some u/\wpAny (model P w) X.A (letOwnedTupleGo tg (.ref it) u) (λ_ s2=>∃x H',Inv X pins σ H' s2/\Bd x u/\J.yld i H x H'/\tn (i+1) s2.heap/\∀b∈fp,H' b=none) E s1) E s
done:∀(X:Cx),C X->X.prog=P->X.w=w->X.K=K->∀(i:Nat)(pins:A_)(s:P_)(σ:St)(H:Hp)(E:B_),Inv X pins σ H s->(∀b∈fp,DC X pins H b)->tn i s.heap->J.stop i H ->
 wpAny (model P w) X.A (pyNext (.ref it)) (λr s1=>r=none/\Inv X pins σ H s1) E s
self:∀(A:Around)(i:Nat)(s:P_)(Q:B_)(E:B_),tn i s.heap->Q (.ref it) s->wpAny (model P w) A (pyIter (.ref it)) Q E s
theorem QN.q{P:N_}{w:Q_}{K:O_}{a:Expr}{J:It}{fp:H_}{it:R_}{b:Nat->Heap->Prop}(T:QN P w K a J fp it b):TurnQ (λX=>X.calm=true) P w K a J fp it b :=
 ⟨T.obj,T.keep,λX c p w k=>T.item X p w k c,λX c p w k=>T.done X p w k c,T.self⟩
section
variable{X:Cx}{tg iter elt:Expr}{ifs:List Expr}{scope:Scope}{pos:Pos}{wi:TI}{g:TG}{tc:TT}{te:TE}{N:K_}{k:Nat}{cs:J_}{fin:List V->Hp->Prop}
theorem Ze{l:A_}{σ:St}{E:Hp}{sD s1:P_}{it D:R_}{fp:H_}{tn:Nat->Heap->Prop}{J:It}{n0:Nat}{RR:Result->Shared->Prop}{Cq:Cx->Prop}(hc:∀s H ex,Cq (cxC X scope N s H ex))(S:BK X scope N k cs)
  (hg:∀s H ex,PG (cxC X scope N s H ex) tg g) (ht:∀s H ex,PTs (cxC X scope N s H ex) ifs tc) (he:∀s H ex,PE (cxC X scope N s H ex) elt te)
  (ID:Inv X l σ E sD) (hD:sD.heap.get? D=some {cls:=.type "list",data:=.seq ([]:F_).toArray n0}) (ag:X.s₀.heap.objs.size<=D) (fD:DC X l E D) (aj:D∉fp)
  (T:TurnQ Cq X.prog X.w X.K tg J fp it tn) (st:tn 0 sD.heap) (f2:∀b∈fp,DC X l E b) (a:GP k cs g tc te J σ E fin)
  (au:s1.os=sD.os) (as:AllBare s1.gens) (hk:∀b o,sD.heap.get? b=some o->s1.heap.get? b=some o) (hn:∃m,s1.heap.Ns sD.heap.objs.size m)
  (ar:∀(B:Hp)(d:List V)(Y:P_),fin d B->B D=none->Inv X l σ (upd B D (.lst d)) Y->(∃m,Y.heap.Ns sD.heap.objs.size m)->DC X l (upd B D (.lst d)) sD.heap.objs.size->RR (.ok .next) Y) :
  codeAny (model X.prog X.w) X.A (.compLoop (.ListComp elt [⟨tg,iter,ifs,0⟩] scope pos) 0 (.ref it) (.ref D) (compEnvC scope (Vu X.env scope.names) sD.heap.objs.size X.env)) RR s1:=by
 obtain⟨W,⟨m0,w0⟩,turn⟩:=a;have U:∀b,b∈D::fp->∃o,sD.heap.get? b=some o:=λb a=>by
  rcases C1.mp a with rfl|z
  .exact⟨_,hD⟩
  .obtain⟨o,e,_⟩:=T.obj _ _ st b z;exact⟨o,e⟩
 have t:∀b∈D::fp,DC X l E b/\∃o,sD.heap.get? b=some o:=λb a=>⟨by
  rcases C1.mp a with rfl|z
  .exact fD
  .exact f2 b z,U b a⟩
 have Q:∀b,b∈D::fp->b≠sD.heap.objs.size:=λb a z=>by
  obtain⟨o,e⟩:=U b a;exact absurd (D3 e) (by rw[z];exact O3 _)
 have ak:∀b,b∈D::fp->b∉frs X.stack:=λb a hf=>by
  rcases C1.mp (ID.stkSub b hf)with z|z
  .exact(t b a).1.2.1 z
  .exact(t b a).1.2.2.1 z
 have I0:=ID.block S t au as hk hn;have ac:=I0.ok;have I:∀b,b∈D::fp->∀x c,(Vu X.env scope.names).lookup x=some c->c≠b:=λb a x c h=>(ac.exf b a).2 x c h;have L:∀{B:Hp}{pl:A_},(∀b∈fp,B b=none)->(∀p∈pl,p.1=D)->∀b∈fp,DC (cxC X scope N sD E (D::fp)) pl B b:=λhn G b a =>
  ⟨hn b a,Q b (.tail _ a),ak b (.tail _ a),.inl (.tail _ a),I b (.tail _ a),λp av z=>aj (by
   have:=G p av;rw[<-this,z];exact a)⟩
 refine Uf (λn O=>∃(i:Nat)(d:List V)(f:F_)(P:Nat)(B:Hp),Inv (cxC X scope N sD E (D::fp)) [] (List.replicate k none++Oo cs σ) B O/\tn i O.heap/\(∀b∈fp,B b=none)/\B D=none/\d.length<=sizeLine/\AR d f /\
  O.heap.get? D=some {cls:=.type "list",data:=.seq f.toArray P}/\W i n d B) ?_ m0
  ⟨0,[],[],n0,E,I0,T.keep _ _ _ st (λb _ o e=>hk b o e),λb a=>(f2 b a).1,fD.1,J0 _,.nil,hk _ _ hD,w0⟩
 rintro n s3 ⟨i,d,f,P,H3,I3,al,af,aa,ai,v3,e3,w3⟩;have ad:Inv (cxC X scope N sD E (D::fp)) [(D,{cls:=.type "list",data:=.seq f.toArray P})] (List.replicate k none++Oo cs σ) H3 s3:=I3.pins_of λp G=>by
  rw[D1]at G;subst G;exact⟨e3,aa,Q D (.head _),ak D (.head _),λv z=>by cases z⟩
 have one:∀p∈[((D,{cls:=.type "list",data:=.seq f.toArray P}):Addr×Obj)],p.1=D:=λp G=>by
  rw[D1]at G;subst G;rfl
 rcases turn i n d H3 w3 with ⟨am,qf⟩|⟨go,Nx,ah,step⟩
 .refine thn (T.done (cxC X scope N sD E (D::fp)) (hc _ _ _) Z Z Z i _ s3 _ H3 _ ad (L af one) al am) λr Y M=>?_;obtain⟨hr,I4⟩:=M;subst hr;have IX:Inv X l σ H3 Y:=ID.call' (ch:=D::fp) I4.os I4.base I4.hok I4.bare λb a=>⟨(t b a).1.2.2.2.1,(t b a).1.2.1,(t b a).1.2.2.2.2.1,(t b a).1.2.2.2.2.2⟩
  have p4:=(I4.pin (D,{cls:=.type "list",data:=.seq f.toArray P}) (by show _∈[]++[_];simp)).1;have IY:Inv X l σ (upd H3 D (.lst d)) Y:=by
   refine IX.track aa (O7 ag) (O7 (C9 ID.ok.bsz ag)) (X5 fD.2.1) fD.2.2.2.2.1 fD.2.2.2.2.2 (λb a z=>fD.2.2.1 (z▸a)) ?_;exact⟨ai,f,P,v3,p4⟩
  refine ar H3 d Y qf aa IY ?_ (ID.fpOk (C0 _) ?_)
  .obtain⟨m,hm,_⟩:=I4.loc;exact⟨m,hm⟩
  .rw[As (X5 (Q D (.head _)))];exact I4.free
 .refine thn (T.item (cxC X scope N sD E (D::fp)) (hc _ _ _) Z Z Z i _ s3 _ H3 (λ_ _=>False) ad (L af one) al go) λr Y M=>?_;obtain⟨u,hr,h4⟩:=M;subst hr;refine thn h4 λ_ s5 M=>?_;obtain⟨x,H5,I5,r5,y5,ab,aq⟩:=M;have an:=I5.pinned (L aq one) (T.obj _ _ ab);refine thn (hg sD E (D::fp) _ s5 _ H5 x u _ an r5 (step x H5 y5)) λ_ s6 M=>?_;obtain⟨R,H6,I6,⟨ts,tl,ae⟩,ay,q6⟩:=M;refine thn (ht sD E (D::fp) _ s6 R H6 _ I6 q6) λb s7 M=>?_;obtain⟨H7,I7,q7⟩:=M;have weak:∀{pl:A_}{B:Hp}{O:P_},Inv (cxC X scope N sD E (D::fp)) pl R B O->Inv (cxC X scope N sD E (D::fp)) [] (List.replicate k none++Oo cs σ) B O:=λ{pl B O} J=>by
   refine(J.weak (σ':=List.replicate k none++Oo cs σ) ?_ λj v e=>?_).pins_of λp G=>absurd G A6
   .rw[ae,C3,C3,N8,tl]
   .by_cases z:j<k
    .rw[M4 (by simpa using z),V2,Z7 z]at e;cases e
    .rw[F8 (by rw[N8];lia),N8]at e;rw[ae,F8 A0,tl];exact e
  have C:∀{pl:A_}{σ':St}{B:Hp}{O:P_},Inv (cxC X scope N sD E (D::fp)) (pl++Nk fp s5.heap) σ' B O->tn (i+1) O.heap/\∀b∈fp,B b=none:=λ{pl σ' B O} J =>
   ⟨T.keep _ _ _ ab λb a o e=>(J.pin (b,o) (J6 _ (J6 _ (Jf a e)))).1,λb a=>by
    obtain⟨o,e,_⟩:=T.obj _ _ ab b a;exact(J.pin (b,o) (J6 _ (J6 _ (Jf a e)))).2.1⟩
  cases b with
  |false =>
   have aw:Nx d H7:=by simpa using q7
   obtain⟨m',hm,w7⟩:=ah _ _ aw;rw[Z4 D2];have p7:=I7.pin (D,{cls:=.type "list",data:=.seq f.toArray P}) (J6 _ (T4 _ (D1.mpr Z)));exact⟨m',hm,i+1,d,f,P,H7,weak I7,(C I7).1,(C I7).2,p7.2.1,ai,v3,p7.1,w7⟩
  |true =>
   rw[Z7 rfl]at q7;rw[Z7 rfl];refine thn (he sD E (D::fp) _ s7 R H7 _ I7 q7) λy s8 M=>?_;obtain⟨v,H8,I8,r8,q8⟩:=M;obtain⟨m',hm,w8⟩:=ah _ _ q8;have p8:=I8.pin (D,{cls:=.type "list",data:=.seq f.toArray P}) (J6 _ (T4 _ (D1.mpr Z)));have ax:=v3.length;refine A3h F.slot_list_append ⟨_,p8.1,Z⟩ F.entry_list_append (F.args_list_append_2 _ _) (PySem.list_append D f.toArray P y (by rw[D4];lia)) ⟨p8.1,?_⟩;have q:=PySem.IsL.update p8.1 (·.push y);have eq:f.toArray.push y=(f++[y]).toArray:=by simp
   dsimp only at q;rw[eq]at q;have ao:Inv (cxC X scope N sD E (D::fp)) ([]++Nk fp s5.heap) R H8 s8:=I8.pins_of λp G=>I8.pin p (J6 _ (J6 _ G));have I9:=ao.turned (t':=s8.toks) (it:=D) (h':=s8.heap.update D (Obj.mapSeq (·.push y))) (λb o a e=>(V9 s8.heap (Obj.mapSeq (·.push y)) (X5 a)).trans e) p8.2.1 (Q D (.head _)) (.inl (.head _)) (I D (.head _))
    (λp G z=>aj (by
     have:=(QY (fp:=fp) (h:=s5.heap) (p:=p) (by simpa[cxC] using G)).1;rw[z]at this;exact this))
   refine⟨m',hm,i+1,d++[v],f++[y],_,H8,weak I9,(C I9).1,(C I9).2,p8.2.1,?_,v3.append (.cons r8 .nil),q,w8⟩;rw[C3,R8];lia
theorem Qh{d:A_}{σ:St}{B:Hp}{a:P_}{it:R_}{fp:H_}{I:Nat->Heap->Prop}{J:It}{RR:Value->Addr->Result->Shared->Prop}{E:B_}{Cq:Cx->Prop}(U:∀s H q,Cq (cxC X scope N s H q))(S:BK X scope N k cs)
  (Y:∀s H q,PG (cxC X scope N s H q) tg g) (ht:∀s H q,PTs (cxC X scope N s H q) ifs tc) (W:∀s H q,PE (cxC X scope N s H q) elt te)
  (t:Inv X d σ B a) (T:TurnQ Cq X.prog X.w X.K tg J fp it I) (M:I 0 a.heap) (P:∀b∈fp,DC X d B b) (R:GP k cs g tc te J σ B fin)
  (F:∀(D C:R_)(r:Hp)(c:List V)(u:P_),fin c r->r D=none->Inv X d σ (upd r D (.lst c)) u->(∃m,u.heap.Ns C m)->DC X d (upd r D (.lst c)) C->RR (.ref D) C (.ok .next) u) :
  wpAny (model X.prog X.w) X.A (newList []) (λc f=>wpAny (model X.prog X.w) X.A (newFunctionEnv scope X.env.globals (Vu X.env scope.names) [] X.env.qual none .none (some X.env)) (λl x =>
   codeAny (model X.prog X.w) X.A (.compStart (.ListComp elt [⟨tg,iter,ifs,0⟩] scope pos) 0 (.ref it) c {l with scope:=relabel scope X.env}) (RR c l.locals) x) E f) E a:=by
 refine A3a (wpAny_newFunctionEnv S.cell (by intro y hy;simp at hy) (λn h i=>?_) S.kind);dsimp only at h i⊢;have j:∀b o,a.heap.get? b=some o->(a.heap.push {cls:=.type "list",dict:=none,data:=.seq ([]:F_).toArray}).get? b=some o:=λb o e=>B9 _ e;have O:Inv X d σ B {a with heap:=a.heap.push {cls:=.type "list",dict:=none,data:=.seq ([]:F_).toArray} }:=t.kept (t':=a.toks) j;have Q:(a.heap.push {cls:=.type "list",dict:=none,data:=.seq ([]:F_).toArray}).get? a.heap.objs.size=some {cls:=.type "list",data:=.seq ([]:F_).toArray}:=D0 _ Z;have G:a.heap.objs.size∉fp:=λz=>by
  obtain⟨o,e,_⟩:=T.obj _ _ M _ z;exact absurd (D3 e) (O3 _)
 have v:I 0 (a.heap.push {cls:=.type "list",dict:=none,data:=.seq ([]:F_).toArray}):=T.keep _ _ _ M λb _ o e=>j b o e;have L:∀b o,(a.heap.push {cls:=.type "list",dict:=none,data:=.seq ([]:F_).toArray}).get? b=some o->n.get? b=some o:=λb o e=>i.extBut b o (F2 (D3 e)) (B9 _ e);have p:∀f:Shared,f={a with heap:=n,toks:=a.toks+([]:List (Str×Value)).length} ->
   codeAny (model X.prog X.w) X.A (.compLoop (.ListComp elt [⟨tg,iter,ifs,0⟩] scope pos) 0 (.ref it) (.ref a.heap.objs.size) (compEnvC scope (Vu X.env scope.names) (a.heap.push {cls:=.type "list",dict:=none,data:=.seq ([]:F_).toArray}).objs.size X.env))
    (RR (.ref a.heap.objs.size) (a.heap.push {cls:=.type "list",dict:=none,data:=.seq ([]:F_).toArray}).objs.size) f:=by
  rintro f rfl;exact Ze (sD:={a with heap:=a.heap.push {cls:=.type "list",dict:=none,data:=.seq ([]:F_).toArray} }) U S Y ht W O Q t.sz (t.fpOk (C0 _) t.fresh) G T v P R Z t.bare L ⟨_,h⟩ λr c u=>F _ _ r c u
 exact codeAny_compStart_list (p _ Z) (T.self _ 0 _ _ _ (T.keep _ _ _ v λb _ o e=>L b o e) (p _ Z))
theorem Ck(z:X.calm=true)(S:BK X scope N k cs)(G:PI X tg iter wi)(F:∀s H d,PG (cxC X scope N s H d) tg g)(O:∀s H d,PTs (cxC X scope N s H d) ifs tc)(B:∀s H d,PE (cxC X scope N s H d) elt te)
  (M:∀x,foldedSetIterable iter X.env x=pure x:=by intro _;rfl):PE X (.ListComp elt [⟨tg,iter,ifs,0⟩] scope pos) (tComp k cs wi g tc te):=by
 intro a s σ H Q I h;rw[eval_ListComp];refine wpAny_comprehension_free (use:=none) Z M (Qj λy P E=>I.ok.has _ (S.free y P E)) S.kind S.names (thn (G a s σ H _ I h) λv s1 t=>thn t λR s2 u=>?_);obtain⟨it,fp,tn,J,H2,rfl,n,T,j,r,i⟩:=u;refine Qh (RR:=λc C=>compPost (model X.prog X.w) X.A X.xe none (EP X a σ Q) c C) (Cq:=λX=>X.calm=true) (λ_ _ _=>z) S F O B n T.q j r i λD C l c W V U p L f=>?_;obtain⟨m,K⟩:=L;refine⟨m,K,λh' Y=>⟨.ref D,upd l D (.lst c),?_,Z,V D U⟩⟩;exact p.turned (t':=W.toks) (it:=C) (λb o i e=>(Y.2 b i).trans e) f.1 f.2.1 f.2.2.2.1 f.2.2.2.2.1 f.2.2.2.2.2
def Zr(i k:Nat)(cs:J_)(wi:TI)(g:TG)(tc:TT)(te:TE):TS:=λD σ H=>wi σ H λJ H1=>GP k cs g tc te J σ H1 λacc H2=>∀p,H2 p=none->D.nx (σ.set i (some (.ref p))) (upd H2 p (.lst acc))
theorem Ge{i:Nat}{y:Str}{l d:Pos}(hc:X.calm=true)(Y:X.N.Nodup)(u:X.N[i]?=some y)(p:X.env.scope.names.lookup y=some .local)(S:BK X scope N k cs)(hi:PI X tg iter wi)
  (hg:∀s H n,PG (cxC X scope N s H n) tg g) (ht:∀s H n,PTs (cxC X scope N s H n) ifs tc) (he:∀s H n,PE (cxC X scope N s H n) elt te)
  (E:swapsWith (.ListComp elt [⟨tg,iter,ifs,0⟩] scope pos) (some (.Name y l)) d.line X.env=pure true:=by rfl) (hs:∀x,foldedSetIterable iter X.env x=pure x:=by intro _;rfl) :
  PS X (.Assign [.Name y l] (.ListComp elt [⟨tg,iter,ifs,0⟩] scope pos) d) (Zr i k cs wi g tc te):=by
 intro c s σ H D I h;rw[exec_Assign_Name_used _ _ _ _ E];refine Z3 (A6h (Z3 ?_));show wpAny _ X.A (do let _ <-comprehension (.ListComp elt [⟨tg,iter,ifs,0⟩] scope pos) scope X.env _ (newList []) false (eval iter X.env) (some (assign (.Name y l) X.env))) _ _ s;refine Z3 (A1b (wpAny_comprehension_free (use:=some (assign (.Name y l) X.env)) (Q:=λ_ r=>SP X c D .next r) Z hs (Qj λy p hf=>I.ok.has _ (S.free y p hf)) S.kind S.names
  (thn (hi c s σ H _ I h) λv s1 V=>thn V λaa s2 W=>?_)) (λ_ r hq=>Z6 (Z6 hq)) λ_ _ e=>e)
 obtain⟨it,fp,tn,J,H2,rfl,O,T,K,U,t⟩:=W;refine Qh (RR:=λf C=>compPost (model X.prog X.w) X.A X.xe (some (assign (.Name y l) X.env)) (λ_ r=>SP X c D .next r) f C) (Cq:=λX=>X.calm=true) (λ_ _ _=>hc) S hg ht he O T.q K U t λL C M f s4 qf nD P hn j=>?_;obtain⟨m,hm⟩:=hn;show wpAny _ X.A (assign (.Name y l) X.env (.ref L)) _ _ _;refine wpAny_assign_Name (QU P Y u (.inl p) (v:=.ref L) Z (λs5 R B=>?_) (.inr p));obtain⟨a,sb,ha⟩:=B;have F:C≠a:=by
  rcases ha with z|z
  .rw[z];exact j.2.1
  .exact λq=>j.2.2.2.2.1 y a z q.symm
 refine⟨m,hm.sameBut sb F,λh' G=>⟨σ.set i (some (.ref L)),upd M L (.lst f),?_,qf L nD⟩⟩;exact R.turned (t':=s5.toks) (it:=C) (λb o t e=>(G.2 b t).trans e) j.1 j.2.1 j.2.2.2.1 j.2.2.2.2.1 j.2.2.2.2.2
end
section
variable{K:O_}{k:Nat}{cs:J_}{g:TG}{tc:TT}{te:TE}{σ:St}{H:Hp}{fin:List V->Hp->Prop}
abbrev Bt(k:Nat)(cs:J_)(g:TG)(tc:TT)(te:TE)(σ:St)(x:V)(acc:List V)(H:Hp)(Nx:List V->Hp->Prop):Prop :=
 g x (List.replicate k none++Oo cs σ) H fun σ2 H2=>(∃ts:St,ts.length=k/\σ2=ts++Oo cs σ)/\acc.length<sizeLine/\tc σ2 H2 λb H3=>if b=true then te σ2 H3 λv H4=>Nx (acc++[v]) H4 else Nx acc H3
theorem Et{a:R_}{xs:List V}(c:Nat->List V->Hp->Prop)(j:c 0 [] H)(o:∀i b H,i<=xs.length->c i b H->SqL K H a xs)
  (r:∀i x b H,xs[i]?=some x->c i b H->Bt k cs g tc te σ x b H (c (i+1))) (l:∀b H,c xs.length b H->fin b H):GP k cs g tc te (Itl K a) σ H fin:=by
 refine⟨λi m b H=>m=xs.length-i/\i<=xs.length/\c i b H,⟨xs.length,by simp,J0 _,j⟩,?_⟩;rintro i m b H ⟨rfl,n,p⟩;have q:=o i b H n p;by_cases d:i<xs.length
 .refine .inr ⟨⟨xs,xs[i],q,by simp[d]⟩,c (i+1),λf h s=>⟨xs.length-(i+1),by lia,Z,d,s⟩,λx h y=>?_⟩;obtain⟨e,y⟩:=y;subst e;exact r i x b _ (y xs q) p
 .have e:i=xs.length:=by lia
  subst e;exact .inl ⟨⟨xs,q,C0 _⟩,l b H p⟩
theorem OL{a:R_}{xs:List V}(c:Nat->List V->Hp->Prop)(j:c 0 [] H)(o:∀i b H,i<=xs.length->c i b H->SqT K H a xs)
  (r:∀i x b H,xs[i]?=some x->c i b H->Bt k cs g tc te σ x b H (c (i+1))) (l:∀b H,c xs.length b H->fin b H):GP k cs g tc te (Itt K a) σ H fin:=by
 refine⟨λi m b H=>m=xs.length-i/\i<=xs.length/\c i b H,⟨xs.length,by simp,J0 _,j⟩,?_⟩;rintro i m b H ⟨rfl,n,p⟩;have q:=o i b H n p;by_cases d:i<xs.length
 .refine .inr ⟨⟨xs,xs[i],q,by simp[d]⟩,c (i+1),λf h s=>⟨xs.length-(i+1),by lia,Z,d,s⟩,λx h y=>?_⟩;obtain⟨e,y⟩:=y;subst e;exact r i x b _ (y xs q) p
 .have e:i=xs.length:=by lia
  subst e;exact .inl ⟨⟨xs,q,C0 _⟩,l b H p⟩
theorem NM{lo:Int}{n:Nat}(c:Nat->List V->Hp->Prop)(h:c 0 [] H)(l:∀i a H,i<n->c i a H->Bt k cs g tc te σ (.int (lo+i)) a H (c (i+1)))(j:∀a H,c n a H->fin a H):GP k cs g tc te (Itr lo n) σ H fin:=by
 refine⟨λi m a H=>m=n-i/\i<=n/\c i a H,⟨n,by simp,J0 _,h⟩,?_⟩;rintro i m a H ⟨rfl,q,p⟩;by_cases b:i<n
 .refine .inr ⟨b,c (i+1),λd f o=>⟨n-(i+1),by lia,Z,b,o⟩,λx f y=>?_⟩;obtain⟨e,y⟩:=y;subst e y;exact l i a _ b p
 .have e:i=n:=by lia
  subst e;exact .inl ⟨C0 _,j a H p⟩
end
section
variable{prog:N_}{w:Q_}{A:Around}{E:B_}{s:P_}
theorem MC{I t:R_}{k:Nat}{vs:M_}{v:S_}{Q:B_}(c:s.heap.IsTupleIter I t k)(h:s.heap.IsTuple t vs)(i:vs[k]?=some v)
  (q:∀g,g.IsTupleIter I t (k+1)->Heap.SameBut I s.heap g->Q v {s with heap:=g}):wpAny (model prog w) A (Builtin.SmallTypes.nextOf (.ref I)) Q E s:=by
 obtain⟨l,b,d,a⟩:=id c;obtain⟨m,f,_,j,e⟩:=h;unfold Builtin.SmallTypes.nextOf;refine Z3 (wpAny_callSpecial?_slot (name:=Str.ofString "__next__") c.typeIs A3b (A0e A3b c.typeIs F.entry_tuple_iterator_next ?_ (F.args_tuple_iterator_next_1 _)));show wpAny _ _ (field (.ref I) 0 >>= _) _ _ s;refine Z3 (A1e b a (x:=.ref t) Z ?_);show wpAny _ _ (if(Value.ref t==Value.none)=true then _ else _) _ _ s;rw[Z4 (λz:(Value.ref t==Value.none)=true=>D2 z)];show wpAny _ _ (field (.ref I) 1 >>= _) _ _ s;refine Z3 (A1e b a (x:=.int k 0) Z ?_);show wpAny _ _ (seqItems? (.ref t) >>= _) _ _ s;refine Z3 (A0h f e ?_);simp only[F4,i];refine Z3 (A6e b a A6 (Z6 ⟨v,Z,Z6 (q _ ?_ (A4d ..))⟩));exact⟨_,W2 _ b (Obj.isFreed_of_fields (A4f a _)),(Obj.cls_mapFields ..).trans d,by rw[A4f a];simp[rawInt]⟩
theorem Nt{I t:R_}{k:Nat}{vs:M_}{Q:B_}(f:A.handled=none)(d:s.heap.IsTupleIter I t k)(j:s.heap.IsTuple t vs)(l:vs[k]?=none)
  (q:∀g e,Heap.ExtBut I s.heap g->(∃o,g.get? e=some o/\o.cls=.type "StopIteration")->E (.ref e) {s with heap:=g}):wpAny (model prog w) A (Builtin.SmallTypes.nextOf (.ref I)) Q E s:=by
 obtain⟨r,c,n,b⟩:=id d;obtain⟨u,i,_,p,h⟩:=j;unfold Builtin.SmallTypes.nextOf;refine Z3 (wpAny_callSpecial?_slot (name:=Str.ofString "__next__") d.typeIs A3b (A0e A3b d.typeIs F.entry_tuple_iterator_next ?_ (F.args_tuple_iterator_next_1 _)));show wpAny _ _ (field (.ref I) 0 >>= _) _ _ s;refine Z3 (A1e c b (x:=.ref t) Z ?_);show wpAny _ _ (if(Value.ref t==Value.none)=true then _ else _) _ _ s;rw[Z4 (λz:(Value.ref t==Value.none)=true=>D2 z)];show wpAny _ _ (field (.ref I) 1 >>= _) _ _ s;refine Z3 (A1e c b (x:=.int k 0) Z ?_);show wpAny _ _ (seqItems? (.ref t) >>= _) _ _ s;refine Z3 (A0h i h ?_);simp only[F4,l];refine Z3 (A5f (Z3 (A6e c b A6 ?_)));show wpAny _ _ (newExc (.type "StopIteration") [] >>= _) _ _ _;refine Z3 ?_;simp only[newExc,newTuple];refine Z3 (A3a ?_ (by size_fits));refine Z3 (m:=firstArgMember _ _) (wpAny_of_eq (a:=Value.none) (by first|rfl|(simp only[firstArgMember];rfl)) (A3a ?_ (by size_fits)));simp only[raiseNew];refine Z3 (wpAny_handled ?_)
 first|rw[show A.in1.handled=none from f]|rw[f]
 refine Z3 (Z6 (wpAny_throw (q _ _ (((A4d ..).extBut.push _).push _) ⟨_,D0 _ Z,Z⟩)))
def Cs:Bool->Heap->Addr->Addr->Nat->Prop
|true,h,I,l,k=>h.IsTupleIter I l k
|false,h,I,l,k=>h.IsListIter I l k
def DX:Bool->Heap->Addr->Array Value->Prop
|true,h,l,vs=>h.IsTuple l vs
|false,h,l,vs=>h.IsList l vs
def SqX(K:O_):Bool->Hp->Addr->List V->Prop
|true,H,a,xs=>SqT K H a xs
|false,H,a,xs=>SqL K H a xs
theorem Cs.move{b:Bool}{h g:T_}{I l:R_}{k:Nat}(x:Cs b h I l k)(e:∀o,h.get? I=some o->g.get? I=some o):Cs b g I l k:=by
 cases b with
 |true=>obtain⟨o,a,r⟩:=x;exact⟨o,e _ a,r⟩
 |false=>obtain⟨o,a,r⟩:=x;exact⟨o,e _ a,r⟩
theorem Cs.there{b:Bool}{h:T_}{I l:R_}{k:Nat}(x:Cs b h I l k):∃o,h.get? I=some o/\∀v,o.data≠.cell v:=by
 cases b with
 |true=>obtain⟨o,a,_,d⟩:=x;exact⟨o,a,λv z=>by rw[d]at z;cases z⟩
 |false=>obtain⟨o,a,_,d⟩:=x;exact⟨o,a,λv z=>by rw[d]at z;cases z⟩
theorem DX.move{b:Bool}{h g:T_}{l:R_}{vs:M_}(x:DX b h l vs)(e:∀o,h.get? l=some o->g.get? l=some o):DX b g l vs:=by
 cases b with
 |true=>obtain⟨o,a,r⟩:=x;exact⟨o,e _ a,r⟩
 |false=>obtain⟨o,a,r⟩:=x;exact⟨o,e _ a,r⟩
theorem DH{b:Bool}{I l:R_}{k:Nat}{vs:M_}{v:S_}{Q:B_}(a:Cs b s.heap I l k)(c:DX b s.heap l vs)(d:vs[k]?=some v)
  (q:∀g,Cs b g I l (k+1)->Heap.SameBut I s.heap g->Q v {s with heap:=g}):wpAny (model prog w) A (Builtin.SmallTypes.nextOf (.ref I)) Q E s:=by
 cases b with
 |true=>exact MC a c d q
 |false=>exact wpAny_nextOf_list_item a c d q
theorem Gr{b:Bool}{I l:R_}{k:Nat}{vs:M_}{Q:B_}(a:A.handled=none)(c:Cs b s.heap I l k)(d:DX b s.heap l vs)(f:vs[k]?=none)
  (q:∀g e,Heap.ExtBut I s.heap g->(∃o,g.get? e=some o/\o.cls=.type "StopIteration")->E (.ref e) {s with heap:=g}):wpAny (model prog w) A (Builtin.SmallTypes.nextOf (.ref I)) Q E s:=by
 cases b with
 |true=>exact Nt a c d f q
 |false=>exact wpAny_nextOf_list_end a c d f q
theorem Gc{b:Bool}{l:R_}{vs:M_}{Q:B_}(a:DX b s.heap l vs)
  (q:∀g,Cs b g s.heap.objs.size l 0->g.objs.size=s.heap.objs.size+1->(∀c o,s.heap.get? c=some o->g.get? c=some o)->Q (.ref s.heap.objs.size) {s with heap:=g}):wpAny (model prog w) A (pyIter (.ref l)) Q E s:=by
 cases b with
 |true=>exact wpAny_pyIter_tuple a (q _ ⟨_,D0 _ Z,Z,Z⟩ (O6 ..) λc o e=>B9 _ e)
 |false=>exact A2h a (q _ ⟨_,D0 _ Z,Z,Z⟩ (O6 ..) λc o e=>B9 _ e)
structure Yd(z U O i j l m:R_):Prop where
nd:[z,U,O,i,j].Nodup
l:l∉[z,O,i,j]
m:m∉[z,O,i,j]
theorem Zi{b c:Bool}{z U O i j l m:R_}{k:Nat}{xs ys:M_}{x y p q:S_}{Q:B_}(D:Yd z U O i j l m)(L:IsZip s.heap z U O .none)(hU:IsPair s.heap U (.ref i) (.ref j))(hO:IsPair s.heap O p q)
  (hi:Cs b s.heap i l k) (hj:Cs c s.heap j m k) (hl:DX b s.heap l xs) (hm:DX c s.heap m ys) (hx:xs[k]?=some x) (hy:ys[k]?=some y)
  (fin:∀g,IsZip g z U O (rawInt s.heap.objs.size)->IsPair g O x y->Cs b g i l (k+1)->Cs c g j m (k+1)->IsPair g s.heap.objs.size x y->g.objs.size=s.heap.objs.size+1 ->
   (∀a o,a∉[z,O,i,j]->s.heap.get? a=some o->g.get? a=some o)->Q (.ref s.heap.objs.size) {s with heap:=g}) :
  wpAny (model prog w) A (Builtin.«zip.__next__» ⟨[.ref z],[]⟩) (λr s'=>∃v,r=.done (.ret v)/\Q v s') E s:=by
 obtain⟨nd,nl,nm⟩:=D;simp only[M6,C1,D7,K6,A4e,O5,and_true,A3d]at nd nl nm;obtain⟨⟨zU,V,zi,zj⟩,⟨UO,Ui,Uj⟩,⟨W,X⟩,ij⟩:=nd;obtain⟨lz,lO,li,lj⟩:=nl;obtain⟨mz,mO,mi,mj⟩:=nm;show wpAny _ _ (field (.ref z) 2 >>= _) _ _ _;refine Z3 (A1e L Z (x:=.bool false) Z ?_);show wpAny _ _ (field (.ref z) 3 >>= _) _ _ _;refine Z3 (A1e L Z (x:=.ref U) Z (Z3 (A0h hU Z ?_)));show wpAny _ _ (Builtin.SmallTypes.ownedTupleIsFree (.ref z) >>= _) _ _ _;refine Z3 ?_;unfold Builtin.SmallTypes.ownedTupleIsFree;refine Z3 (A1e L Z (x:=.none) Z (Z6 ?_));simp only[A4a];refine Z3 (A5f (Z3 (A1e L Z (x:=.ref O) Z (Z3 (A2e L A6 λh1 u C=>?_)))));replace u:IsZip h1 z U O .ellipsis:=u;refine Z3 ?_;simp only[List.zipIdx_cons,List.zipIdx_nil,List.forIn_cons,List.forIn_nil];refine Z3 (Z3 (A7a ?_));show wpAny _ _ (Builtin.SmallTypes.nextOf (.ref i) >>= _) _ _ _;refine Z3 (DH (hi.move λo e=>C.extBut _ _ (X5 zi) e) (hl.move λo e=>C.extBut _ _ lz e) hx λh2 aa F=>Z6 ?_);have I:IsPair h2 O p q:=F.extBut _ _ W (C.extBut _ _ (X5 V) hO);refine Z3 (A0h I Z (Z3 (A6f I λh3 t G=>?_)));replace t:IsPair h3 O x q:=t;refine Z3 (wpAny_letGo (Z6 (Z3 (Z3 (A7a ?_)))));show wpAny _ _ (Builtin.SmallTypes.nextOf (.ref j) >>= _) _ _ _;refine Z3 (DH (hj.move λo e=>G.extBut _ _ (X5 X) (F.extBut _ _ (X5 ij) (C.extBut _ _ (X5 zj) e))) (hm.move λo e=>G.extBut _ _ mO (F.extBut _ _ mi (C.extBut _ _ mz e))) hy λh4 ac N=>Z6 ?_);have K:IsPair h4 O x q:=N.extBut _ _ X t;refine Z3 (A0h K Z (Z3 (A6f K λd h P=>?_)));replace h:IsPair d O x y:=h;refine Z3 (wpAny_letGo (Z6 (Z6 (Z3 (A0h h Z (Z3 (wpAny_newTuple ?_)))))));have sz:d.objs.size=s.heap.objs.size:=by rw[P.1,N.1,G.1,F.1,C.1]
 have M:IsZip d z U O .ellipsis:=P.extBut _ _ V (N.extBut _ _ zj (G.extBut _ _ V (F.extBut _ _ zi u)));have kp:∀a o,a∉[z,O,i,j]->s.heap.get? a=some o->d.get? a=some o:=λa o f e=>by
  simp only[C1,D7,K6,A4e]at f;exact P.extBut _ _ f.2.1 (N.extBut _ _ f.2.2.2 (G.extBut _ _ f.2.1 (F.extBut _ _ f.2.2.1 (C.extBut _ _ f.1 e))))
 have ab:Cs b d i l (k+1):=aa.move λo e=>P.extBut _ _ (X5 W) (N.extBut _ _ ij (G.extBut _ _ (X5 W) e));have ad:Cs c d j m (k+1):=ac.move λo e=>P.extBut _ _ (X5 X) e;have S:z<d.objs.size:=D3 M;show wpAny _ _ (Builtin.SmallTypes.ownedTupleHandOut (.ref z) (.ref d.objs.size) >>= _) _ _ _;refine Z3 ?_;unfold Builtin.SmallTypes.ownedTupleHandOut;have Y:IsZip (d.push {cls:=.type "tuple",data:=.seq #[x,y]}) z U O .ellipsis:=B9 _ M;refine Z3 (A2e Y A6 λh7 B s7=>?_);replace B:IsZip h7 z U O (rawInt d.objs.size):=B;refine A2e B A6 λH n s8=>?_;replace n:IsZip H z U O (rawInt d.objs.size):=n;have T:∀a o,a≠z->d.get? a=some o->H.get? a=some o:=λa o na e=>s8.extBut _ _ na (s7.extBut _ _ na (B9 _ e));have hT:IsPair H d.objs.size x y:=s8.extBut _ _ (T6 S) (s7.extBut _ _ (T6 S) (D0 _ Z));have R:H.objs.size=d.objs.size+1:=by rw[s8.1,s7.1,O6]
 rw[sz]at n hT R;refine Z6 ⟨_,Z,?_⟩;show Q (.ref d.objs.size) _;rw[sz];refine fin H n (T _ _ (X5 V) h) (ab.move λo e=>T _ o (X5 zi) e) (ad.move λo e=>T _ o (X5 zj) e) hT R λa o f e=>T a o ?_ (kp a o f e);simp only[C1,D7,K6,A4e]at f;exact f.1
theorem Zh{b c:Bool}{z U O i j l m:R_}{k:Nat}{xs ys:M_}{p q:S_}{Q:Fin->Shared->Prop}(R:A.handled=none)(D:Yd z U O i j l m)(B:IsZip s.heap z U O .none)(hU:IsPair s.heap U (.ref i) (.ref j))(hO:IsPair s.heap O p q)
  (S:Cs b s.heap i l k) (hj:Cs c s.heap j m k) (T:DX b s.heap l xs) (hm:DX c s.heap m ys) (G:xs[k]?=none\/ys[k]?=none)
  (fin:∀g e,(∀a o,a∉[z,O,i,j]->s.heap.get? a=some o->g.get? a=some o)->(∃o,g.get? e=some o/\o.cls=.type "StopIteration")->E (.ref e) {s with heap:=g}) :
  wpAny (model prog w) A (Builtin.«zip.__next__» ⟨[.ref z],[]⟩) Q E s:=by
 obtain⟨nd,nl,nm⟩:=D;simp only[M6,C1,D7,K6,A4e,O5,and_true,A3d]at nd nl nm;obtain⟨⟨zU,Y,H,zj⟩,⟨UO,Ui,Uj⟩,⟨Oi,Oj⟩,ij⟩:=nd;obtain⟨V,lO,li,lj⟩:=nl;obtain⟨mz,mO,mi,mj⟩:=nm;show wpAny _ _ (field (.ref z) 2 >>= _) _ _ _;refine Z3 (A1e B Z (x:=.bool false) Z ?_);show wpAny _ _ (field (.ref z) 3 >>= _) _ _ _;refine Z3 (A1e B Z (x:=.ref U) Z (Z3 (A0h hU Z ?_)));show wpAny _ _ (Builtin.SmallTypes.ownedTupleIsFree (.ref z) >>= _) _ _ _;refine Z3 ?_;unfold Builtin.SmallTypes.ownedTupleIsFree;refine Z3 (A1e B Z (x:=.none) Z (Z6 ?_));simp only[A4a];refine Z3 (A5f (Z3 (A1e B Z (x:=.ref O) Z (Z3 (A2e B A6 λh1 n r=>?_)))));replace n:IsZip h1 z U O .ellipsis:=n;refine Z3 ?_;simp only[List.zipIdx_cons,List.zipIdx_nil,List.forIn_cons,List.forIn_nil];refine Z3 (Z3 (A7a ?_));show wpAny _ _ (Builtin.SmallTypes.nextOf (.ref i) >>= _) _ _ _;have out:∀{a:R_},a∉[z,O,i,j]->a≠z/\a≠O/\a≠i/\a≠j:=λf=>by simpa only[C1,D7,K6,A4e] using f
 cases M:xs[k]? with
 |none =>
  refine Z3 (Gr R (S.move λo e=>r.extBut _ _ (X5 H) e) (T.move λo e=>r.extBut _ _ V e) M λK e u L=>?_);obtain⟨N,d,h⟩:=L;have C:IsZip K z U O .ellipsis:=u _ _ H n;have I:e≠z:=λt=>by subst t;rw[C]at d;cases d;simp at h
  exact A2e C A6 λP _ v=>fin P e (λa o f t=>v.extBut _ _ (out f).1 (u _ _ (out f).2.2.1 (r.extBut _ _ (out f).1 t))) ⟨N,v.extBut _ _ I d,h⟩
 |some x =>
  have hy:ys[k]?=none:=by
   rcases G with t|t
   .rw[M]at t;cases t
   .exact t
  refine Z3 (DH (S.move λo e=>r.extBut _ _ (X5 H) e) (T.move λo e=>r.extBut _ _ V e) M λK ab u=>Z6 ?_);have y:IsPair K O p q:=u.extBut _ _ Oi (r.extBut _ _ (X5 Y) hO);refine Z3 (A0h y Z (Z3 (A6f y λP aa v=>?_)));refine Z3 (wpAny_letGo (Z6 (Z3 (Z3 (A7a ?_)))));show wpAny _ _ (Builtin.SmallTypes.nextOf (.ref j) >>= _) _ _ _;refine Z3 (Gr R (hj.move λo e=>v.extBut _ _ (X5 Oj) (u.extBut _ _ (X5 ij) (r.extBut _ _ (X5 zj) e))) (hm.move λo e=>v.extBut _ _ mO (u.extBut _ _ mi (r.extBut _ _ mz e))) hy λh4 e W L=>?_);obtain⟨N,d,h⟩:=L;have F:IsZip h4 z U O .ellipsis:=W _ _ zj (v.extBut _ _ Y (u.extBut _ _ H n));have I:e≠z:=λt=>by subst t;rw[F]at d;cases d;simp at h
  exact A2e F A6 λh5 _ X=>fin h5 e (λa o f t=>X.extBut _ _ (out f).1 (W _ _ (out f).2.2.2 (v.extBut _ _ (out f).2.1 (u.extBut _ _ (out f).2.2.1 (r.extBut _ _ (out f).1 t))))) ⟨N,X.extBut _ _ I d,h⟩
theorem Zj(b:T_)(n:Nat)(d:b.objs.size=n+2)(i j:S_):∃c,c=((b.push {cls:=.type "tuple",data:=.seq #[i,j]}).push {cls:=.type "tuple",data:=.seq #[.none,.none]}).push
   {cls:=.type "zip",data:=.fields #[.none,.bool false,.bool false,.ref b.objs.size,.ref (b.push {cls:=.type "tuple",data:=.seq #[i,j]}).objs.size]} /\
  IsZip c (n+4) (n+2) (n+3) .none/\IsPair c (n+2) i j/\IsPair c (n+3) .none .none/\(∀a o,b.get? a=some o->c.get? a=some o) /\
  ((b.push {cls:=.type "tuple",data:=.seq #[i,j]}).push {cls:=.type "tuple",data:=.seq #[.none,.none]}).objs.size=n+4:=by
 have f:(b.push {cls:=.type "tuple",data:=.seq #[i,j]}).objs.size=n+3:=by rw[O6,d]
 have g:((b.push {cls:=.type "tuple",data:=.seq #[i,j]}).push {cls:=.type "tuple",data:=.seq #[.none,.none]}).objs.size=n+4:=by rw[O6,f]
 refine⟨_,Z,?_,?_,?_,λa o e=>B9 _ (B9 _ (B9 _ e)),g⟩
 .have q:=D0 ((b.push {cls:=.type "tuple",data:=.seq #[i,j]}).push {cls:=.type "tuple",data:=.seq #[.none,.none]}) (o:={cls:=.type "zip",data:=.fields #[.none,.bool false,.bool false,.ref b.objs.size,.ref (b.push {cls:=.type "tuple",data:=.seq #[i,j]}).objs.size]}) Z;rw[g]at q;show _=some _;rw[q,d,f]
 .have q:=B9 {cls:=.type "zip",data:=.fields #[.none,.bool false,.bool false,.ref b.objs.size,.ref (b.push {cls:=.type "tuple",data:=.seq #[i,j]}).objs.size]} (B9 {cls:=.type "tuple",data:=.seq #[.none,.none]} (D0 b (o:={cls:=.type "tuple",data:=.seq #[i,j]}) Z));rw[<-d];exact q
 .have q:=B9 {cls:=.type "zip",data:=.fields #[.none,.bool false,.bool false,.ref b.objs.size,.ref (b.push {cls:=.type "tuple",data:=.seq #[i,j]}).objs.size]} (D0 (b.push {cls:=.type "tuple",data:=.seq #[i,j]}) (o:={cls:=.type "tuple",data:=.seq #[.none,.none]}) Z);rw[<-f];exact q
theorem YL{b c:Bool}(l m:R_)(xs ys:M_):Meets (Builtin.«zip.__new__» ⟨[.type "zip",.ref l,.ref m],[]⟩) (λ_ R s=>DX b s.heap l xs/\DX c s.heap m ys /\
   ∀g,IsZip g (s.heap.objs.size+4) (s.heap.objs.size+2) (s.heap.objs.size+3) .none->IsPair g (s.heap.objs.size+2) (.ref s.heap.objs.size) (.ref (s.heap.objs.size+1))->IsPair g (s.heap.objs.size+3) .none .none ->
    Cs b g s.heap.objs.size l 0->Cs c g (s.heap.objs.size+1) m 0->(∀a o,s.heap.get? a=some o->g.get? a=some o)->R (.ok (.ret (.ref (s.heap.objs.size+4)))) {s with heap:=g}) :=
 .of_wp λprog w A R s h=>by
  obtain⟨f,g,d,tk,L⟩:=s;obtain⟨G,H,h⟩:=h;have v:=sub_zip
  wp_walk using Gc G
  intro j I N x;have q:DX c (Shared.heap ⟨j,g,d,tk,L⟩) m ys:=H.move λo e=>x _ o e
  wp_walk using Gc q
  intro k K O y
  wp_walk
  refine⟨_,Z,?_⟩;have p:j.objs.size=f.objs.size+1:=N;have D:k.objs.size=f.objs.size+2:=by rw[show k.objs.size=j.objs.size+1 from O,p]
  obtain⟨u,F,z,B,C,t,M⟩:=Zj k f.objs.size D (.ref f.objs.size) (.ref j.objs.size);have n:IsPair u (f.objs.size+2) (.ref f.objs.size) (.ref (f.objs.size+1)):=by rw[<-p];exact B
  have r:Cs c k (f.objs.size+1) m 0:=by rw[<-p];exact K
  have i:=h u z n C ((I.move λo e=>y _ o e).move λo e=>t _ o e) (r.move λo e=>t _ o e) λa o e=>t _ _ (y _ _ (x _ _ e));dsimp only at i;rw[F,<-M]at i;exact i
theorem Inv.turnedL{X:Cx}{d:A_}{σ:St}{H:Hp}{s:P_}{g:T_}{tk:Nat}{ch:H_}(I:Inv X d σ H s)(k:∀b o,b∉ch->s.heap.get? b=some o->g.get? b=some o)(a:∀b∈ch,DC X d H b):Inv X d σ H {s with heap:=g,toks:=tk}:=by
 have h:∀b u,H b=some u->b∉ch:=λb u e z=>by rw[(a b z).1]at e;cases e
 refine I.step (g':=s.gens) (d':=s.drawn) (ch:=ch) (λb i=>⟨(a b i).2.2.2.1,(a b i).2.1,(a b i).2.2.2.2.1,(a b i).2.2.2.2.2⟩) (λb o _ _ f e _=>k b o f e) (λb o _ _ f e _=>⟨o.slots,k b o f e⟩) (λ_ _ _ _ n=>n)
  (λb o f e=>⟨o,k b o f e⟩) (λ_ _ e=>e) (λ_ _ _ e=>e) (λb x e=>⟨#[],by rw[e];simp⟩) (λm p=>?_) (λb u e=>?_) I.bare
 .obtain⟨o,l,j,t,r⟩:=p;exact⟨o,l,j,k _ o (λz=>(a _ z).2.1 Z) t,r⟩
 .refine(I.hok b u e).stay (λc v f q=>k c v ?_ q) (λ_ q=>q) λ_ _ q=>q;rcases f with z|z
  .rw[z];exact h b u e
  .exact h c _ z
theorem Inv.pair{X:Cx}{a:A_}{σ:St}{H:Hp}{s:P_}{g:T_}{tk n:Nat}{ch:H_}{x y:V}{u v:S_}(I:Inv X a σ H s)(k:∀b o,b∉ch->s.heap.get? b=some o->g.get? b=some o)(c:∀b∈ch,DC X a H b)
  (h:Bd x u) (i:Bd y v) (e:g.get? s.heap.objs.size=some {cls:=.type "tuple",data:=.seq #[u,v] n}):H s.heap.objs.size=none/\Inv X a σ (upd H s.heap.objs.size (.tup [x,y])) {s with heap:=g,toks:=tk}:=by
 have f:=I.fpOk (C0 _) I.fresh;refine⟨f.1,(I.turnedL (tk:=tk) k c).track f.1 (O7 I.sz) (O7 (C9 I.ok.bsz I.sz)) (X5 f.2.1) f.2.2.2.2.1 f.2.2.2.2.2 (λb d z=>f.2.2.1 (z▸d)) ?_⟩;exact⟨by show 2<=sizeLine;decide,[u,v],.cons h (.cons i .nil),_,e,Z,n,Z⟩
theorem Inv.sq{X:Cx}{d:A_}{σ:St}{H:Hp}{s:P_}{b:Bool}{a:R_}{xs:List V}(I:Inv X d σ H s)(h:SqX X.K b H a xs):∃c:List Value,AR xs c/\DX b s.heap a c.toArray:=by
 cases b with
 |true =>
  obtain⟨c,r,p,_⟩:=I.tuple h;exact⟨c,r,p⟩
 |false =>
  obtain⟨c,r,p,_⟩:=I.list h;exact⟨c,r,p.isList⟩
theorem Inv.sq_inj{X:Cx}{c:A_}{σ:St}{H:Hp}{s:P_}{b:Bool}{a:R_}{xs ys:List V}(I:Inv X c σ H s)(h:SqX X.K b H a xs)(h':SqX X.K b H a ys):xs=ys:=by
 cases b with
 |true=>exact I.tuple_inj h h'
 |false=>exact I.list_inj h h'
noncomputable def Itz(K:O_)(b c:Bool)(l m:R_):It :=
 ⟨λi H=>∃xs ys x y,SqX K b H l xs/\SqX K c H m ys/\xs[i]?=some x/\ys[i]?=some y,
  λi H v H'=>∃(T:R_)(x y:V),v=.ref T/\H T=none/\H'=upd H T (.tup [x,y])/\(∀xs,SqX K b H l xs->xs[i]?=some x)/\∀ys,SqX K c H m ys->ys[i]?=some y,
  λi H=>∃xs ys,SqX K b H l xs/\SqX K c H m ys/\(xs.length<=i\/ys.length<=i)⟩
def ZipTn(b c:Bool)(z U O i j l m:R_)(k:Nat)(h:T_):Prop:=IsZip h z U O .none/\IsPair h U (.ref i) (.ref j)/\(∃p q,IsPair h O p q)/\Cs b h i l k/\Cs c h j m k
theorem Zo{P:N_}{w:Q_}{K:O_}{es:List Expr}{n:Nat}{S:Pos}{b c:Bool}{z U O i j l m:R_}(D:Yd z U O i j l m):QN P w K (.Tuple es n S) (Itz K b c l m) [z,U,O,i,j] z (ZipTn b c z U O i j l m) where
 mem:=by simp
 obj:=λk h B a d=>by
  obtain⟨f,r,⟨p,q,C⟩,G,L⟩:=B;simp only[C1,D7,K6]at d;rcases d with rfl|rfl|rfl|rfl|rfl
  .exact⟨_,f,λv t=>by cases t⟩
  .exact⟨_,r,λv t=>by cases t⟩
  .exact⟨_,C,λv t=>by cases t⟩
  .exact G.there
  .exact L.there
 keep:=λk h h' B kp=>by
  obtain⟨f,r,⟨p,q,C⟩,G,L⟩:=B;exact⟨kp z A6 _ f,kp U A6 _ r,⟨p,q,kp O A6 _ C⟩,G.move λo e=>kp i A6 o e,L.move λo e=>kp j A6 o e⟩
 item:=by
  intro X hP hw hK hc k M s σ H E I Y B hg;subst hP hw hK;obtain⟨f,r,⟨p,q,C⟩,G,L⟩:=B;obtain⟨xs,ys,x,y,sx,sy,hx,hy⟩:=hg;obtain⟨us,ru,ou⟩:=I.sq sx;obtain⟨vs,rv,ov⟩:=I.sq sy;obtain⟨u,hu,ad⟩:=ru.get hx;obtain⟨v,hv,ae⟩:=rv.get hy;have N:s.TypeIs (.ref z) "zip" := ⟨_,f,Z⟩
  unfold pyNext;refine Z3 (A3c (wpAny_callSpecial?_slot (name:=Str.ofString "__next__") N A5h (A0e A5h N F.entry_zip_next (Zi D f r C G L ou ov (by simpa using hu) (by simpa using hv) λg gZ gO gi gj gT gs gk=>Z6 ⟨_,Z,?_⟩) (F.args_zip_next_1 _))));refine wpAny_letOwnedTupleGo_zip (s:={s with heap:=g}) gZ λg2 ab R=>?_;obtain⟨nd,nl,nm⟩:=D;simp only[M6,C1,D7,K6,A4e,O5,and_true,A3d]at nd;obtain⟨⟨zU,zO,zi,zj⟩,⟨UO,Ui,Uj⟩,⟨Oi,Oj⟩,ij⟩:=nd;have V:z<s.heap.objs.size:=D3 f;have kk:∀a o,a∉[z,O,i,j]->s.heap.get? a=some o->g2.get? a=some o:=λa o d e=>(R.2 a (λt=>d (by simp[t]))).trans (gk a o d e);have aa:∀a∈[z,O,i,j],DC X M H a:=λa d=>Y a (by
   simp only[C1,D7,K6]at d⊢;rcases d with t|t|t|t<;>simp[t])
  obtain⟨nT,J⟩:=I.pair (tk:=s.toks) kk aa ad ae ((R.2 _ (T6 V)).trans gT);refine⟨.ref s.heap.objs.size,_,J,Z,⟨_,x,y,Z,nT,Z,λaf q'=>by rw[I.sq_inj q' sx];exact hx,λag q'=>by rw[I.sq_inj q' sy];exact hy⟩,⟨ab,kk U _ ?_ r,⟨u,v,(R.2 O (X5 zO)).trans gO⟩,gi.move λo e=>(R.2 i (X5 zi)).trans e,gj.move λo e=>(R.2 j (X5 zj)).trans e⟩,λa d=>?_⟩
  .simp only[C1,D7,K6,A4e];exact⟨X5 zU,UO,Ui,Uj⟩
  .have e:=(Y a d).1;have lt:a≠s.heap.objs.size:=by
    simp only[C1,D7,K6]at d;rcases d with t|t|t|t|t<;>subst t
    .exact F2 V
    .exact F2 (D3 r)
    .exact F2 (D3 C)
    .obtain⟨o,e,_⟩:=G.there;exact F2 (D3 e)
    .obtain⟨o,e,_⟩:=L.there;exact F2 (D3 e)
   rw[As lt];exact e
 done:=by
  intro X hP hw hK hc k M s σ H E I Y B hg;subst hP hw hK;obtain⟨f,r,⟨p,q,C⟩,G,L⟩:=B;obtain⟨xs,ys,sx,sy,Q⟩:=hg;obtain⟨us,ru,ou⟩:=I.sq sx;obtain⟨vs,rv,ov⟩:=I.sq sy;have lu:=ru.length;have lv:=rv.length;have N:s.TypeIs (.ref z) "zip" := ⟨_,f,Z⟩
  have he:us.toArray[k]?=none\/vs.toArray[k]?=none:=Q.imp (λt=>by simp;lia) (λt=>by simp;lia);unfold pyNext;refine Z3 (A3c (wpAny_callSpecial?_slot (name:=Str.ofString "__next__") N A5h (A0e A5h N F.entry_zip_next (Zh (I.ok.hd hc) D f r C G L ou ov he λg e gk ge=>?_) (F.args_zip_next_1 _))));obtain⟨o,ho,ac⟩:=ge;refine Z3 (A4b (T:="StopIteration") (b:=true) ⟨o,ho,ac⟩ isSubtype_stop (Z6 ⟨Z,?_⟩));exact I.turnedL (tk:=s.toks) gk λa d=>Y a (by
   simp only[C1,D7,K6]at d⊢;rcases d with t|t|t|t<;>simp[t])
 self:=λ_ _ _ _ _ B h=>wpAny_pyIter_zip B.1 h
end
theorem DX.obj{b:Bool}{h:T_}{l:R_}{vs:M_}(x:DX b h l vs):∃o,h.get? l=some o:=by
 cases b with
 |true=>obtain⟨o,e,_⟩:=x;exact⟨o,e⟩
 |false=>obtain⟨o,e,_⟩:=x;exact⟨o,e⟩
theorem Za(b:T_)(n:Nat)(d:b.objs.size=n+1):∃c,c=b.push {cls:=.type "enumerate",data:=.fields #[.none,.bool false,.ref n,rawInt 0,.none,.none]}/\IsEnum c (n+1) n 0 .none/\∀a o,b.get? a=some o->c.get? a=some o:=by
 refine⟨_,Z,?_,λa o e=>B9 _ e⟩;have q:=D0 b (o:={cls:=.type "enumerate",data:=.fields #[.none,.bool false,.ref n,rawInt 0,.none,.none]}) Z;rw[d]at q;exact q
set_option maxHeartbeats 1000000 in
theorem Ve{b:Bool}(l:R_)(xs:M_):Meets (Builtin.«enumerate.__new__» ⟨[.type "enumerate",.ref l],[]⟩) (λ_ R s=>DX b s.heap l xs /\
   ∀g,IsEnum g (s.heap.objs.size+1) s.heap.objs.size 0 .none->Cs b g s.heap.objs.size l 0->(∀a o,s.heap.get? a=some o->g.get? a=some o)->R (.ok (.ret (.ref (s.heap.objs.size+1)))) {s with heap:=g}) :=
 .of_wp λprog w A R s h=>by
  obtain⟨p,g,d,tk,B⟩:=s;obtain⟨q,h⟩:=h;obtain⟨C,i⟩:=q.obj;have r:=sub_enumerate;have fin:∀f,Cs b f p.objs.size l 0->f.objs.size=p.objs.size+1->(∀c o,p.get? c=some o->f.get? c=some o)->∃v,Fin.done (Flow.ret (.ref f.objs.size))=Fin.done (Flow.ret v)/\R (.ok (.ret v)) ⟨f.push {cls:=.type "enumerate",data:=.fields #[.none,.bool false,.ref p.objs.size,rawInt 0,.none,.none]},g,d,tk,B⟩:=λf k j m=>by
   obtain⟨z,y,u,t⟩:=Za f p.objs.size j;refine⟨_,Z,?_⟩;have n:=h z u (k.move λo e=>t _ o e) λa o e=>t _ _ (m _ _ e);dsimp only at n;rw[y,<-j]at n;exact n
  wp_walk using AutoSeq1.wpAny_loadPart' i
  refine wpAny_stack_any λD=>Z6 ?_;split
  .rename_i x _ _ _ _ _;cases(x==Value.type "enumerate")
   .wp_walk using AutoSeq1.wpAny_loadPart' i,Gc q
    intro f k j m
    wp_walk
    exact fin f k j m
   .wp_walk using AutoSeq1.wpAny_loadPart' i,Gc q
    intro f k j m
    wp_walk
    exact fin f k j m
  .wp_walk using AutoSeq1.wpAny_loadPart' i,Gc q
   intro f k j m
   wp_walk
   exact fin f k j m
theorem Rl{prog:N_}{w:Q_}{A:Around}{b:Bool}(i:A.handled=none)(I l:R_)(p:l≠I)(vs:M_) :
  Draws prog w A I [I,l] vs.size (λk v=>vs[k]?=some v) (λk h=>Cs b h I l k/\DX b h l vs) where
 live:=λ_ _ a=>let ⟨o,ho,_⟩:=a.1.there;⟨o,ho⟩
 frame:=λ_ _ _ a d=>⟨a.1.move λo e=>d I A6 o e,a.2.move λo e=>d l A6 o e⟩
 item:=λk s Q E c a n=>DH a.1 a.2 (v:=vs[k]) (by simp[c]) λg m f=>n _ g s.toks (by simp[c]) ⟨m,a.2.move λo e=>(f.2 l p).trans e⟩ f
 done:=λs Q E a j=>Gr i a.1 a.2 A6 j
noncomputable def Ite(K:O_)(b:Bool)(l:R_):It :=
 ⟨λi H=>∃xs x,SqX K b H l xs/\xs[i]?=some x,
  λi H v H'=>∃(T:R_)(x:V),v=.ref T/\H T=none/\H'=upd H T (.tup [.int i,x])/\∀xs,SqX K b H l xs->xs[i]?=some x,
  λi H=>∃xs,SqX K b H l xs/\xs.length=i⟩
theorem Yg{P:N_}{w:Q_}{K:O_}{es:List Expr}{n:Nat}{r:Pos}{b:Bool}{e I l:R_}(D:e≠I)(le:l≠e)(lI:l≠I) :
  QN P w K (.Tuple es n r) (Ite K b l) [e,I] e (λk h=>(∃c,IsEnum h e I k c)/\Cs b h I l k) where
 mem:=by simp
 obj:=λk h j a d=>by
  obtain⟨⟨c,f⟩,m⟩:=j;simp only[C1,D7,K6]at d;rcases d with rfl|rfl
  .exact⟨_,f,λv t=>by cases t⟩
  .exact m.there
 keep:=λk h h' j kp=>by
  obtain⟨⟨c,f⟩,m⟩:=j;exact⟨⟨c,kp e A6 _ f⟩,m.move λo t=>kp I A6 o t⟩
 item:=by
  intro X M S L N k q s σ H E J y j O;subst M S L;obtain⟨⟨c,f⟩,m⟩:=j;obtain⟨xs,x,C,T⟩:=O;obtain⟨us,B,U⟩:=J.sq C;have lu:=B.length;have hk:k<xs.length:=(B7.mp T).1;refine wpAny_pyNext_enum_itemD (Rl (b:=b) (A:=X.A.in1) (J.ok.hd N) I l lI us.toArray) f ⟨m,U⟩ (by simp;lia) D (by simp[D,X5 le]) λu g tk hu gE gS gT gs G=>⟨_,Z,?_⟩
  obtain⟨u',R,V⟩:=B.get T;have eu:u=u':=by
   have:us[k]?=some u:=by simpa using hu
   rw[R]at this;exact(X4 this).symm
  subst eu;refine wpAny_letOwnedTupleGo_enum (s:={s with heap:=g,toks:=tk+1}) gE λg2 F Y=>?_;have p:e<s.heap.objs.size:=D3 f;have kk:∀a o,a∉[e,I]->s.heap.get? a=some o->g2.get? a=some o:=λa o d t=>(Y.2 a (λz=>d (by simp[z]))).trans (G a o (λz=>d (by simp[z])) (λz=>d (by simp[z])) t);obtain⟨nT,J2⟩:=J.pair (tk:=tk+1) (x:=.int k) (u:=.int k tk) kk y ⟨tk,Z⟩ V ((Y.2 _ (T6 p)).trans gT);refine⟨.ref s.heap.objs.size,_,J2,Z,⟨_,x,Z,nT,Z,λab q'=>by rw[J.sq_inj q' C];exact T⟩,⟨⟨_,by simpa using F⟩,gS.1.move λo t=>(Y.2 I (X5 D)).trans t⟩,λa d=>?_⟩;have t:=(y a d).1;have lt:a≠s.heap.objs.size:=by
   simp only[C1,D7,K6]at d;rcases d with z|z<;>subst z
   .exact F2 p
   .obtain⟨o,t,_⟩:=m.there;exact F2 (D3 t)
  rw[As lt];exact t
 done:=by
  intro X M S L N k q s σ H E J y j O;subst M S L;obtain⟨⟨c,f⟩,m⟩:=j;obtain⟨xs,C,aa⟩:=O;obtain⟨us,B,U⟩:=J.sq C;have lu:=B.length;have ek:k=us.toArray.size:=by simp;lia
  refine wpAny_pyNext_enum_endD (Rl (b:=b) (A:=X.A.in1) (J.ok.hd N) I l lI us.toArray) f ⟨ek▸m,U⟩ λg G=>⟨Z,?_⟩
  exact J.turnedL (tk:=s.toks) (ch:=[e,I]) (λa o d t=>G a o (λz=>d (by simp[z])) t) y
 self:=λA i s Q E j h=>by
  obtain⟨⟨c,f⟩,_⟩:=j;exact wpAny_pyIter_enum f h
section
variable{X:Cx}{es:List Expr}{n:Nat}{tpos p pos:Pos}{e1 e2:Expr}{t:TA}
def iZip(b c:Bool)(K:O_)(t:TA):TI:=fun σ H R=>t σ H λvs H1=>∃(l m:R_),vs=[.ref l,.ref m]/\(∃xs,SqX K b H1 l xs)/\(∃ys,SqX K c H1 m ys)/\R (Itz K b c l m) H1
theorem DX.lt{b:Bool}{h:T_}{l:R_}{vs:M_}(x:DX b h l vs):l<h.objs.size:=by
 cases b with
 |true=>obtain⟨o,e,_⟩:=x;exact D3 e
 |false=>obtain⟨o,e,_⟩:=x;exact D3 e
theorem apart5(n l m:Nat)(a:l<n)(b:m<n):Yd (n+4) (n+2) (n+3) n (n+1) l m:=by
 refine⟨(show([n+4,n+2,n+3,n,n+1]:J_).Nodup from ?_),(show l∉([n+4,n+3,n,n+1]:J_)from ?_),(show m∉([n+4,n+3,n,n+1]:J_)from ?_)⟩
 .simp only[M6,C1,D7,K6,A4e,O5,and_true,A3d];lia
 .simp only[C1,D7,K6,A4e];lia
 .simp only[C1,D7,K6,A4e];lia
theorem pi_zip(b c:Bool)(E:Gl X "zip")(G:X.mg "zip" = none)(j:PA X [e1,e2] t)(L:starEach [e1,e2] X.env=[(false,eval e1 X.env),(false,eval e2 X.env)]:=by rfl)(e:starEach [e2] X.env=[(false,eval e2 X.env)]:=by rfl) :
  PI X (.Tuple es n tpos) (.Call (.Name "zip" p) [e1,e2] [] pos) (iZip b c X.K t):=by
 intro f s σ H R I h;refine Call_ (JQ I E G PyProof.Rows.boot_zip (A1a (thn (j pos f s σ H _ I h) λus i D=>?_) (by rw[L,e]) (by rw[e];rfl)));obtain⟨vs,w,d,O,N⟩:=D;obtain⟨l,m,rfl,⟨xs,S⟩,⟨ys,T⟩,q⟩:=N;obtain⟨u,v,rfl,P,Q⟩:=O.two;cases(show u=Value.ref l from P);cases(show v=Value.ref m from Q);obtain⟨U,_,o⟩:=d.sq S;obtain⟨V,_,r⟩:=d.sq T;refine callType_new F.called_zip A4 (F.typeCall_zip_2 _ _) (F.newCall_zip_2 _ _) (λobj=>F.args_object_init_3 obj _ _) F.entry_zip_new (YL (b:=b) (c:=c) l m U.toArray V.toArray) ⟨o,r,λg k y x z A B=>?_⟩;refine⟨⟨_,k,Z⟩,wpAny_pyIter_zip (s:={i with heap:=g}) k ?_⟩;have M:=o.lt;have lm:=r.lt;have C:=apart5 i.heap.objs.size l m M lm;refine⟨i.heap.objs.size+4,_,_,_,w,Z,d.kept (t':=i.toks) B,Zo C,⟨k,y,⟨_,_,x⟩,z,A⟩,λa j=>?_,q⟩;have le:i.heap.objs.size<=a:=by
  simp only[C1,D7,K6]at j;rcases j with t|t|t|t|t<;>rw[t]<;>first|exact C0 _|exact U9 _ _
 exact d.fpOk le (d.hok.fresh le)
def iEnum(b:Bool)(K:O_)(t:TA):TI:=fun σ H R=>t σ H λvs H1=>∃(l:R_),vs=[.ref l]/\(∃xs,SqX K b H1 l xs)/\R (Ite K b l) H1
theorem Mu(b:Bool)(x:Gl X "enumerate")(y:X.mg "enumerate" = none)(i:PA X [e1] t)(z:starEach [e1] X.env=[(false,eval e1 X.env)]:=by rfl) :
  PI X (.Tuple es n tpos) (.Call (.Name "enumerate" p) [e1] [] pos) (iEnum b X.K t):=by
 intro d s σ H R I h;refine Call_ (JQ I x y PyProof.Rows.boot_enumerate (A1a (thn (i pos d s σ H _ I h) λus c w=>?_) z Z));obtain⟨vs,o,f,B,A⟩:=w;obtain⟨l,rfl,⟨xs,D⟩,q⟩:=A;obtain⟨u,rfl,C⟩:=B.one;cases(show u=Value.ref l from C);obtain⟨E,_,m⟩:=f.sq D;refine callType_new F.called_enumerate A4 (F.typeCall_enumerate_1 _) (F.newCall_enumerate_1 _) (λobj=>F.args_object_init_2 obj _) F.entry_enumerate_new (Ve (b:=b) l E.toArray) ⟨m,λg j r v=>?_⟩;refine⟨⟨_,j,Z⟩,wpAny_pyIter_enum (s:={c with heap:=g}) j ?_⟩;have k:=m.lt;refine⟨c.heap.objs.size+1,_,_,_,o,Z,f.kept (t':=c.toks) v,Yg (e:=c.heap.objs.size+1) (I:=c.heap.objs.size) (l:=l) (Nat.succ_ne_self _) (F2 (U2 k)) (F2 k),⟨⟨_,j⟩,r⟩,λa i=>?_,q⟩;have le:c.heap.objs.size<=a:=by
  simp only[C1,D7,K6]at i;rcases i with t|t<;>rw[t]<;>first|exact C0 _|exact U9 _ _
 exact f.fpOk le (f.hok.fresh le)
end
section
variable{K:O_}{b c:Bool}{l m:R_}{xs ys:List V}{σ:St}{H:Hp}
theorem Rh{K:O_}{i j:Nat}{T:R_}{x y:V}{σ:St}{H:Hp}{Q:St->Hp->Prop}(h:H T=some (.tup [x,y]))(q:Q ((σ.set i (some x)).set j (some y)) H):gTup K 2 (Ua (Qb i) (Ua (Qb j) gNil)) (.ref T) σ H Q :=
 ⟨T,_,Z,SqT.of h,Z,x,_,Z,y,_,Z,Z,q⟩
theorem JT{g:TG}{n:TS}{D:MT}(a:Nat->St->Hp->Prop)(o:a 0 σ H)(t:∀i σ H,i<=xs.length->a i σ H->SqX K b H l xs)
  (u:∀i x σ H T,xs[i]?=some x->a i σ H->H T=none->g (.ref T) σ (upd H T (.tup [.int i,x])) fun f j=>n {D with nx:=a (i+1),ct:=a (i+1),bk:=D.nx} f j) (r:∀σ H,a xs.length σ H->D.nx σ H) :
  ∃W:Nat->Nat->St->Hp->Prop,(∃m,W 0 m σ H)/\∀i m σ H,W i m σ H ->
   ((Ite K b l).stop i H/\D.nx σ H)\/((Ite K b l).go i H/\∃N:St->Hp->Prop,(∀σ' d,N σ' d->∃k,k<m/\W (i+1) k σ' d)/\∀x d,(Ite K b l).yld i H x d->g x σ d fun f j=>n {D with nx:=N,ct:=N,bk:=D.nx} f j):=by
 refine⟨λi m σ H=>m=xs.length-i/\i<=xs.length/\a i σ H,⟨xs.length,by simp,J0 _,o⟩,?_⟩;rintro i m σ H ⟨rfl,s,p⟩;have q:=t i σ H s p;by_cases h:i<xs.length
 .refine .inr ⟨⟨xs,xs[i],q,by simp[h]⟩,a (i+1),fun σ' d A=>⟨xs.length-(i+1),by lia,Z,h,A⟩,λx d y=>?_⟩;obtain⟨T,z,rfl,w,rfl,v⟩:=y;exact u i z σ _ T (v xs q) p w
 .have e:i=xs.length:=by lia
  subst e;exact .inl ⟨⟨xs,q,Z⟩,r σ H p⟩
variable{k:Nat}{cs:J_}{g:TG}{tc:TT}{te:TE}{fin:List V->Hp->Prop}
theorem blk_zip(d:Nat->List V->Hp->Prop)(s:d 0 [] H)(u:∀i a H,d i a H->SqX K b H l xs/\SqX K c H m ys)
  (v:∀i x y a H T,xs[i]?=some x->ys[i]?=some y->d i a H->H T=none->Bt k cs g tc te σ (.ref T) a (upd H T (.tup [x,y])) (d (i+1))) (t:∀a H,d (min xs.length ys.length) a H->fin a H):GP k cs g tc te (Itz K b c l m) σ H fin:=by
 refine⟨λi n a H=>n=min xs.length ys.length-i/\i<=min xs.length ys.length/\d i a H,⟨min xs.length ys.length,by simp,J0 _,s⟩,?_⟩;rintro i n a H ⟨rfl,F,p⟩;obtain⟨j,o⟩:=u i a H p;by_cases f:i<min xs.length ys.length
 .have A:i<xs.length:=by lia
  have B:i<ys.length:=by lia
  refine .inr ⟨⟨xs,ys,xs[i],ys[i],j,o,by simp[A],by simp[B]⟩,d (i+1),λq r D=>⟨min xs.length ys.length-(i+1),by lia,Z,f,D⟩,λx r y=>?_⟩;obtain⟨T,z,E,rfl,C,rfl,w,h⟩:=y;exact v i z E a _ T (w xs j) (h ys o) p C
 .have e:i=min xs.length ys.length:=by lia
  subst e;exact .inl ⟨⟨xs,ys,j,o,by lia⟩,t a H p⟩
theorem blk_str{x:Str}(d:Nat->List V->Hp->Prop)(q:d 0 [] H)(s:∀i ch a H,x.cps.toList[i]?=some ch->d i a H->Bt k cs g tc te σ (.str ⟨#[ch]⟩) a H (d (i+1)))(r:∀a H,d x.cps.toList.length a H->fin a H):GP k cs g tc te (Its x) σ H fin:=by
 have o:x.cps.toList.length=x.cps.size:=by simp
 refine⟨λi m a H=>m=x.cps.size-i/\i<=x.cps.size/\d i a H,⟨x.cps.size,by simp,J0 _,q⟩,?_⟩;rintro i m a H ⟨rfl,u,p⟩;by_cases f:i<x.cps.size
 .refine .inr ⟨f,d (i+1),λj n t=>⟨x.cps.size-(i+1),by lia,Z,f,t⟩,λv n y=>?_⟩;obtain⟨e,ch,h,rfl⟩:=y;subst e;exact s i ch a _ (by simpa using h) p
 .have e:i=x.cps.size:=by lia
  subst e;exact .inl ⟨Z,r a H (by rw[o];exact p)⟩
end
theorem PE.or{X:Cx}{e:Expr}{t u:TE}(h:PE X e t)(h':PE X e u):PE X e (fun σ H Q=>t σ H Q\/u σ H Q):=by
 intro a s σ H Q I q;rcases q with q|q
 .exact h a s σ H Q I q
 .exact h' a s σ H Q I q
theorem rm{a b:Nat}{A:Around}(h:CM b A)(c:a<=b:=by first|decide|lia):CM a A:=h.mono c
structure Cal(P:N_)(w:Q_)(K:O_)(mg:C_)(base:T_)(CX:CXT)(k:Nat)(x:Str)(ps:K_)(sp:Sp):Prop where
ex:∃(f:R_)(fd:E_),AN P w K mg base CX k f fd ps sp/\mg x=some (.ref f)/\keepIn K (.ref f)=true/\Ci K fd ps []
structure BJ(P:N_)(w:Q_)(K:O_)(mg:C_)(base:T_)(CX:CXT)(k:Nat)(C:R_)(m:Str)(ps:K_)(sp:Sp):Prop where
ex:∃(f:R_)(fd:E_),AN P w K mg base CX k f fd ps sp/\Qr K C m f/\Ci K fd ps []
cl:Cls K C
structure Qs(P:N_)(w:Q_)(K:O_)(mg:C_)(base:T_)(CX:CXT)(k:Nat)(x:Str)(C:R_)(ps:K_)(sp:Sp):Prop where
ex:∃(f:R_)(fd:E_),AN P w K mg base CX k f fd ps sp/\Mk K C f/\mg x=some (.ref C)/\Ci K fd ps []
section
variable{X:Cx}{CX:CXT}{k:Nat}{C:R_}{ps:K_}{sp:Sp}{E:XK}{x m:Str}{p pos apos:Pos}{e o:Expr}{es:List Expr}{ta:TE}{t:TA}
theorem Aq(c:Cal X.prog X.w X.K X.mg X.base CX k x ps sp)(n:CM k X.A)(i:Gl X x)(q:Gz CX X E)(d:PA X (e::es) t)(a:(x==("__debug__" : Str))=false:=by decide)
  (h:starEach (e::es) X.env=(false,eval e X.env)::starEach es X.env:=by rfl) (b:(backTo pos (starEach es X.env)).any (·.1)=false:=by rfl):PE X (.Call (.Name x p) (e::es) [] pos) (tCall sp [] E t):=by
 obtain⟨f,r,F,l,j,g⟩:=c.ex;exact pe_call F n i l j g .nil q d a h b
theorem AC{pl:Sem Bool}(i:PE X o ta)(c:BJ X.prog X.w X.K X.mg X.base CX k C m ps sp)(l:CM k X.A)(q:Gz CX X E)(g:PA X (e::es) t)
  (b:starEach (e::es) X.env=(false,eval e X.env)::starEach es X.env:=by rfl) (a:(backTo pos (starEach es X.env)).any (·.1)=false:=by rfl)
  (n:eval (.Call (.Attribute o m apos) (e::es) [] pos) X.env=(do
   let d <-eval o X.env;standAt apos.atName;let (f,first) <-holding [d] (getMethod d m pl);callWith pos f first (backTo pos (starEach (e::es) X.env)) (backToKw pos (keywordEach [] X.env))):=by rfl):PE X (.Call (.Attribute o m apos) (e::es) [] pos) (VI C m sp [] E ta t):=by
 obtain⟨f,r,F,j,h⟩:=c.ex;exact pe_meth i c.cl j F l h .nil q g b a n
theorem Le(c:Qs X.prog X.w X.K X.mg X.base CX k x C ps sp)(l:CM (k+1) X.A)(i:Gl X x)(n:Gz CX X E)(d:PA X (e::es) t)(a:(x==("__debug__" : Str))=false:=by decide)
  (h:starEach (e::es) X.env=(false,eval e X.env)::starEach es X.env:=by rfl) (b:(backTo pos (starEach es X.env)).any (·.1)=false:=by rfl):PE X (.Call (.Name x p) (e::es) [] pos) (VJ C sp [] E t):=by
 obtain⟨f,q,F,M,j,g⟩:=c.ex;exact pe_make M F l i j g .nil n d a h b
theorem Tu(c:Qs X.prog X.w X.K X.mg X.base CX k x C ps sp)(h:CM (k+1) X.A)(d:Gl X x)(i:Gz CX X E)(a:(x==("__debug__" : Str))=false:=by decide):PE X (.Call (.Name x p) [] [] pos) (VJ C sp [] E Qt):=by
 obtain⟨f,j,F,M,g,b⟩:=c.ex;exact pe_make0 M F h d g b .nil i a
theorem BT{i:Int}(c:Gl X x)(a:∃tk,X.mg x=some (.int i tk))(b:(x==("__debug__" : Str))=false:=by decide):PE X (.Name x pos) (tC (.int i)):=by
 obtain⟨tk,a⟩:=a;exact RN c a ⟨tk,Z⟩ b
theorem OD{z:Str}(c:Gl X x)(a:∃tk,X.mg x=some (.str z tk))(b:(x==("__debug__" : Str))=false:=by decide):PE X (.Name x pos) (tC (.str z)):=by
 obtain⟨tk,a⟩:=a;exact RN c a ⟨tk,Z⟩ b
theorem pe_gref{a:R_}(c:Gl X x)(d:X.mg x=some (.ref a))(b:(x==("__debug__" : Str))=false:=by decide):PE X (.Name x pos) (tC (.ref a)):=RN c d Z b
end
noncomputable def cOk(So:Scope)(No:K_)(scope:Scope)(N:K_)(k:Nat)(cs:J_):Bool :=
 scope.names.all (λy=>y.2 != .cell) && (scope.kind==.function && (scope.names.all (λy=>y.2 != .local || scope.names.lookup y.1==some .local) && (scope.names.all (λy=>y.2 != .free || (So.names.lookup y.1==some .cell || So.names.lookup y.1==some .free)) &&
  (N.length==k+cs.length && (List.range cs.length).all λj=>match N[k+j]?,No[cs.getD j 0]? with
   |some x,some y=>x==y && scope.names.lookup x==some .free
   |_,_=>false))))
theorem BK.of{X:Cx}{So:Scope}{No:K_}{a:Scope}{N:K_}{k:Nat}{cs:J_}(p:X.env.scope=So)(o:X.N=No)(h:cOk So No a N k cs=true):BK X a N k cs:=by
 subst p o;unfold cOk at h;simp only[P8,T3,bne_iff_ne,ne_eq,Bool.or_eq_true,A6b,F1]at h;obtain⟨f,g,i,l,m,n⟩:=h;refine⟨f,g,λy b e=>?_,λy b e=>?_,m,λj q=>?_⟩
 .rcases i y b with z|z
  .exact absurd e z
  .exact z
 .rcases l y b with z|z
  .exact absurd e z
  .exact z
 .have z:=n j q;split at z
  .rename_i x y c d;simp only[P8,A6b]at z;obtain⟨r,s⟩:=z;subst r;exact⟨x,c,d,s⟩
  .cases z
theorem GO{σ:St}{H:Hp}{A B:Hp->Prop}(h:A H):tYes σ H λb a=>if b=true then A a else B a:=by
 show if true=true then A H else B H;exact Cg h
theorem SJ{d:TE}{σ:St}{H:Hp}{Q:VK}{a b2:Bool}(e:a=true->∀b:VK,b (.bl b2) H->d σ H b)(q:Q (.bl (a && b2)) H):∃c,V.bl a=.bl c/\if c=true then d σ H Q else Q (.bl false) H:=by
 cases a with
 |true=>exact⟨true,Z,Cg (e Z Q q)⟩
 |false=>exact⟨false,Z,AX q⟩
theorem Zp{u:TT}{σ:St}{H:Hp}{Q:Bool->Hp->Prop}{a b2:Bool}(c:a=true->∀b:Bool->Hp->Prop,b b2 H->u σ H b)(q:Q (a && b2) H):if a=true then u σ H Q else Q false H:=by
 cases a with
 |true=>exact Cg (c Z Q q)
 |false=>exact AX q
section
variable{X:Cx}{scope:Scope}{N:K_}{s:P_}{H:Hp}{ex:H_}{x y:Str}{px py pos:Pos}{k:Nat}
theorem Bj{i:Nat}(b:N.Nodup)(c:N[i]?=some x)(a:(relabel scope X.env).names.lookup x=some .local):PG (cxC X scope N s H ex) (.Name x pos) (Qb i):=Bv (X:=cxC X scope N s H ex) b c (.inl a) (.inr a)
theorem pgc_pair{i j:Nat}(b:X.calm=true)(a:N.Nodup)(c:N[i]?=some x)(d:N[j]?=some y)(e:(relabel scope X.env).names.lookup x=some .local)(f:(relabel scope X.env).names.lookup y=some .local) :
  PG (cxC X scope N s H ex) (.Tuple [.Name x px,.Name y py] k pos) (gTup X.K 2 (Ua (Qb i) (Ua (Qb j) gNil))) :=
 Nm (X:=cxC X scope N s H ex) b (CA (Bj a c e) (CA (Bj a d f) Ld))
end
theorem AR.strs:∀(l:K_)(k:Nat),AR (l.map V.str) (strsFrom k l)
|[],_=>.nil
|x::r,k=>.cons ⟨k,Z⟩ (AR.strs r (k+1))
section
variable{X:Cx}
theorem TM:MtR X "str.split" (λx xs H Q=>∃a b,x=.str a/\xs=[.str b]/\(b.length==0)=false/\a.length<=100000/\∀p,H p=none->Q (.ref p) (upd H p (.lst ((Txt.split a b).map V.str)))):=by
 intro g s σ H x xs v us Q I o r h;obtain⟨a,b,rfl,rfl,k,l,q⟩:=h;obtain⟨t,rfl⟩:=o;obtain⟨u,rfl,m⟩:=r.one;obtain⟨j,rfl⟩:=m;have big:a.length+2<=sizeLine:=C9 (Nat.add_le_add_right l 2) A4;have fin:∀(c:F_)(tk:Nat),AR ((Txt.split a b).map V.str) c->EP X g σ Q (.ref s.heap.objs.size) {s with heap:=s.heap.push {cls:=.type "list",data:=.seq c.toArray},toks:=tk}:=λc tk n =>
  ⟨.ref _,_,I.lnew (t':=tk) n (by rw[B6];exact C9 (split_le a b) big),Z,q _ I.fresh⟩
 by_cases d:(decide (a.length<b.length) || decide (Builtin.Str.strKind a<Builtin.Str.strKind b))=true
 .refine A3h F.slot_str_split (typeIs_str _ _ _) F.entry_str_split (A7c _ _) (meets_str_split_cannot_occur a b t j d) ?_;refine fin _ s.toks ?_;unfold Txt.split;rw[Z7 d];exact .cons ⟨t,Z⟩ .nil
 .have f:=Z2.mpr d;by_cases i:(Builtin.Str.occurrences a b 0 a.length (a.length+1)).isEmpty=true
  .refine A3h F.slot_str_split (typeIs_str _ _ _) F.entry_str_split (A7c _ _) (meets_str_split_not_found a b t j f k i) ?_;refine fin _ s.toks ?_;unfold Txt.split;rw[Z4 d,Z7 i];exact .cons ⟨t,Z⟩ .nil
  .have e:Txt.split a b=Builtin.Str.partsBetween a (Builtin.Str.occurrences a b 0 a.length (a.length+1)) b.length:=by
    unfold Txt.split;rw[Z4 d,Z4 i]
   refine A3h F.slot_str_split (typeIs_str _ _ _) F.entry_str_split (A7c _ _) (meets_str_split_sep a b t j f k (Z2.mpr i) A0 (by rw[<-e];exact C9 (split_le a b) big)) ?_;refine fin _ _ ?_;rw[e];exact AR.strs _ _
theorem Si:MtR X "str.partition" (λx xs H Q=>∃a b,x=.str a/\xs=[.str b]/\(b.length==0)=false/\a.length<=100000/\∀p,H p=none->Q (.ref p) (upd H p (.tup [.str (Txt.partition a b).1,.str (Txt.partition a b).2.1,.str (Txt.partition a b).2.2]))):=by
 intro d s σ H x xs v us Q I m r h;obtain⟨a,b,rfl,rfl,g,f,q⟩:=h;obtain⟨t,rfl⟩:=m;obtain⟨u,rfl,j⟩:=r.one;obtain⟨n,rfl⟩:=j;have fin:∀(c:F_)(tk:Nat),AR [.str (Txt.partition a b).1,.str (Txt.partition a b).2.1,.str (Txt.partition a b).2.2] c->EP X d σ Q (.ref s.heap.objs.size) {s with heap:=s.heap.push {cls:=.type "tuple",data:=.seq c.toArray},toks:=tk}:=λc tk k =>
  ⟨.ref _,_,I.laid (t':=tk) (o:=.tup [.str (Txt.partition a b).1,.str (Txt.partition a b).2.1,.str (Txt.partition a b).2.2]) (λ_ _ e=>B9 _ e) (C0 _) ⟨by show 3<=sizeLine;decide,c,k,_,D0 _ Z,Z,_,Z⟩,Z,q _ I.fresh⟩
 refine A3h F.slot_str_partition (typeIs_str _ _ _) F.entry_str_partition (F.args_str_partition_2 _ _) (meets_str_partition a b t n g (C9 f A4)) ?_;show EP X d σ Q _ _;cases e:Builtin.Str.occurrences a b 0 a.length 1 with
 |nil =>
  refine fin _ _ ?_;unfold Txt.partition;rw[e];exact .cons ⟨_,Z⟩ (.cons ⟨_,Z⟩ (.cons ⟨_,Z⟩ .nil))
 |cons i l =>
  refine fin _ _ ?_;unfold Txt.partition;rw[e];exact .cons ⟨_,Z⟩ (.cons ⟨_,Z⟩ (.cons ⟨_,Z⟩ .nil))
theorem AR.tstrs:∀{l:K_}{a:F_},AR (l.map V.str) a->∃b:List (Str×Tok),a=strValues b/\b.map (·.1)=l
|[],_,.nil=>⟨[],Z,Z⟩
|x::r,_,.cons ⟨t,e⟩ rr=>by
 obtain⟨b,c,d⟩:=AR.tstrs rr;subst e c;exact⟨(x,t)::b,Z,by rw[D9,d]⟩
theorem mt_join:MtR X "str.join" (λx xs H Q=>∃(a:Str)(p:R_)(l:K_),x=.str a/\xs=[.ref p]/\SqL X.K H p (l.map V.str)/\JoinOk a l=true/\Q (.str (Str.join a l)) H):=by
 intro c s σ H x xs v us Q I j r h;obtain⟨a,p,l,rfl,rfl,d,b,q⟩:=h;obtain⟨t,rfl⟩:=j;obtain⟨u,rfl,f⟩:=r.one;cases(show u=Value.ref p from f);obtain⟨g,i,pl,_⟩:=I.list d;obtain⟨m,rfl,e⟩:=AR.tstrs i;refine SC.join (texts:=l) pl.isList e b λt' k=>⟨.str _,H,I.tok k,⟨t',Z⟩,?_⟩
 have:Txt.join a l=Str.join a l:=StrLaws.glued_eq_join a l;rw[this];exact q
theorem Ug(n:Int):∀{ns:I_}{a:F_},AR (ns.map V.int) a->a.countP (λy=>match y with|.int i _=>i==n|_=>false)=ns.countP (· == n)
|[],_,.nil=>rfl
|x::r,_,.cons ⟨t,e⟩ rr=>by
 subst e;rw[V4,V4,Ug n rr]
theorem Zl{ns:I_}{a:F_}(h:AR (ns.map V.int) a){y:S_}(b:y∈a):∃i t,y=.int i t:=by
 induction ns generalizing a with
 |nil=>cases h;simp at b
 |cons n r c =>
  cases h with
  |cons q d =>
   obtain⟨t,e⟩:=q;rcases C1.mp b with z|z
   .exact⟨n,t,z.trans e⟩
   .exact c d z
theorem mt_count:MtR X "list.count" (λx xs H Q=>∃(l:R_)(ns:I_)(n:Int),x=.ref l/\xs=[.int n]/\H l=some (.lst (ns.map V.int))/\Q (.int (ns.countP (· == n):Nat)) H):=by
 intro b s σ H x xs v us Q I j r h;obtain⟨l,ns,n,rfl,rfl,d,q⟩:=h;cases j;obtain⟨u,rfl,f⟩:=r.one;obtain⟨tk,rfl⟩:=f;obtain⟨z,a,k,c,m,e⟩:=I.lstM d;refine A3h F.slot_list_count ⟨_,e,Z⟩ F.entry_list_count (F.args_list_count_2 _ _) (MeetsSeq.list_count l a.toArray k (.int n tk) (λy=>match y with|.int i _=>i==n|_=>false) (λy g=>?_)) ⟨e,?_⟩
 .obtain⟨i,t,rfl⟩:=Zl c (by simpa using g);exact PySem.MeetsSeq.EqGives.int i n t tk
 .refine⟨.int _,H,I.tok _,⟨_,Z⟩,?_⟩;have:(List.countP (λy=>match y with|Value.int i _=>i==n|_=>false) a.toArray.toList)=ns.countP (· == n):=Ug n (by simpa using c);rw[this];exact q
end
end L2
namespace L2
open PySem
section
variable{X:Cx}{es es':List Expr}{t t':TA}{pos:Pos}
theorem AF{i:Int}{j}(a:PA X es t):PA X (.Constant (.int i) j pos::es) (CN (tC (.int i)) t):=Aa Ae a
theorem UR{z:Str}{j}(a:PA X es t):PA X (.Constant (.str z) j pos::es) (CN (tC (.str z)) t):=Aa IV a
theorem AV{x1}(h:PA X es' t')(a:PA X es t):PA X (.Tuple es' x1 pos::es) (CN (Zq t') t):=Aa (Dx h) a
theorem Br{op:Operator}{r:R2}{a b:Expr}{c d:TE}(g:OpR X (binaryOp op) r)(e:PE X a c)(f:PE X b d)(h:PA X es t):PA X (.BinOp a op b pos::es) (CN (tOp r c d) t):=Aa (AA g e f) h
theorem Li{K:O_}(h:X.K=K):IxR X (GC K):=h▸Al
theorem MK{K:O_}(h:X.K=K):IxR X (rIxL K):=h▸Aw
end
theorem AO{P:Prop}(h:∀G:Prop,(P->G)->G):P:=h P id
theorem xq1{α:Sort _}{a:α}{P Q:α->Prop}(h:P a)(k:Q a):∃x,P x/\Q x:=⟨a,h,k⟩
theorem xq2{α β:Sort _}{a:α}{b:β}{P Q R:α->β->Prop}(h:P a b)(h':Q a b)(k:R a b):∃x y,P x y/\Q x y/\R x y:=⟨a,b,h,h',k⟩
theorem xq3{α β γ:Sort _}{a:α}{b:β}{c:γ}{P Q R S:α->β->γ->Prop}(h:P a b c)(h':Q a b c)(d:R a b c)(k:S a b c):∃x y z,P x y z/\Q x y z/\R x y z/\S x y z:=⟨a,b,c,h,h',d,k⟩
theorem xq4{α β γ δ:Sort _}{a:α}{b:β}{c:γ}{d:δ}{P Q R S T:α->β->γ->δ->Prop}(h:P a b c d)(h':Q a b c d)(e:R a b c d)(f:S a b c d)(k:T a b c d):∃x y z w,P x y z w/\Q x y z w/\R x y z w/\S x y z w/\T x y z w:=⟨a,b,c,d,h,h',e,f,k⟩
theorem xq5{K:O_}{f:Str}{H:Hp}{a C dx:R_}{fs:List (Str×V)}{v:V}{Q:V->Prop}(h:H a=some (.ins C dx fs))(c:Cls K C)(d:BN K C f)(e:fs.lookup f=some v)(k:Q v):∃b C dx fs w,V.ref a=.ref b/\H b=some (.ins C dx fs)/\Cls K C/\BN K C f/\fs.lookup f=some w/\Q w:=⟨a,C,dx,fs,v,Z,h,c,d,e,k⟩
theorem xw2{α β:Sort _}{a:α}{b:β}{P:α->Prop}{Q:α->β->Prop}{K:α->β->Prop}(e:P a)(f:Q a b)(k:K a b):∃c,P c/\∃d,Q c d/\K c d:=⟨a,e,b,f,k⟩
theorem xw3{α β γ:Sort _}{a:α}{b:β}{c:γ}{P:α->Prop}{Q:α->β->Prop}{R:α->β->γ->Prop}{K:α->β->γ->Prop}(g:P a)(h:Q a b)(i:R a b c)(k:K a b c):∃d,P d/\∃e,Q d e/\∃f,R d e f/\K d e f:=⟨a,g,b,h,c,i,k⟩
theorem xwb{α β γ:Sort _}{a:α}{b:β}{c:γ}{P:α->Prop}{Q:α->β->γ->Prop}{R:α->β->γ->Prop}{K:α->β->γ->Prop}(g:P a)(h:Q a b c)(i:R a b c)(k:K a b c):∃d,P d/\∃e f,Q d e f/\R d e f/\K d e f:=⟨a,g,b,c,h,i,k⟩
theorem xwm{α β γ δ:Sort _}{a:α}{b:β}{c:γ}{d:δ}{P:α->Prop}{Q:α->β->γ->δ->Prop}{R:α->β->γ->δ->Prop}{S:α->β->γ->δ->Prop}{K:α->β->γ->δ->Prop}(i:P a)(j:Q a b c d)(l:R a b c d)(m:S a b c d)(k:K a b c d):∃e,P e/\∃f g h,Q e f g h/\R e f g h/\S e f g h/\K e f g h:=⟨a,i,b,c,d,j,l,m,k⟩
theorem xwi{α β γ δ ε:Sort _}{a:α}{b:β}{c:γ}{d:δ}{e:ε}{P:α->Prop}{Q:α->β->γ->δ->ε->Prop}{R:α->β->γ->δ->ε->Prop}{S:α->β->γ->δ->ε->Prop}{T:α->β->γ->δ->ε->Prop}{K:α->β->γ->δ->ε->Prop}(l:P a)(m:Q a b c d e)(n:R a b c d e)(o:S a b c d e)(p:T a b c d e)(k:K a b c d e):∃f,P f/\∃g h i j,Q f g h i j/\R f g h i j/\S f g h i j/\T f g h i j/\K f g h i j:=⟨a,l,b,c,d,e,m,n,o,p,k⟩
theorem xwf{α β γ δ ε ζ:Sort _}{a:α}{b:β}{c:γ}{d:δ}{e:ε}{f:ζ}{P:α->Prop}{Q:α->β->γ->δ->ε->ζ->Prop}{R:α->β->γ->δ->ε->ζ->Prop}{S:α->β->γ->δ->ε->ζ->Prop}{T:α->β->γ->δ->ε->ζ->Prop}{U:α->β->γ->δ->ε->ζ->Prop}{K:α->β->γ->δ->ε->ζ->Prop}(n:P a)(o:Q a b c d e f)(p:R a b c d e f)(q:S a b c d e f)(r:T a b c d e f)(s:U a b c d e f)(k:K a b c d e f):∃g,P g/\∃h i j l m,Q g h i j l m/\R g h i j l m/\S g h i j l m/\T g h i j l m/\U g h i j l m/\K g h i j l m:=⟨a,n,b,c,d,e,f,o,p,q,r,s,k⟩
theorem xwn{α β γ δ ε:Sort _}{a:α}{b:β}{c:γ}{d:δ}{e:ε}{P:α->Prop}{Q:α->β->γ->δ->Prop}{R:α->β->γ->δ->Prop}{S:α->β->γ->δ->Prop}{T:α->β->γ->δ->ε->Prop}{K:α->β->γ->δ->ε->Prop}(l:P a)(m:Q a b c d)(n:R a b c d)(o:S a b c d)(p:T a b c d e)(k:K a b c d e):∃f,P f/\∃g h i,Q f g h i/\R f g h i/\S f g h i/\∃j,T f g h i j/\K f g h i j:=⟨a,l,b,c,d,m,n,o,e,p,k⟩
theorem xwj{α β γ δ ε ζ:Sort _}{a:α}{b:β}{c:γ}{d:δ}{e:ε}{f:ζ}{P:α->Prop}{Q:α->β->Prop}{R:α->β->γ->δ->ε->ζ->Prop}{S:α->β->γ->δ->ε->ζ->Prop}{T:α->β->γ->δ->ε->ζ->Prop}{U:α->β->γ->δ->ε->ζ->Prop}{K:α->β->γ->δ->ε->ζ->Prop}(n:P a)(o:Q a b)(p:R a b c d e f)(q:S a b c d e f)(r:T a b c d e f)(s:U a b c d e f)(k:K a b c d e f):∃g,P g/\∃h,Q g h/\∃i j l m,R g h i j l m/\S g h i j l m/\T g h i j l m/\U g h i j l m/\K g h i j l m:=⟨a,n,b,o,c,d,e,f,p,q,r,s,k⟩
theorem Bf{A B:TS}{D:MT}{σ:St}{H:Hp}(h:let r:=B D;let s:=σ;∀k:St->Hp->Prop,(∀{σ H},r σ H->k σ H)->let E:MT:={D with nx:=k};A E s H):Zs A B D σ H:=h _ λz=>z
end L2
namespace Nu
open PySem PySem.NumText PyProof.Rows
theorem ext{a b:Str}(h:a.cps.toList=b.cps.toList):a=b:=by
 obtain⟨⟨l⟩⟩:=a;obtain⟨⟨r⟩⟩:=b;cases h;rfl
theorem len(x:Str):x.length=x.cps.toList.length:=by simp[Str.length]
end Nu
namespace Tx
open PySem PySem.Builtin PySem.Builtin.Str PyProof.Rows
theorem CS(a b:Str):(a++b).cps.toList=a.cps.toList++b.cps.toList:=cps_toList_append a b
noncomputable def jl(sep:J_):List (List Nat)->List Nat
|[]=>[]
|[x]=>x
|x::y::r=>x++sep++jl sep (y::r)
theorem IC(a:Str):∀b:List Str,(Str.join a b).cps.toList=jl a.cps.toList (b.map λt=>t.cps.toList)
|[]=>rfl
|[x]=>rfl
|x::y::r=>by
 have e:Str.join a (x::y::r)=x++a++Str.join a (y::r):=rfl;rw[e,CS,CS,IC a (y::r)];rfl
theorem SG{c:Nat}:∀{x y A B:J_},c∉x->c∉y->x++c::A=y++c::B->x=y/\A=B
|[],[],A,B,_,_,h=>⟨Z,by simpa using h⟩
|[],y::ys,A,B,_,hy,h=>by
 simp at h;exact absurd (by rw[h.1];exact C2) hy
|x::xs,[],A,B,hx,_,h=>by
 simp at h;exact absurd (by rw[<-h.1];exact C2) hx
|x::xs,y::ys,A,B,hx,hy,h=>by
 simp at h;obtain⟨e,h⟩:=h;obtain⟨a,b⟩:=SG (x:=xs) (y:=ys) (λz=>hx (C4 _ z)) (λz=>hy (C4 _ z)) h;exact⟨by rw[e,a],b⟩
theorem Vk(c:Nat)(s:J_):∀(as bs:List (List Nat)),as≠[]->bs≠[]->(∀t∈as,c∉t)->(∀t∈bs,c∉t)->jl (c::s) as=jl (c::s) bs->as=bs
|[],_,h,_,_,_,_=>absurd Z h
|_,[],_,h,_,_,_=>absurd Z h
|[x],[y],_,_,_,_,e=>by
 have a:x=y:=e;rw[a]
|[x],y::z::r,_,_,ha,_,e=>by
 have a:x=y++c::s++jl (c::s) (z::r):=e;exact absurd (by rw[a];simp) (ha x C2)
|x::z::r,[y],_,_,_,hb,e=>by
 have a:x++c::s++jl (c::s) (z::r)=y:=e;exact absurd (by rw[<-a];simp) (hb y C2)
|x::x2::r,y::y2::r',_,_,ha,hb,e=>by
 have a:x++c::(s++jl (c::s) (x2::r))=y++c::(s++jl (c::s) (y2::r')):=by
  have:x++c::s++jl (c::s) (x2::r)=y++c::s++jl (c::s) (y2::r'):=e
  simpa using this
 obtain⟨d,f⟩:=SG (ha x C2) (hb y C2) a;have g:=List.append_cancel_left f;rw[d,Vk c s (x2::r) (y2::r') A6 A6 (λt b=>ha t (C4 _ b)) (λt b=>hb t (C4 _ b)) g]
theorem Rc {as bs:K_} (h:as.map (λt=>t.cps.toList)=bs.map λt=>t.cps.toList):as=bs:=by
 induction as generalizing bs with
 |nil=>cases bs with|nil=>rfl|cons=>simp at h
 |cons a r c =>
  cases bs with
  |nil=>simp at h
  |cons b q =>
   simp at h;rw[Nu.ext (a:=a) (b:=b) (by simpa using h.1),c (by simpa using h.2)]
theorem SZ(c:Nat)(a:K_)(b:a≠[])(f:∀t∈a,c∉t.cps.toList):Txt.split (Str.join ⟨#[c]⟩ a) ⟨#[c]⟩=a:=by
 refine Rc (Vk c [] _ _ ?_ ?_ ?_ ?_ ?_)
 .intro h;have:=split_pos (Str.join ⟨#[c]⟩ a) ⟨#[c]⟩;have g:(Txt.split (Str.join ⟨#[c]⟩ a) ⟨#[c]⟩).length=0:=by simpa using K0 List.length h
  lia
 .simpa using b
 .intro t e;obtain⟨p,d,rfl⟩:=C8.mp e;exact StrLaws.split_free _ c p d
 .intro t e;obtain⟨p,d,rfl⟩:=C8.mp e;exact f p d
 .have h:=K0 (λz:Str=>z.cps.toList) (StrLaws.join_split (Str.join ⟨#[c]⟩ a) ⟨#[c]⟩);rw[IC,IC]at h;exact h
theorem GK(c:Nat)(a b:Str)(h:c∉a.cps.toList):Txt.partition (a++⟨#[c]⟩++b) ⟨#[c]⟩=(a,⟨#[c]⟩,b):=by
 have d:c∈(a++⟨#[c]⟩++b).cps.toList:=by rw[CS,CS];simp
 have v:=StrLaws.partition_sum (a++⟨#[c]⟩++b) ⟨#[c]⟩;have s:=partition_head (a++⟨#[c]⟩++b) ⟨#[c]⟩;have g:=StrLaws.found_one (a++⟨#[c]⟩++b) c;rw[Z5 d]at g;have f:(Txt.partition (a++⟨#[c]⟩++b) ⟨#[c]⟩).2.1=⟨#[c]⟩:=by
  unfold Txt.partition;cases e:occurrences (a++⟨#[c]⟩++b) ⟨#[c]⟩ 0 (a++⟨#[c]⟩++b).length 1 with
  |nil=>rw[e]at g;simp at g
  |cons i l=>rfl
 have m:c∉(Txt.partition (a++⟨#[c]⟩++b) ⟨#[c]⟩).1.cps.toList:=by
  rcases s with ⟨_,no⟩|⟨i,e,r,no⟩
  .obtain⟨j,t⟩:=L5 d;exact absurd ((StrLaws.subAt_one _ c j).mpr t) (no j)
  .rw[e];exact StrLaws.part_free _ c 0 i (by have:i+1<=_:=r.1;lia) λk _ u=>no k u
 have e:(Txt.partition (a++⟨#[c]⟩++b) ⟨#[c]⟩).1.cps.toList++(Txt.partition (a++⟨#[c]⟩++b) ⟨#[c]⟩).2.1.cps.toList++(Txt.partition (a++⟨#[c]⟩++b) ⟨#[c]⟩).2.2.cps.toList=a.cps.toList++[c]++b.cps.toList:=by
  have n:=K0 (λz:Str=>z.cps.toList) v;rw[CS,CS,CS,CS]at n;exact n
 rw[f]at e;have o:(Txt.partition (a++⟨#[c]⟩++b) ⟨#[c]⟩).1.cps.toList++c::(Txt.partition (a++⟨#[c]⟩++b) ⟨#[c]⟩).2.2.cps.toList=a.cps.toList++c::b.cps.toList:=by simpa using e
 obtain⟨p,q⟩:=SG m h o;exact Prod.ext (Nu.ext p) (Prod.ext f (Nu.ext q))
theorem JU{n:Int}(a:0<=n)(b:n<=9):(Str.ofString (toString n))=(⟨#[48+n.toNat]⟩:Str):=by
 obtain⟨m,rfl⟩:=F5 a;exact(show ∀m:Nat,m<10->(Str.ofString (toString (m:Int)))=(⟨#[48+(m:Int).toNat]⟩:Str) by decide +kernel) m A0
end Tx
namespace Tx
open PySem PySem.Builtin PySem.Builtin.Str PyProof.Rows
theorem WG(c:Str)(m:Nat):∀(l:K_)(b:Nat),(∀t∈l,t.length<=m)->l.foldl (λa t=>a+t.length+c.length) b<=b+l.length*(m+c.length)
|[],b,_=>by simp
|t::r,b,h=>by
 have e:=h t C2;have f:=WG c m r (b+t.length+c.length) λz d=>h z (C4 _ d);rw[S5,F0,V5];lia
theorem join_ok{b:Str}{l:K_}(m:Nat)(h:∀t∈l,t.length<=m)(d:l.length*(m+b.length)<=100000):JoinOk b l=true:=by
 unfold JoinOk;have c:=WG b m l 0 h;have e:l.toArray.foldl (λa t=>a+t.length+b.length) 0=l.foldl (λa t=>a+t.length+b.length) 0:=by simp
 rw[e];have:tooLong (l.foldl (λa t=>a+t.length+b.length) 0)=false:=by
  unfold tooLong;refine Z8 ?_;have:(100000:Nat)<=sizeLine:=by decide
  lia
 rw[this];rfl
end Tx
namespace Tx
open PySem PySem.Builtin PySem.Builtin.Str PyProof.Rows
theorem at_two(x:Str)(c d k:Nat)(e:x.cps.toList[k]?=some c)(a:x.cps.toList[k+1]?=some d):StrLaws.At x ⟨#[c,d]⟩ x.length k:=by
 have l:k+1<x.cps.toList.length:=(B7.mp a).1;refine⟨?_,?_⟩
 .show k+2<=x.length;rw[Nu.len];lia
 .rw[StrLaws.subAt_eq];show((x.cps.toList.drop k).take 2==[c,d])=true;have b:x.cps.toList.drop k=c::d::x.cps.toList.drop (k+2):=by
   rw[List.drop_eq_getElem_cons A0,(B7.mp e).2,List.drop_eq_getElem_cons l,(B7.mp a).2]
  rw[b];simp
def Led(c d:Nat)(l:J_):Prop:=∀k:Nat,l[k]?=some c->l[k+1]?=some d
theorem Pq{x:Str}{c d a b:Nat}(l:Led c d x.cps.toList)(m:b<=x.length)(i:∀k,a<=k->k<b->¬StrLaws.At x ⟨#[c,d]⟩ x.length k):c∉(strSub x a b).cps.toList:=by
 intro g;rw[StrLaws.strSub_toList]at g;obtain⟨j,e⟩:=L5 g;have f:j<b-a:=by
  have h:j<((x.cps.toList.drop a).take (b-a)).length:=(B7.mp e).1;rw[L7]at h;lia
 rw[U6 f,List.getElem?_drop]at e;exact i (a+j) A0 A0 (at_two x c d (a+j) e (l _ e))
theorem NT{x:Str}{c d:Nat}(j:Led c d x.cps.toList):∀(b:J_)(a f:Nat),StrLaws.ChainG x ⟨#[c,d]⟩ x.length a b f->(∀k,f<=k->¬StrLaws.At x ⟨#[c,d]⟩ x.length k)->∀p∈StrLaws.partsFrom x 2 a b,c∉p.cps.toList
|[],a,f,h,hn,p,hp=>by
 have e:f=a:=h;subst e;rw[D1.mp hp];exact Pq j (C0 _) λk l _=>hn k l
|g::r,a,f,h,hn,p,hp=>by
 rcases C1.mp hp with rfl|i
 .exact Pq j (by have:g+2<=_:=h.2.1.1;lia) h.2.2.1
 .exact NT j r _ f h.2.2.2 hn p i
theorem kind_le(x:Str):¬Builtin.Str.strKind x<Builtin.Str.strKind (⟨#[59,32]⟩:Str):=by
 have e:Builtin.Str.strKind (⟨#[59,32]⟩:Str)=1:=by simp[Builtin.Str.strKind]
 rw[e];unfold Builtin.Str.strKind;split
 .decide
 .split<;>decide
theorem Ta{x:Str}(m:Led 59 32 x.cps.toList):∀p∈Txt.split x ⟨#[59,32]⟩,59∉p.cps.toList:=by
 obtain⟨f,c,l⟩:=StrLaws.occ_tight x ⟨#[59,32]⟩ A4;have a:59∈x.cps.toList->∃k,StrLaws.At x ⟨#[59,32]⟩ x.length k:=λb=>by
  obtain⟨j,i⟩:=L5 b;exact⟨j,at_two x 59 32 j i (m j i)⟩
 unfold Txt.split;split
 .rename_i g;intro p e;rw[D1.mp e];intro b;obtain⟨k,d⟩:=a b;have q:k+2<=x.length:=d.1;rw[Bool.or_eq_true,A6g,A6g]at g;rcases g with h|h
  .have r:x.length<2:=h;lia
  .exact kind_le x h
 .split
  .rename_i n;intro p e;rw[D1.mp e];intro b;obtain⟨k,d⟩:=a b;rw[List.isEmpty_iff.mp n]at c;have o:f=0:=c;exact l k A0 d
  .rw[StrLaws.partsBetween_eq];exact NT m _ 0 f c l
theorem led_jl{c d:Nat}(a:c≠d):∀b:List (List Nat),(∀t∈b,c∉t)->Led c d (jl [c,d] b)
|[],_=>λk h=>by simp[jl]at h
|[x],hf=>λk h=>absurd (D5 (show x[k]?=some c from h)) (hf x C2)
|x::y::r,hf=>λk h=>by
 have j:=led_jl a (y::r) λt i=>hf t (C4 _ i);have e:jl [c,d] (x::y::r)=x++(c::d::jl [c,d] (y::r)):=by
  show x++[c,d]++jl [c,d] (y::r)=_;simp
 rw[e]at h⊢;by_cases f:k<x.length
 .rw[M4 f]at h;exact absurd (D5 h) (hf x C2)
 .rw[F8 A0]at h;rw[F8 A0];obtain⟨m,g⟩:∃m,k-x.length=m:=⟨_,Z⟩
  rw[show k+1-x.length=m+1 by lia];rw[g]at h;cases m with
  |zero=>rfl
  |succ m =>
   cases m with
   |zero =>
    have:some d=some c:=h;exact absurd (X4 this).symm a
   |succ m =>
    rw[V3,V3]at h⊢;exact j m h
theorem SY(a:K_)(d:a≠[])(f:∀t∈a,59∉t.cps.toList):Txt.split (Str.join ⟨#[59,32]⟩ a) ⟨#[59,32]⟩=a:=by
 have e:Led 59 32 (Str.join ⟨#[59,32]⟩ a).cps.toList:=by
  rw[IC];refine led_jl A4 _ λt c=>?_;obtain⟨p,b,rfl⟩:=C8.mp c;exact f p b
 refine Rc (Vk 59 [32] _ _ ?_ ?_ ?_ ?_ ?_)
 .intro h;have:=split_pos (Str.join ⟨#[59,32]⟩ a) ⟨#[59,32]⟩;have g:(Txt.split (Str.join ⟨#[59,32]⟩ a) ⟨#[59,32]⟩).length=0:=by simpa using K0 List.length h
  lia
 .simpa using d
 .intro t c;obtain⟨p,b,rfl⟩:=C8.mp c;exact Ta e p b
 .intro t c;obtain⟨p,b,rfl⟩:=C8.mp c;exact f p b
 .have h:=K0 (λz:Str=>z.cps.toList) (StrLaws.join_split (Str.join ⟨#[59,32]⟩ a) ⟨#[59,32]⟩);rw[IC,IC]at h;exact h
end Tx
namespace L2
open PySem PySem.Spec PyProof.Rows
section
variable{κ:Type}[DecidableEq κ]
noncomputable def Bo(kvs:List (κ×V))(k:κ):Option V:=(kvs.find? λkv=>decide (kv.1=k)).map (·.2)
noncomputable def Do(kvs:List (κ×V))(k:κ)(v:V):List (κ×V) :=
 if(kvs.any λkv=>decide (kv.1=k))=true then kvs.map (λkv=>if kv.1=k then(kv.1,v)else kv)else kvs++[(k,v)]
theorem BL{p:κ×V}{r:List (κ×V)}{k:κ}(e:p.1=k):Bo (p::r) k=some p.2:=by simp[Bo,O9,e]
theorem Bn{p:κ×V}{r:List (κ×V)}{k:κ}(e:¬p.1=k):Bo (p::r) k=Bo r k:=by simp[Bo,O9,e]
theorem FO(k:κ):∀kvs:List (κ×V),(kvs.any λa=>decide (a.1=k))=(Bo kvs k).isSome
|[]=>rfl
|p::r=>by
 rw[U7];by_cases e:p.1=k
 .simp only[BL e,Z5 e,Bool.true_or,Option.isSome_some]
 .rw[Bn e,Z8 e,Bool.false_or];exact FO k r
theorem SQ(k j:κ)(y:V):∀kvs:List (κ×V),Bo (kvs.map λa=>if a.1=k then(a.1,y)else a) j=(Bo kvs j).map λx=>if j=k then y else x
|[]=>rfl
|p::r=>by
 have b:=SQ k j y r;rw[D9];by_cases h:p.1=k
 .rw[Z7 h];by_cases e:p.1=j
  .rw[BL (p:=(p.1,y)) e,BL e,W0,Z7 (e.symm.trans h)]
  .rw[Bn (p:=(p.1,y)) e,Bn e,b]
 .rw[Z4 h];by_cases e:p.1=j
  .rw[BL (p:=p) e,BL e,W0,Z4 (λz=>h (e.trans z))]
  .rw[Bn (p:=p) e,Bn e,b]
theorem QS(k j:κ)(y:V):∀kvs:List (κ×V),Bo kvs k=none->Bo (kvs++[(k,y)]) j=if j=k then some y else Bo kvs j
|[],_=>by
 by_cases e:k=j
 .rw[Z7 e.symm];exact BL (p:=(k,y)) e
 .rw[Z4 (λz=>e z.symm)];exact Bn (p:=(k,y)) e
|p::r,hn=>by
 rw[List.cons_append];have a:¬p.1=k:=λz=>by rw[BL z]at hn;cases hn
 rw[Bn a]at hn;have b:=QS k j y r hn;by_cases e:p.1=j
 .rw[BL e,BL e,Z4 (λz=>a (e.trans z))]
 .rw[Bn e,Bn e,b]
theorem FN(kvs:List (κ×V))(k j:κ)(y:V):Bo (Do kvs k y) j=if j=k then some y else Bo kvs j:=by
 unfold Do;by_cases a:(kvs.any λc=>decide (c.1=k))=true
 .rw[Z7 a,SQ];rw[FO]at a;by_cases e:j=k
  .obtain⟨x,b⟩:=Option.isSome_iff_exists.mp a;rw[Z7 e,e,b,W0,Z7 rfl]
  .rw[Z4 e];cases Bo kvs j with
   |none=>rfl
   |some x=>rw[W0,Z4 e]
 .rw[Z4 a];refine QS k j y kvs ?_;rw[FO]at a;cases q:Bo kvs k with
  |none=>rfl
  |some x=>rw[q]at a;exact(a Z).elim
theorem Fk(kvs:List (κ×V))(k:κ)(v:V):(Do kvs k v).length<=kvs.length+1:=by
 unfold Do;split
 .rw[B6];lia
 .rw[C3,F0,List.length_nil];lia
theorem Iz{kvs:List (κ×V)}{k:κ}(v:V)(h:Bo kvs k=none):Do kvs k v=kvs++[(k,v)]:=by
 unfold Do;rw[FO,h];exact Z4 A4
theorem Jl.isSome_eq{o:Option V}{u:Option Value}(r:Jl o u):o.isSome=u.isSome:=by
 cases o with
 |none=>cases u with
  |none=>rfl
  |some _=>exact(show False from r).elim
 |some _=>cases u with
  |none=>exact(show False from r).elim
  |some _=>rfl
theorem Jl.getD{o:Option V}{u:Option Value}{d:V}{d':S_}(r:Jl o u)(a:Bd d d'):Bd (o.getD d) (u.getD d'):=by
 cases o with
 |none=>cases u with
  |none=>exact a
  |some _=>exact(show False from r).elim
 |some _=>cases u with
  |none=>exact(show False from r).elim
  |some _=>exact r
theorem KV.val{kvs:List (κ×V)}{vs:List (κ×Value)}(r:KV kvs vs)(k:κ):Jl (Bo kvs k) (valueAt vs k):=by
 unfold KV at r;induction r with
 |nil=>exact True.intro
 |@cons p q i c h t g =>
  obtain⟨d,f⟩:=h;by_cases e:p.1=k
  .have a:q.1=k:=d.symm.trans e;have b:valueAt (q::c) k=some q.2:=by simp[valueAt,O9,a]
   rw[BL e,b];exact f
  .have a:¬q.1=k:=λz=>e (d.trans z);have b:valueAt (q::c) k=valueAt c k:=by simp[valueAt,O9,a]
   rw[Bn e,b];exact g
theorem KV.any{kvs:List (κ×V)}{vs:List (κ×Value)}(r:KV kvs vs)(k:κ):(kvs.any λa=>decide (a.1=k))=vs.any λa=>decide (a.1=k):=by
 unfold KV at r;induction r with
 |nil=>rfl
 |cons h t b=>rw[U7,U7,b,h.1]
theorem KV.repl{kvs:List (κ×V)}{vs:List (κ×Value)}(r:KV kvs vs)(k:κ){y:V}{u:S_}(f:Bd y u) :
  KV (kvs.map λa=>if a.1=k then(a.1,y)else a) (vs.map λa=>if a.1=k then(a.1,u)else a):=by
 unfold KV at r⊢;induction r with
 |nil=>exact .nil
 |@cons p q g i h t d =>
  rw[D9,D9];refine .cons ?_ d;obtain⟨b,c⟩:=h;by_cases e:p.1=k
  .rw[Z7 e,Z7 (b.symm.trans e)];exact⟨b,f⟩
  .rw[Z4 e,Z4 (λz=>e (b.trans z))];exact⟨b,c⟩
theorem KV.put{kvs:List (κ×V)}{vs:List (κ×Value)}(r:KV kvs vs)(k:κ){y:V}{u:S_}(a:Bd y u):KV (Do kvs k y) (stored vs k u):=by
 unfold Do stored;rw[r.any k];by_cases e:(vs.any λb=>decide (b.1=k))=true
 .rw[Z7 e,Z7 e];exact r.repl k a
 .rw[Z4 e,Z4 e];exact A2b r ⟨Z,a⟩
theorem KV.length{kvs:List (κ×V)}{vs:List (κ×Value)}(r:KV kvs vs):kvs.length=vs.length:=K5 r
end
theorem TX{P:N_}{w:Q_}{k:Key}{u:S_}(r:Bd (kV k) u):(Co P w).is k u=true:=by
 cases k with
 |inl i=>obtain⟨t,e⟩:=(show ∃t,u=Value.int i t from r);subst e;exact TR P w i t
 |inr x=>obtain⟨t,e⟩:=(show ∃t,u=Value.str x t from r);subst e;exact TQ P w x t
theorem Rg{P:N_}{w:Q_}:∀{ks:List Key}{us:F_},AR (ks.map kV) us->ItemsAre (Co P w) ks us
|[],_,r=>by rw[Z0]at r;cases r;exact .nil
|k::ks,_,r=>by
 rw[D9]at r;cases r with
 |cons h t=>exact .cons (TX h) (Rg t)
abbrev KT(H:Hp):List (List Key×V)->List (List Key×Addr×Value)->Prop:=Paired λp q=>p.1=q.1/\H q.2.1=some (.tup (p.1.map kV))/\Bd p.2 q.2.2
theorem KT.val{H:Hp}{kvs:List (List Key×V)}{xs:List (List Key×Addr×Value)}(r:KT H kvs xs)(k:List Key):Jl (Bo kvs k) ((atKey xs k).map (·.2)):=by
 induction r with
 |nil=>exact True.intro
 |@cons p q i c h t g =>
  obtain⟨d,_,f⟩:=h;by_cases e:p.1=k
  .have a:q.1=k:=d.symm.trans e;have b:atKey (q::c) k=some q.2:=by simp[atKey,O9,a]
   rw[BL e,b];exact f
  .have a:¬q.1=k:=λz=>e (d.trans z);have b:atKey (q::c) k=atKey c k:=by simp[atKey,O9,a]
   rw[Bn e,b];exact g
theorem KT.repl{H:Hp}{kvs:List (List Key×V)}{xs:List (List Key×Addr×Value)}(r:KT H kvs xs)(k:List Key){y:V}{u:S_}(g:Bd y u) :
  KT H (kvs.map λb=>if b.1=k then(b.1,y)else b) (xs.map (putAt k u)):=by
 induction r with
 |nil=>exact .nil
 |@cons p q i j h t f =>
  rw[D9,D9];refine .cons ?_ f;obtain⟨a,c,d⟩:=h;unfold putAt;by_cases e:p.1=k
  .rw[Z7 e,Z7 (a.symm.trans e)];exact⟨a,c,g⟩
  .rw[Z4 e,Z4 (λz=>e (a.trans z))];exact⟨a,c,d⟩
theorem KT.put{H:Hp}{kvs:List (List Key×V)}{xs:List (List Key×Addr×Value)}(r:KT H kvs xs)(k:List Key){b:R_}{y:V}{u:S_}(c:H b=some (.tup (k.map kV)))(a:Bd y u) :
  KT H (Do kvs k y) (storedH xs k b u):=by
 have e:(kvs.any λd=>decide (d.1=k))=(atKey xs k).isSome:=by
  rw[FO,(r.val k).isSome_eq,Y9]
 unfold Do storedH;rw[e];by_cases q:(atKey xs k).isSome=true
 .rw[Z7 q,Z7 q];exact r.repl k a
 .rw[Z4 q,Z4 q];exact A2b r ⟨Z,c,a⟩
theorem KT.keeps{H a:Hp}{kvs:List (List Key×V)}{xs:List (List Key×Addr×Value)}(r:KT H kvs xs)(c:∀b ys,H b=some (.tup ys)->a b=some (.tup ys)):KT a kvs xs :=
 Paired.mapP r λ_ _ z=>⟨z.1,c _ _ z.2.1,z.2.2⟩
section
variable{P:N_}{w:Q_}{H:Hp}{h:T_}{a:R_}
theorem rd_of{u:HO}(ok:HOk P w H h)(e:Rd H a u):BE P w H h a u:=e.ok ok
theorem Rm{kvs:List (Key×V)}(ok:HOk P w H h)(e:Rd H a (.dK kvs)):kvs.length<=sizeLine/\(a==sysModules)=false/\∃vs,KV kvs vs/\h.DictOf (Co P w) a vs :=
 show BE P w H h a (.dK kvs)from rd_of ok e
theorem dk_of{kvs:List (Key×V)}(ok:HOk P w H h)(e:H a=some (.dK kvs)):kvs.length<=sizeLine/\(a==sysModules)=false/\∃vs,KV kvs vs/\h.DictOf (Co P w) a vs:=Rm ok (.inl e)
theorem PX{ks:List Key}(ok:HOk P w H h)(e:H a=some (.tup (ks.map kV))):(tupleKind (Co P w)).is h ks a:=by
 obtain⟨_,b,r,o,c,d,n,f⟩:=(show BE P w H h a (.tup (ks.map kV))from ok a _ e)
 exact⟨o,b.toArray,n,c,d,f,by simpa using Rg r⟩
theorem Rk{kvs:List (List Key×V)}(ok:HOk P w H h)(e:Rd H a (.dT kvs)):kvs.length<=sizeLine/\(a==sysModules)=false /\
  ∃xs,KT H kvs xs/\h.DictOfH (tupleKind (Co P w)) a xs:=by
 obtain⟨z,y,xs,r,o,f,d,g,i,j,k,n⟩:=(show BE P w H h a (.dT kvs)from rd_of ok e)
 refine⟨z,y,xs,r,o,f,d,g,i,j,k,λx b=>?_,n⟩;have all:∀{l:List (List Key×V)}{m:List (List Key×Addr×Value)},KT H l m->∀x∈m,(tupleKind (Co P w)).is h x.1 x.2.1:=by
  intro l m q;induction q with
  |nil=>intro x b;exact nomatch b
  |@cons p q u v c t s =>
   intro x b;rcases C1.mp b with e|b
   .subst e;exact PX ok (by rw[<-c.1];exact c.2.1)
   .exact s x b
 exact all r x b
theorem dt_of{kvs:List (List Key×V)}(ok:HOk P w H h)(e:H a=some (.dT kvs)):kvs.length<=sizeLine/\(a==sysModules)=false /\
 ∃xs,KT H kvs xs/\h.DictOfH (tupleKind (Co P w)) a xs:=Rk ok (.inl e)
end
def Jm(H:Hp)(a:R_)(y:V)(r:Option V):Prop :=
 (∃kvs k,Rd H a (.dK kvs)/\y=kV k/\r=Bo kvs k)\/∃kvs k b,Rd H a (.dT kvs)/\y=.ref b/\H b=some (.tup (k.map kV))/\r=Bo kvs k
def Mb(H:Hp)(a:R_)(y v:V)(H':Hp):Prop :=
 (∃kvs k,H a=some (.dK kvs)/\y=kV k/\kvs.length<sizeLine/\H'=upd H a (.dK (Do kvs k v))) \/
 ∃kvs k b,H a=some (.dT kvs)/\y=.ref b/\H b=some (.tup (k.map kV))/\kvs.length<sizeLine/\H'=upd H a (.dT (Do kvs k v))
theorem Jm.k{H:Hp}{a:R_}{kvs:List (Key×V)}{k:Key}(e:H a=some (.dK kvs)):Jm H a (kV k) (Bo kvs k):=.inl ⟨kvs,k,.inl e,Z,Z⟩
theorem Jm.t{H:Hp}{a b:R_}{kvs:List (List Key×V)}{k:List Key}(e:H a=some (.dT kvs))(c:H b=some (.tup (k.map kV))):Jm H a (.ref b) (Bo kvs k):=.inr ⟨kvs,k,b,.inl e,Z,c,Z⟩
theorem Mb.k{H:Hp}{a:R_}{kvs:List (Key×V)}{k:Key}{v:V}(e:H a=some (.dK kvs))(b:kvs.length<sizeLine):Mb H a (kV k) v (upd H a (.dK (Do kvs k v))):=.inl ⟨kvs,k,e,Z,b,Z⟩
theorem Mb.t{H:Hp}{a b:R_}{kvs:List (List Key×V)}{k:List Key}{v:V}(e:H a=some (.dT kvs))(c:H b=some (.tup (k.map kV)))(d:kvs.length<sizeLine) :
 Mb H a (.ref b) v (upd H a (.dT (Do kvs k v))):=.inr ⟨kvs,k,b,e,Z,c,d,Z⟩
section
variable{X:Cx}{pins:A_}{σ:St}{H:Hp}{s:P_}{a:R_}{y v:V}{u r:S_}{o:Option V}{A:Around}{E:B_}
theorem Inv.big(I:Inv X pins σ H s):sysModules<s.heap.objs.size:=by
 have h:mainGlobals<s.heap.objs.size:=(I.mod.glob.keeps I.bk).lt;exact T8 A4 h
theorem Zc{Q:B_}(D:A.units+1<cLine)(I:Inv X pins σ H s)(g:Jm H a y (some v))(q:Bd y u)(h:∀f t,Inv X pins σ H t->Bd v f->Q f t) :
  wpAny (model X.prog X.w) A (getItem (.ref a) u) Q E s:=by
 rcases g with ⟨kvs,k,e,j,l⟩|⟨kvs,k,b,e,j,x,l⟩
 .subst j;obtain⟨z,B,vs,c,i⟩:=Rm I.hok e;obtain⟨f,n,d⟩:=Jl.some_of (v:=v) (o:=valueAt vs k) (by rw[l];exact c.val k);exact wpAny_getItem_of (TX q) i.mapOf n (h f _ (I.tok _) d)
 .subst j;cases(show u=Value.ref b from q);obtain⟨z,B,xs,c,i⟩:=Rk I.hok e;obtain⟨f,n,d⟩:=Jl.some_of (v:=v) (o:=(atKey xs k).map (·.2)) (by rw[l];exact c.val k);obtain⟨p,C,m⟩:=D6.mp n;refine wpAny_getItem_heap (A4g D) (PX I.hok x) i C ?_;rw[m];exact h f _ (I.tok _) d
theorem d_notIn{Q:B_}(p:A.units+1<cLine)(I:Inv X pins σ H s)(g:Jm H a y o)(j:Bd y u)(h:∀m,Inv X pins σ H m->Q (.bool (!o.isSome)) m) :
  wpAny (model X.prog X.w) A (compareOp .NotIn u (.ref a)) Q E s:=by
 rcases g with ⟨kvs,k,e,f,l⟩|⟨kvs,k,b,e,f,n,l⟩
 .subst f;obtain⟨z,i,vs,c,d⟩:=Rm I.hok e;refine wpAny_notIn_of (TX j) i d.mapOf ?_;rw[<-(c.val k).isSome_eq,<-l];exact h _ (I.tok _)
 .subst f;cases(show u=Value.ref b from j);obtain⟨z,i,xs,c,d⟩:=Rk I.hok e;refine wpAny_notIn_heap (A4g p) (PX I.hok n) i d ?_;have q:=(c.val k).isSome_eq;rw[Y9]at q;rw[<-q,<-l];exact h _ (I.tok _)
theorem OK{h':T_}{t':Nat}{c:HO}(I:Inv X pins σ H s)(h:Mut (H a))(g:Heap.SameBut a s.heap h')(f:∃q,h'.get? a=some q)(new:BE X.prog X.w (upd H a c) h' a c) :
  Inv X pins σ (upd H a c) {s with heap:=h',toks:=t'} :=
 I.write (x:=a) (e:=a) h (.inl Z) (λb q d z=>(g.2 b d).trans z) f new
theorem dk_new{P:N_}{w:Q_}{c:Hp}{h':T_}{kvs:List (Key×V)}{vs:List (Key×Value)}(z:kvs.length<=sizeLine)(e:(a==sysModules)=false)(b:KV kvs vs)(d:h'.DictOf (Co P w) a vs) :
 BE P w c h' a (.dK kvs):=⟨z,e,vs,b,d⟩
theorem Zb{C:Hp}{Q:Unit->Shared->Prop}(U:A.units+1<cLine)(I:Inv X pins σ H s)(g:Mb H a y v C)(K:Bd y u)(G:Bd v r)(h:∀L,Inv X pins σ C L->Q () L) :
  wpAny (model X.prog X.w) A (setItem (.ref a) u r) Q E s:=by
 rcases g with ⟨kvs,k,e,n,l,m⟩|⟨kvs,k,b,e,n,D,l,m⟩
 .subst n m;obtain⟨z,p,vs,d,j⟩:=dk_of I.hok e;have B:vs.length<=sizeLine:=by rw[<-d.length];exact z
  have t:(Do kvs k v).length<=sizeLine:=by have:=Fk kvs k v;lia
  refine wpAny_setItem_pairs (hsz:=B) (TX K) j λh' f x=>h _ ?_;have T:∃q,h'.get? a=some q:=let ⟨q,_,_,i,_⟩:=f;⟨q,i⟩;exact OK I (by rw[e];exact True.intro) x T (dk_new t p (d.put k G) f)
 .subst n m;cases(show u=Value.ref b from K);obtain⟨z,p,xs,d,j⟩:=dt_of I.hok e;have B:xs.length<=sizeLine:=by rw[<-K5 d];exact z
  have t:(Do kvs k v).length<=sizeLine:=by have:=Fk kvs k v;lia
  refine wpAny_setItem_heap (hsz:=B) (A4g U) (PX I.hok D) j λh' f x=>h _ ?_;obtain⟨q,N,M,i,O,P,R,_,S⟩:=f;refine OK I (by rw[e];exact True.intro) x ⟨q,i⟩ ⟨t,p,_,(d.put k D G).keeps λc ys F=>?_,q,N,M,i,O,P,R,S⟩;rw[As (AE F e (λz=>nomatch z))];exact F
end
def NoSl(i:Expr):Prop:=∀ov iv,subscripted i false ov iv=operate [ov,iv] (getItem ov iv)
theorem subD_of{prog:N_}{w:Q_}{A:Around}{E:B_}{s:P_}{g:Env}{b a:Expr}{pos:Pos}{T id:String}{Q:B_}
  (m:typeLookup (.type T) "__getitem__" = pure (some (.builtin id))) (n:NoSl a)
  (h:wpAny (model prog w) A (eval b g) (λo e=>wpAny (model prog w) A (eval a g) (λi c=>c.TypeIs o T/\wpAny (model prog w) A (getItem o i) Q E c) E e) E s) :
  wpAny (model prog w) A (eval (.Subscript b a pos) g) Q E s:=by
 refine Subscript_ (A1b h (λo e j=>A1b j (λi c d=>?_) λ_ _ x=>x) λ_ _ x=>x);obtain⟨l,d⟩:=d;unfold subscriptTail;refine Z3 ?_;rw[getitemInPython_of_ne l.not_modules];refine Z3 (A4c l m ?_);have fin:wpAny (model prog w) A (subscripted a false o i) (λr f=>wpAny (model prog w) A (letTemporaryGo b o r >>= λ_=>pure r) Q E f) E c:=by
  rw[n o i];exact wpAny_operating (A1b d (λr f k=>Z3 (wpAny_letTemporaryGo (Z6 k))) λ_ _ x=>x)
 first
  |exact Z6 (Z3 fin)
  |exact Z3 (Z6 (Z3 fin))
  |exact Z3 fin
theorem Ud{X:Cx}{c:A_}{σ:St}{H:Hp}{s:P_}{a:R_}{y:V}{o:Option V}(I:Inv X c σ H s)(g:Jm H a y o):s.TypeIs (.ref a) "dict" := by
 rcases g with ⟨kvs,k,e,_,_⟩|⟨kvs,k,b,e,_,_,_⟩
 .obtain⟨_,_,vs,_,d⟩:=Rm I.hok e;exact d.typeIs
 .obtain⟨_,_,xs,_,d⟩:=Rk I.hok e;exact d.typeIs
def tDGet(td ty:TE):TE:=fun σ H Q=>td σ H λx H1=>ty σ H1 λy H2=>∃a v,x=.ref a/\Jm H2 a y (some v)/\Q v H2
def tDNotIn(ty td:TE):TE:=fun σ H Q=>ty σ H λy H1=>td σ H1 λx H2=>∃a o,x=.ref a/\Jm H2 a y o/\Q (.bl (!o.isSome)) H2
def sDPut(td ty tv:TE):TS:=λD σ H=>tv σ H λv H1=>td σ H1 λx H2=>ty σ H2 λy H3=>∃a H4,x=.ref a/\Mb H3 a y v H4/\D.nx σ H4
section
variable{X:Cx}{o i e value:Expr}{pos pos' tpos:Pos}{td ty tv:TE}
theorem Mx(r:X.A.units+1<cLine)(p:PE X o td)(n:PE X i ty)(q:NoSl i):PE X (.Subscript o i pos) (tDGet td ty):=by
 intro b s σ H Q I h;refine subD_of PySem.F.slot_dict_getitem.lookup q (thn (p b s σ H _ I h) λu C ⟨x,f,k,z,t⟩=>thn (n b C σ f _ k t) λD E ⟨y,j,d,B,a,v,m,g,w⟩=>?_);subst m;obtain rfl:u=Value.ref a:=z;exact⟨Ud d g,Zc r d g B λK G l c=>⟨v,j,l,c,w⟩⟩
theorem Yo(q:X.A.units+1<cLine)(n:PE X i ty)(p:PE X o td):PC X .NotIn i o (tDNotIn ty td):=by
 intro b s σ H Q I h;refine thn (n b s σ H _ I h) λC B c=>?_;obtain⟨y,d,j,z,t⟩:=c;refine thn (p b B σ d _ j t) λu D c=>?_;obtain⟨x,f,k,w,a,r,m,g,v⟩:=c;subst m;obtain rfl:u=Value.ref a:=w;exact d_notIn q k g z λE l=>⟨.bl (!r.isSome),f,l,Z,v⟩
theorem Fz(w:X.A.units+1<cLine)(q:PE X o td)(p:PE X i ty)(z:PE X value tv)(t:swapsWith value (some (.Subscript o i pos')) pos.line X.env=pure false) :
  PS X (.Assign [.Subscript o i pos'] value pos) (sDPut td ty tv):=by
 intro b s σ H D I h;refine wpAny_Assign_Subscript (thn (z b s σ H _ I h) λr L ⟨v,c,j,F,B⟩=>thn (q b L σ c _ j B) λu M ⟨x,d,k,G,C⟩=>thn (p b M σ d _ k C) λO P ⟨y,N,l,K,a,f,n,g,E⟩=>?_) t;subst n;obtain rfl:u=Value.ref a:=G;exact Zb w l g K F λQ m=>⟨σ,f,m,E⟩
end
theorem dk_empty{P:N_}{w:Q_}{H:Hp}(h:T_)(a:sysModules<h.objs.size):BE P w H (h.push {cls:=.type "dict",data:=.dict #[]}) h.objs.size (.dK []) :=
 ⟨J0 _,beq_eq_false_iff_ne.mpr (X5 (F2 a)),[],.nil,Heap.DictOf.new h⟩
theorem dt_empty{P:N_}{w:Q_}{H:Hp}(h:T_)(a:sysModules<h.objs.size):BE P w H (h.push {cls:=.type "dict",data:=.dict #[]}) h.objs.size (.dT []) :=
 ⟨J0 _,beq_eq_false_iff_ne.mpr (X5 (F2 a)),[],.nil,_,#[],0,D0 _ Z,⟨Z,Z,Z⟩,Z,Z,O5⟩
def tDNewK:TE:=λ_ H Q=>∀p,H p=none->Q (.ref p) (upd H p (.dK []))
def tDNewT:TE:=λ_ H Q=>∀p,H p=none->Q (.ref p) (upd H p (.dT []))
section
variable{X:Cx}{pos:Pos}
theorem Mw:PE X (.Dict [] [] pos) tDNewK:=λb s σ H Q I h =>
 wpAny_Dict_empty ⟨.ref s.heap.objs.size,_,I.laid (a:=s.heap.objs.size) (o:=.dK []) (t':=s.toks) (λ_ _ q=>B9 _ q) (C0 _) (dk_empty s.heap I.big),Z,h _ (I.hok.fresh (C0 _))⟩
theorem Mv:PE X (.Dict [] [] pos) tDNewT:=λb s σ H Q I h =>
 wpAny_Dict_empty ⟨.ref s.heap.objs.size,_,I.laid (a:=s.heap.objs.size) (o:=.dT []) (t':=s.toks) (λ_ _ q=>B9 _ q) (C0 _) (dt_empty s.heap I.big),Z,h _ (I.hok.fresh (C0 _))⟩
end
structure M1(X:Cx)(o:Expr)(m:Str)(apos:Pos)(e:Expr)(cpos:Pos):Prop where
base:attributeBase o m X.env (eval o X.env)=eval o X.env
few:((backTo cpos (starEach [e] X.env)).all (λx=>!x.1) && (backToKw cpos (keywordEach [] X.env)).all (λx=>x.1.isSome)
 && decide (([e]:List Expr).length+([]:List Keyword).length+(if([]:List Keyword).isEmpty then 0 else 1)<30))=true
line:(apos.endLine==cpos.line)=true
trees:backTo cpos (starEach [e] X.env)=[(false,eval e X.env)]
def IsD(H:Hp)(a:R_):Prop:=(∃kvs,Rd H a (.dK kvs))\/∃kvs,Rd H a (.dT kvs)
theorem isD_at{X:Cx}{g:A_}{σ:St}{H:Hp}{s:P_}{a:R_}(I:Inv X g σ H s)(d:IsD H a) :
  s.TypeIs (.ref a) "dict" /\ (∀b,Value.ref a=.ref b->∃c,s.heap.get? b=some c/\c.dict=none)/\(a==sysModules)=false:=by
 rcases d with ⟨kvs,e⟩|⟨kvs,e⟩
 .obtain⟨_,j,vs,_,f⟩:=Rm I.hok e;refine⟨f.typeIs,λb q=>?_,j⟩;cases q;obtain⟨c,_,_,h,i,_⟩:=f;exact⟨c,h,i.2.1⟩
 .obtain⟨_,j,xs,_,f⟩:=Rk I.hok e;refine⟨f.typeIs,λb q=>?_,j⟩;cases q;obtain⟨c,_,_,h,i,_⟩:=f;exact⟨c,h,i.2.1⟩
section
variable{X:Cx}{pins:A_}{σ:St}{H:Hp}{s:P_}{a:R_}{y d:V}{u r:S_}{o:Option V}{A:Around}{E:B_}
theorem d_get1{Q:B_}(t:A.units+1<cLine)(I:Inv X pins σ H s)(g:Jm H a y o)(m:Bd y u)(h:∀p n,Inv X pins σ H n->Bd (o.getD .non) p->Q p n) :
  wpAny (model X.prog X.w) A (call (.builtin "dict.get") [.ref a,u]) Q E s:=by
 rcases g with ⟨kvs,k,e,i,l⟩|⟨kvs,k,b,e,i,q,l⟩
 .subst i;obtain⟨z,j,vs,c,f⟩:=Rm I.hok e;refine call_meetsIn A2a f.typeIs A5a (A4h _ _) (meets_dict_get (Co X.prog X.w) a (TX m) j) ⟨_,f.mapOf,h _ _ (I.tok _) ?_⟩;rw[l];exact(c.val k).getD Z
 .subst i;cases(show u=Value.ref b from m);obtain⟨z,j,xs,c,f⟩:=Rk I.hok e;refine call_meetsIn A2a f.typeIs A5a (A4h _ _) (meetsH_dict_get (tupleKind (Co X.prog X.w)) a b j) ⟨A4g t,k,xs,PX I.hok q,f,h _ _ (I.tok _) ?_⟩;rw[l];exact(c.val k).getD Z
end
def tDGet1(td ty:TE):TE:=fun σ H Q=>td σ H λx H1=>∃a,x=.ref a/\IsD H1 a/\ty σ H1 λy H2=>∃o,Jm H2 a y o/\Q (o.getD .non) H2
section
variable{X:Cx}{o e f:Expr}{apos cpos:Pos}{td ty tx:TE}
theorem JC(v:X.A.units+1<cLine)(t:PE X o td)(r:PE X e ty)(m:M1 X o "get" apos e cpos):PE X (.Call (.Attribute o "get" apos) [e] [] cpos) (tDGet1 td ty):=by
 intro b s σ H Q I h;refine wpAny_Call_method m.base m.few m.line PySem.F.plainAttrs_dict A2a PySem.F.type_dict_get (thn (t b s σ H _ I h) λu D q=>?_);obtain⟨x,j,i,B,a,p,d,w⟩:=q;subst p;obtain rfl:u=Value.ref a:=B;obtain⟨E,G,_⟩:=isD_at i d;refine⟨E,G,?_⟩;rw[m.trees];refine A5e Z (A6d (A7b (thn (r b D σ j _ i w) λK M ⟨y,k,l,C,L,g,z⟩=>Calls.spliced_nil ?_)));exact d_get1 v l g C λO N n c=>⟨_,k,n,c,z⟩
end
section
variable{κ:Type}[DecidableEq κ]
theorem Zn{kvs:List (κ×V)}{k:κ}(h:Bo kvs k=none):¬k∈kvs.map (·.1):=by
 intro m;obtain⟨p,a,e⟩:=C8.mp m;have q:(kvs.any λb=>decide (b.1=k))=true:=S2.mpr ⟨p,a,Z5 e⟩;rw[FO,h]at q;exact absurd q A6
theorem Ws:∀{l:List κ}{k:κ},l.Nodup->¬k∈l->(l++[k]).Nodup
|[],k,_,_=>by simp
|a::r,k,h,hk=>by
 obtain⟨b,c⟩:=M6.mp h;show(a::(r++[k])).Nodup;refine M6.mpr ⟨λm=>?_,Ws c λm=>hk (C1.mpr (Or.inr m))⟩;rcases D8.mp m with q|q
 .exact b q
 .exact hk (C1.mpr (Or.inl (D1.mp q).symm))
theorem nd_putK{kvs:List (κ×V)}{k:κ}(v:V)(a:(kvs.map (·.1)).Nodup)(h:Bo kvs k=none):((Do kvs k v).map (·.1)).Nodup:=by
 rw[Iz v h,C6];exact Ws a (Zn h)
end
section
variable{X:Cx}
theorem RO{K:O_}{e:Expr}{f:Str}{a:TE}{pos:Pos}(b:X.K=K)(d:PE X e a)(c:attributeBase e f X.env (eval e X.env)=eval e X.env):PE X (.Attribute e f pos) (tFld K a f):=b▸AB d c
theorem NS(ns:I_):∀k,k<=ns.length->preSum (λi=>ns.getD i 0) k=(ns.take k).sum
|0,_=>by simp[preSum]
|k+1,h=>by
 have h':k<ns.length:=h;show preSum _ k+ns.getD k 0=_;rw[NS ns k (S8 h'),J3,C5 h',C7,C5 h',List.sum_append];show _+ns[k]=_+(ns[k]+0)
 rw[O0]
theorem Gw{ns:I_}{a:F_}(f:AR (ns.map V.int) a):∀(i:Nat) v,a.toArray[i]?=some v->∃t,v=.int (ns.getD i 0) t:=λi v e=>by
 have e:a[i]?=some v:=by simpa using e
 cases c:ns[i]? with
 |none =>
  have:a[i]?=none:=f.none_of (by rw[B8,c];rfl);rw[e]at this;cases this
 |some b =>
  obtain⟨u,d,g⟩:=f.get (i:=i) (x:=V.int b) (by rw[B8,c];rfl);rw[e]at d;cases d;rw[C7,c];obtain⟨t,rfl⟩:=g;exact⟨t,Z⟩
theorem call_sum(x:X.calm=true):GB X (.builtin "sum") (λxs H Q=>∃(p:R_)(ns:I_),xs=[.ref p]/\SqL X.K H p (ns.map V.int)/\Q (.int ns.sum) H):=by
 intro g s σ H xs us Q I r h;obtain⟨p,ns,rfl,y,q⟩:=h;cases r with
 |cons B C =>
  cases C;cases(show _=Value.ref p from B);obtain⟨f,u,pl,D⟩:=I.list y;have d:p<s.heap.objs.size:=by obtain⟨o,n,e,_⟩:=pl;exact D3 e
  have j:p≠s.heap.objs.size:=F2 d;have len:f.toArray.size=ns.length:=by rw[D4,<-u.length,B6]
  refine call_sum_walkAnyS (A2h pl.isList ?_);refine⟨s.heap.objs.size,_,_,_,_,_,_,λi=>ns.getD i 0,Z,(Walks.list (A:=X.A.in1) (I.ok.hd x) s.heap.objs.size p j f.toArray).toS,⟨⟨_,D0 _ Z,Z,Z⟩,?_⟩,?_,Gw u,?_⟩
  .exact pl.isList.at λo e=>B9 _ e
  .intro b c;show b<(s.heap.push _).objs.size;rw[O6];rcases C1.mp c with rfl|c
   .exact T0 _
   .rcases C1.mp c with rfl|c
    .exact U2 d
    .cases c
  .intro a t' t;have v:Inv X g σ H {s with heap:=a.heap,toks:=a.toks}:=I.kept λb o e=>t.heap b o (by intro z;exact F2 (D3 e) (by simpa using z)) (B9 _ e);have w:a={s with heap:=a.heap,toks:=a.toks}:=by
    obtain⟨E,k,l,m,F⟩:=t;cases a;simp only at k l m;subst k;subst l;subst m;rfl
   rw[w,len,NS ns _ (C0 _),L6];exact⟨.int ns.sum,H,v,⟨t',Z⟩,q⟩
theorem Rq(D:X.calm=true):GB X (.builtin "min") (λxs H Q=>∃(p:R_)(ns:I_),xs=[.ref p]/\SqL X.K H p (ns.map V.int)/\ns≠[]/\∀m∈ns,(∀x∈ns,m<=x)->Q (.int m) H):=by
 intro g s σ H xs us Q I r h;obtain⟨p,ns,rfl,F,L,q⟩:=h;cases r with
 |cons M N =>
  cases N;cases(show _=Value.ref p from M);obtain⟨a,l,pl,O⟩:=I.list F;have d:p<s.heap.objs.size:=by obtain⟨o,n,e,_⟩:=pl;exact D3 e
  have k:p≠s.heap.objs.size:=F2 d;have len:a.toArray.size=ns.length:=by rw[D4,<-l.length,B6]
  have pos:0<ns.length:=T5.mpr L;refine call_min_walk (A2h pl.isList ?_);refine⟨s.heap.objs.size,_,_,_,_,_,_,Z,(Walks.list (A:=X.A.in1) (I.ok.hd D) s.heap.objs.size p k a.toArray),⟨⟨_,D0 _ Z,Z,Z⟩,?_⟩,?_,by rw[len];exact pos,CmpOf.ints_lt (λi=>ns.getD i 0) (Gw l),?_⟩
  .exact pl.isList.at λo e=>B9 _ e
  .intro b c;show b<(s.heap.push _).objs.size;rw[O6];rcases C1.mp c with rfl|c
   .exact T0 _
   .rcases C1.mp c with rfl|c
    .exact U2 d
    .cases c
  .intro v h' tk w kk;have y:Inv X g σ H {s with heap:=h',toks:=tk}:=I.kept λb o e=>kk b o (by intro z;exact F2 (D3 e) (by simpa using z)) (B9 _ e);obtain⟨t,rfl⟩:=Gw l _ _ w;obtain⟨u,b2⟩:=argBest_lt (λi=>ns.getD i 0) (a.toArray.size-1);generalize argBest (λi j=>decide (ns.getD i 0<ns.getD j 0)) (a.toArray.size-1)=z at u b2 w⊢;rw[len]at u b2;have f:z<ns.length:=by lia
   have C:ns.getD z 0=ns[z]:=by rw[C7,C5 f];rfl
   refine⟨.int _,H,y,⟨t,Z⟩,q _ (by rw[C];exact R0 f) λx G=>?_⟩;obtain⟨j,E,e⟩:=W5.mp G;have:=b2 j A0;have B:ns.getD j 0=x:=by rw[C7,C5 E,<-e];rfl
   rw[<-B];exact this
theorem Rr(D:X.calm=true):GB X (.builtin "max") (λxs H Q=>∃(p:R_)(ns:I_),xs=[.ref p]/\SqL X.K H p (ns.map V.int)/\ns≠[]/\∀m∈ns,(∀x∈ns,x<=m)->Q (.int m) H):=by
 intro g s σ H xs us Q I r h;obtain⟨p,ns,rfl,F,L,q⟩:=h;cases r with
 |cons M N =>
  cases N;cases(show _=Value.ref p from M);obtain⟨a,l,pl,O⟩:=I.list F;have d:p<s.heap.objs.size:=by obtain⟨o,n,e,_⟩:=pl;exact D3 e
  have k:p≠s.heap.objs.size:=F2 d;have len:a.toArray.size=ns.length:=by rw[D4,<-l.length,B6]
  have pos:0<ns.length:=T5.mpr L;refine call_max_walk (A2h pl.isList ?_);refine⟨s.heap.objs.size,_,_,_,_,_,_,Z,(Walks.list (A:=X.A.in1) (I.ok.hd D) s.heap.objs.size p k a.toArray),⟨⟨_,D0 _ Z,Z,Z⟩,?_⟩,?_,by rw[len];exact pos,CmpOf.ints_gt (λi=>ns.getD i 0) (Gw l),?_⟩
  .exact pl.isList.at λo e=>B9 _ e
  .intro b c;show b<(s.heap.push _).objs.size;rw[O6];rcases C1.mp c with rfl|c
   .exact T0 _
   .rcases C1.mp c with rfl|c
    .exact U2 d
    .cases c
  .intro v h' tk w kk;have y:Inv X g σ H {s with heap:=h',toks:=tk}:=I.kept λb o e=>kk b o (by intro z;exact F2 (D3 e) (by simpa using z)) (B9 _ e);obtain⟨t,rfl⟩:=Gw l _ _ w;obtain⟨u,b2⟩:=argBest_gt (λi=>ns.getD i 0) (a.toArray.size-1);generalize argBest (λi j=>decide (ns.getD i 0 > ns.getD j 0)) (a.toArray.size-1)=z at u b2 w⊢;rw[len]at u b2;have f:z<ns.length:=by lia
   have C:ns.getD z 0=ns[z]:=by rw[C7,C5 f];rfl
   refine⟨.int _,H,y,⟨t,Z⟩,q _ (by rw[C];exact R0 f) λx G=>?_⟩;obtain⟨j,E,e⟩:=W5.mp G;have:=b2 j A0;have B:ns.getD j 0=x:=by rw[C7,C5 E,<-e];rfl
   rw[<-B];exact this
end
theorem Uu(ns a:I_):((List.range (min ns.length a.length)).all (λj=>ns.getD j 0==a.getD j 0) && ns.length==a.length)=decide (ns=a):=by
 rw[R6,P8,T3,A6b,decide_eq_true_iff];constructor
 .rintro⟨b,c⟩;refine List.ext_getElem c λi d e=>?_;have:=b i (F1.mpr A0);rw[A6b,C7,C7,C5 d,C5 e]at this;exact this
 .rintro rfl;exact⟨λx _=>beq_iff_eq.mpr Z,Z⟩
section
variable{X:Cx}
theorem QT{H:Hp}{ns:I_}{a:F_}(i:AR (ns.map V.int) a){A:Around}{s:P_}{d:I_}{b:F_}(c:AR (d.map V.int) b)(j:Nat)(g:j<a.toArray.size)(h:j<b.toArray.size):PySem.SeqAt.EqAt A s a.toArray[j] b.toArray[j] (ns.getD j 0==d.getD j 0):=by
 obtain⟨t,e⟩:=Gw i j _ (S3 g);obtain⟨u,f⟩:=Gw c j _ (S3 h);rw[e,f];exact PySem.SeqAt.EqAt.int_int _ t _ u
theorem Ys(r:X.A.units+64<cLine):OpR X (compareOp .Eq) (λx y H Q=>∃(a b:R_)(ns c:I_),x=.ref a/\y=.ref b/\SqT X.K H a (ns.map V.int)/\SqT X.K H b (c.map V.int)/\Q (.bl (decide (ns=c))) H):=by
 intro d s σ H x y v u Q I o p h;obtain⟨a,b,ns,c,rfl,rfl,g,i,q⟩:=h;cases o;cases p;obtain⟨xs,e,m,_⟩:=I.tuple g;obtain⟨ys,f,n,_⟩:=I.tuple i;refine PySem.SeqAt.eq_tupleAt m n A0 (λj k l=>QT (H:=H) e f j k l) ?_;rw[D4,D4,<-e.length,<-f.length,B6,B6,Uu];exact⟨.bl _,H,I,Z,q⟩
theorem Yp(r:X.A.units+64<cLine):OpR X (compareOp .NotEq) (λx y H Q=>∃(a b:R_)(ns c:I_),x=.ref a/\y=.ref b/\SqT X.K H a (ns.map V.int)/\SqT X.K H b (c.map V.int)/\Q (.bl (!decide (ns=c))) H):=by
 intro d s σ H x y v u Q I o p h;obtain⟨a,b,ns,c,rfl,rfl,g,i,q⟩:=h;cases o;cases p;obtain⟨xs,e,m,_⟩:=I.tuple g;obtain⟨ys,f,n,_⟩:=I.tuple i;refine PySem.SeqAt.RcNeAt.tuples m n A0 (λj k l=>QT (H:=H) e f j k l) _ _ _ _ ?_;rw[D4,D4,<-e.length,<-f.length,B6,B6,Uu];exact⟨.bl _,H,I,Z,q⟩
end
section
variable{prog:N_}{w:Q_}{A:Around}{E:B_}{s:P_}{d it:R_}{o:Obj}{es:Array DictEntry}{ep i:Nat}
theorem To{Q:B_}(f:(d==sysModules)=false)(b:s.heap.get? d=some o)(e:o.ExactDict)(c:o.data=.dict es ep)
  (q:Q (.ref s.heap.objs.size) {s with heap:=s.heap.push {cls:=.type "dict_keyiterator",data:=.fields #[.ref d,.int 0 0,.int es.size 0,.int ep 0]} }):wpAny (model prog w) A (pyIter (.ref d)) Q E s:=by
 have a:s.TypeIs (.ref d) "dict" := ⟨o,b,e.1⟩
 refine wpAny_pyIter_slot a F.slot_dict_iter (A0e F.slot_dict_iter a F.entry_dict_iter ?_ (F.args_dict_iter_1 _));unfold Builtin.«dict.__iter__»;refine Z3 ?_;unfold Builtin.Dict.dictSlotNone;refine Z3 (wpAny_notOrdered_dict a ?_);show wpAny _ _ (pure (Value.ref d)) _ _ s;refine Z6 ?_;show wpAny _ _ (Builtin.Dict.showsAll d >>= _) _ _ s;unfold Builtin.Dict.showsAll;rw[Z4 (by rw[f];exact D2)];refine Z3 (Z6 ?_);refine Z3 (wpAny_dictEntries b c ?_);refine Z3 (wpAny_dictEpoch b c ?_);refine Z3 (A3a (Z6 ⟨_,Z,"dict_keyiterator",_,⟨_,D0 _ Z,Z⟩,F.slot_dict_keyiterator_next.lookup,?_⟩));simpa[rawInt] using q
theorem ZV{Q:Option Value->Shared->Prop}(a:s.heap.IsKeyIter it d i es.size ep)(g:s.heap.get? d=some o)(f:o.data=.dict es ep)(h:i<es.size)
  (q:∀h',h'.IsKeyIter it d (i+1) es.size ep->Heap.SameBut it s.heap h'->Q (some es[i].key) {s with heap:=h'}):wpAny (model prog w) A (pyNext (.ref it)) Q E s:=by
 obtain⟨k,c,j,b⟩:=id a;unfold pyNext;refine Z3 (A3c (wpAny_callSpecial?_slot (name:=Str.ofString "__next__") a.typeIs A2g (A0e A2g a.typeIs F.entry_dict_keyiterator_next ?_ (F.args_dict_keyiterator_next_1 _))));refine Z3 (Z6 ?_);refine Z3 ?_;refine Z3 ?_
 (first|refine Z3 (A2c a.typeIs (Z6 ?_))|refine Z3 (A3e a.typeIs (Z6 ?_)));refine Z3 (wpAny_fieldsOf c b ?_)
 have e:Builtin.Dict_items.ownsTuple "dict_keyiterator" = false:=A4;simp only[e,J9,A0c];show wpAny _ _ (if(Value.ref d==Value.none)=true then _ else _) _ _ s;rw[Z4 (show ¬((Value.ref d==Value.none)=true)from D2)];refine Z3 (Z6 ?_);refine Z3 (wpAny_dictEntries g f ?_);rw[Z4 A6];refine Z3 (Z6 ?_);refine Z3 (wpAny_dictEpoch g f ?_);rw[Z4 A6];refine Z6 ?_;simp only[show ¬((i:Int)<0)from by lia,A0c,F4,S3 h];refine Z3 ?_
 (first|refine Z3 (A2c a.typeIs (Z6 ?_))|refine Z3 (A3e a.typeIs (Z6 ?_)));refine Z3 (wpAny_isOneOf_keyiter a.typeIs ?_)
 show wpAny _ _ (setField (.ref it) 1 (rawInt ((i:Int)+1)) >>= _) _ _ s;refine Z3 (A6e c b A6 ?_);have next:(s.heap.update it (Obj.mapFields (·.setIfInBounds 1 (rawInt ((i:Int)+1))))).IsKeyIter it d (i+1) es.size ep:=⟨_,W2 _ c (Obj.isFreed_of_fields (A4f b _)),(Obj.cls_mapFields ..).trans j,by rw[A4f b];simp[rawInt]⟩
 refine Z3 (A1g ?_);refine Z3 (wpAny_isOneOf_keyiter (s:={s with heap:=s.heap.update it (Obj.mapFields (·.setIfInBounds 1 (rawInt ((i:Int)+1))))}) next.typeIs ?_);show wpAny _ _ (pure es[i].key) _ _ _;exact Z6 (Z6 ⟨_,Z,Z6 (q _ next (A4d ..))⟩)
theorem raw_end{Q:Option Value->Shared->Prop}(k:A.handled=none)(c:s.heap.IsKeyIter it d i es.size ep)(j:s.heap.get? d=some o)(h:o.data=.dict es ep)(l:es.size<=i)
  (q:∀h',Heap.ExtBut it s.heap h'->Q none {s with heap:=h'}):wpAny (model prog w) A (pyNext (.ref it)) Q E s:=by
 obtain⟨p,e,n,g⟩:=id c;unfold pyNext;refine Z3 (A3c (wpAny_callSpecial?_slot (name:=Str.ofString "__next__") c.typeIs A2g (A0e A2g c.typeIs F.entry_dict_keyiterator_next ?_ (F.args_dict_keyiterator_next_1 _))));refine Z3 (Z6 ?_);refine Z3 ?_;refine Z3 ?_
 (first|refine Z3 (A2c c.typeIs (Z6 ?_))|refine Z3 (A3e c.typeIs (Z6 ?_)));refine Z3 (wpAny_fieldsOf e g ?_)
 have f:Builtin.Dict_items.ownsTuple "dict_keyiterator" = false:=A4;simp only[f,J9,A0c];show wpAny _ _ (if(Value.ref d==Value.none)=true then _ else _) _ _ s;rw[Z4 (show ¬((Value.ref d==Value.none)=true)from D2)];refine Z3 (Z6 ?_);refine Z3 (wpAny_dictEntries j h ?_);rw[Z4 A6];refine Z3 (Z6 ?_);refine Z3 (wpAny_dictEpoch j h ?_);rw[Z4 A6];refine Z6 ?_;simp only[show ¬((i:Int)<0)from by lia,A0c,F4,Array.getElem?_eq_none l];refine Z3 ?_
 (first|refine Z3 (A2c c.typeIs (Z6 ?_))|refine Z3 (A3e c.typeIs (Z6 ?_)))
 show wpAny _ _ (setField (.ref it) 0 .none >>= _) _ _ s;refine Z3 (A6e e g A6 ?_);show wpAny _ _ (newExc (.type "StopIteration") [] >>= _) _ _ _;refine Z3 ?_;simp only[newExc,newTuple];refine Z3 (A3a ?_ (by size_fits));refine Z3 (m:=firstArgMember _ _) (wpAny_of_eq (a:=Value.none) (by first|rfl|(simp only[firstArgMember];rfl)) ?_);refine A3a ?_ (by size_fits);simp only[raiseNew];refine Z3 (wpAny_handled ?_);rw[show A.in1.handled=none from k];refine Z3 (Z6 (wpAny_throw ?_));refine Z3 (A4b (T:="StopIteration") (b:=true) ⟨_,D0 _ Z,Z⟩ isSubtype_stop ?_);exact Z6 (q _ (((A4d ..).extBut.push _).push _))
end
noncomputable def Itd(a:R_)(o:Obj)(kvs:List (List Key×V)):It :=
 ⟨λi H=>H a=some (.frz o (.dT kvs))/\i<kvs.length,λi H x H'=>H'=H/\∃b k v,x=.ref b/\kvs[i]?=some (k,v)/\H b=some (.tup (k.map kV)),λi H=>H a=some (.frz o (.dT kvs))/\kvs.length<=i⟩
theorem frz_dT{P:N_}{w:Q_}{H:Hp}{h:T_}{a:R_}{o:Obj}{kvs:List (List Key×V)}(ok:HOk P w H h)(e:H a=some (.frz o (.dT kvs))) :
  h.get? a=some o/\∃(xs:List (List Key×Addr×Value))(b:Array DictEntry)(c:Nat),KT H kvs xs/\o.data=.dict b c/\b.toList=xs.map (entryOfKey (tupleKind (Co P w))):=by
 obtain⟨d,z,y,xs,r,o',b,c,f,j,g,i,k⟩:=(show BE P w H h a (.frz o (.dT kvs))from ok a _ e)
 rw[d]at f;cases f;exact⟨d,xs,b,c,r,g,i⟩
theorem KT.at_{H:Hp}:∀{kvs:List (List Key×V)}{xs:List (List Key×Addr×Value)}{i:Nat}{x:List Key×Addr×Value},KT H kvs xs->xs[i]?=some x->∃v,kvs[i]?=some (x.1,v)/\H x.2.1=some (.tup (x.1.map kV)):=by
 intro kvs xs i x r;induction r generalizing i with
 |nil=>intro e;simp at e
 |@cons p q g j h t f =>
  intro e;cases i with
  |zero =>
   have e:q=x:=by simpa using e
   subst e;obtain⟨a,d,_⟩:=h;exact⟨p.2,by rw[List.getElem?_cons_zero,<-a],by rw[<-a];exact d⟩
  |succ i =>
   obtain⟨v,b,c⟩:=f (i:=i) (by simpa using e);exact⟨v,by simpa using b,c⟩
theorem OO{P:N_}{w:Q_}{K:O_}{tg:Expr}(a it:R_)(o:Obj)(kvs:List (List Key×V))(n:Array DictEntry)(N:Nat)(t:o.data=.dict n N)(hz:n.size=kvs.length):QN P w K tg (Itd a o kvs) [it] it (λi h=>h.IsKeyIter it a i n.size N) where
 mem:=by simp
 obj:=λi h f b j=>by
  obtain rfl:b=it:=by simpa using j
  obtain⟨o,e,c,d⟩:=f;exact⟨o,e,λv z=>(by rw[d]at z;cases z)⟩
 keep:=λi h h' f k=>f.at λo e=>k it A6 o e
 item:=by
  intro X D L C O i g s σ H E I r f F;subst D L C;obtain⟨G,hi⟩:=F;obtain⟨B,xs,ab,aa,kt,m,M⟩:=frz_dT I.hok G;rw[t]at m;cases m;have l:i<n.size:=by lia
  obtain⟨u,x,f2,y,f4,A⟩:=r it A6;refine ZV f B t l λh' p sb=>?_;have R:Inv X g σ H {s with heap:=h'}:=I.turned (t':=s.toks) (λb o j e=>(sb.2 b j).trans e) u x y f4 A
  have Q:i<xs.length:=by rw[<-size_of_entries M];exact l
  obtain⟨v,S,T⟩:=KT.at_ kt (C5 Q);have Y:n[i].key=.ref xs[i].2.1:=by
   have:=entry_at M i;rw[S3 l,C5 Q]at this;rw[X4 this];rfl
  obtain⟨q,e,c,d⟩:=id p;exact⟨_,Z,TY (s:={s with heap:=h'}) e c d A4 ⟨.ref xs[i].2.1,H,R,Y,⟨Z,_,_,v,Z,S,T⟩,p,λb j=>(r b j).1⟩⟩
 done:=by
  intro X D L C O i g s σ H E I r f F;subst D L C;obtain⟨G,hi⟩:=F;obtain⟨B,_⟩:=frz_dT I.hok G;obtain⟨u,x,f2,y,f4,A⟩:=r it A6;exact raw_end (I.ok.hd O) f B t A0 λh' U=>⟨Z,I.turned (t':=s.toks) (λb o j e=>U b o j e) u x y f4 A⟩
 self:=λ_ _ _ _ _ f h=>wpAny_pyIter_keyiter f h
theorem for_dT{a:R_}{o:Obj}{kvs:List (List Key×V)}{g:TG}{q:TS}{D:MT}{σ:St}{H:Hp}(c:Nat->St->Hp->Prop)(t:c 0 σ H)(y:∀i σ H,i<=kvs.length->c i σ H->H a=some (.frz o (.dT kvs)))
  (A:∀i b k v σ H,kvs[i]?=some (k,v)->H b=some (.tup (k.map kV))->c i σ H->g (.ref b) σ H fun f h=>q {D with nx:=c (i+1),ct:=c (i+1),bk:=D.nx} f h) (u:∀σ H,c kvs.length σ H->D.nx σ H) :
  ∃W:Nat->Nat->St->Hp->Prop,(∃m,W 0 m σ H)/\∀i m σ H,W i m σ H ->
   ((Itd a o kvs).stop i H/\D.nx σ H)\/((Itd a o kvs).go i H/\∃N:St->Hp->Prop,(∀σ' d,N σ' d->∃n,n<m/\W (i+1) n σ' d)/\∀x d,(Itd a o kvs).yld i H x d->g x σ d fun f h=>q {D with nx:=N,ct:=N,bk:=D.nx} f h):=by
 refine⟨λi m σ H=>m=kvs.length-i/\i<=kvs.length/\c i σ H,⟨kvs.length,by simp,J0 _,t⟩,?_⟩;rintro i m σ H ⟨rfl,w,p⟩;have e:=y i σ H w p;by_cases l:i<kvs.length
 .refine .inr ⟨⟨e,l⟩,c (i+1),fun σ' d z=>⟨_,by lia,Z,by lia,z⟩,?_⟩;rintro x d ⟨rfl,b,k,v,rfl,r,s⟩;exact A i b k v σ _ r s p
 .have j:i=kvs.length:=by lia
  subst j;exact .inl ⟨⟨e,C0 _⟩,u σ H p⟩
section
variable{X:Cx}
def CDivB(i j:Int):Prop:=0<j/\j<2^64
theorem Tv:OpR X (binaryOp .FloorDiv) (rI CDivB λi j=>.int (i/j)):=opI λi j _ _ _ _ _ a q=>by
 have c:(0:Int)<j:=a.1;have d:j<2^64:=a.2;refine floordiv_int A0 (by rw[Int.fdiv_eq_ediv_of_nonneg i A0];exact q) (.inl (PyProof.noPylong_of_log2 ?_));have b:j.natAbs<2^64:=by lia
 exact F3 ((Nat.log2_lt A0).mpr b) A4
end
end L2
namespace L2
open PySem PySem.W PyProof.Rows
section
variable{rk:Nat->Int}{n:Nat}
def rkC(rk:Nat->Int)(n i j:Nat)(C:Bool->Shared->Prop)(s:P_):Prop:=i<n/\j<n/\C (decide (rk i<rk j)) s
structure Ch(n:Nat)(p:Array Nat):Prop where
sz:p.size=n
pm:p.Perm (List.range n).toArray
noncomputable def kk(rk:Nat->Int)(p:Array Nat)(i:Nat):Int:=rk (p.getD i 0)
theorem Ch.lt{p:Array Nat}(h:Ch n p){i:Nat}(b:i<n):p.getD i 0<n:=by
 have a:i<p.size:=by rw[h.sz];exact b
 have e:p.getD i 0=p[i]:=by simp[Array.getD,a]
 have m:p[i]∈p:=Array.getElem_mem a;have:=(Array.Perm.mem_iff h.pm).mp m;rw[e]
 simpa using this
theorem Ch.rev{p:Array Nat}(h:Ch n p)(i j:Nat):Ch n (kas_rev p i j):=⟨(mirror_size _ _ _ _).trans h.sz,(mirror_perm _ _ _ _).trans h.pm⟩
theorem Ch.bub{p:Array Nat}(h:Ch n p)(i j:Nat):Ch n (bubble p i j):=⟨(bubble_size _ _ _).trans h.sz,(bubble_perm _ _ _).trans h.pm⟩
theorem gd(p:Array Nat)(i:Nat):p.getD i 0=p[i]?.getD 0:=by
 simp
theorem Sm{p:Array Nat}(h:Ch n p){i j:Nat}(a:j<=n)(k:Nat):kk rk (kas_rev p i j) k=if i<=k/\k<j then kk rk p (i+j-1-k)else kk rk p k:=by
 have e:=getElem?_mirror_all (xs:=p) (i:=i) (by rw[h.sz];exact a) k;unfold kk kas_rev;rw[gd,e];split<;>rw[gd]
theorem kk_bub{p:Array Nat}(h:Ch n p){a d:Nat}(c:a<n)(b:d<=a)(k:Nat):kk rk (bubble p a d) k=if k=a-d then kk rk p a else if a-d<k/\k<=a then kk rk p (k-1)else kk rk p k:=by
 have e:=getElem?_bubble (xs:=p) (by rw[h.sz];exact c) d b k;unfold kk;rw[gd,e];split
 .rw[gd]
 .split<;>rw[gd]
def Up(rk:Nat->Int)(p:Array Nat)(m:Nat):Prop:=∀i j,i<=j->j<m->kk rk p i<=kk rk p j
def Dn(rk:Nat->Int)(p:Array Nat)(m:Nat):Prop:=∀i j,i<=j->j<m->kk rk p j<=kk rk p i
theorem Up.step{p:Array Nat}{m:Nat}(h:Up rk p m)(c:1<=m)(q:kk rk p (m-1)<=kk rk p m):Up rk p (m+1):=λi j b a=>by
 rcases Q6.mp a with z|z
 .exact h i j b z
 .subst z;rcases Nat.lt_or_ge i j with y|y
  .exact Int.le_trans (h i (j-1) A0 A0) q
  .have:i=j:=by lia
   subst this;exact Q5 _
theorem Dn.step{p:Array Nat}{m:Nat}(h:Dn rk p m)(c:1<=m)(q:kk rk p m<=kk rk p (m-1)):Dn rk p (m+1):=λi j b a=>by
 rcases Q6.mp a with z|z
 .exact h i j b z
 .subst z;rcases Nat.lt_or_ge i j with y|y
  .exact Int.le_trans q (h i (j-1) A0 A0)
  .have:i=j:=by lia
   subst this;exact Q5 _
theorem Vx{p:Array Nat}(a:Ch n p):∀{f m:Nat}{s:P_}{Q:Nat->Shared->Prop},1<=m->m+f<=n->Up rk p m->(∀r,m<=r->r<=m+f->Up rk p r->(r<m+f->kk rk p r<kk rk p (r-1))->Q r s)->(kas_asc p f m).kasWp (rkC rk n) Q s
|0,m,s,Q,h1,hf,up,k=>k m (C0 _) (C0 _) up λz=>absurd z (O3 _)
|f+1,m,s,Q,h1,hf,up,k=>by
 refine⟨a.lt A0,a.lt A0,?_⟩;by_cases c:kk rk p m<kk rk p (m-1)
 .rw[Z5 (show rk (p.getD m 0)<rk (p.getD (m-1) 0)from c)];dsimp only;rw[Z7 rfl];exact k m (C0 _) A0 up λ_=>c
 .rw[Z8 (show ¬rk (p.getD m 0)<rk (p.getD (m-1) 0)from c)];dsimp only;rw[Z4 A6];exact Vx a A0 A0 (up.step h1 A0) λr e g b d=>k r A0 A0 b λz=>d A0
theorem Pj{p:Array Nat}(b:Ch n p){m q:Nat}(a:m<=n)(c:q+1<=m)(eq:∀i,m-(q+1)<=i->i<m->kk rk p i=kk rk p (m-1))(k:Nat):kk rk (kas_rev p (m-(q+1)) m) k=kk rk p k:=by
 rw[Sm b a];split
 .rename_i z;rw[eq _ A0 A0,eq k z.1 z.2]
 .rfl
theorem OI:∀{f m q:Nat}{p:Array Nat}{s:P_}{Q:Array Nat×Nat×Nat->Shared->Prop},Ch n p->q+1<=m->m+f<=n->Dn rk p m->(∀i,m-(q+1)<=i->i<m->kk rk p i=kk rk p (m-1)) ->
 (∀a b h,Ch n a->h+1<=b->b<=n->Dn rk a b->(∀i,b-(h+1)<=i->i<b->kk rk a i=kk rk a (b-1))->Q (a,b,h) s)->(kas_desc f p m q).kasWp (rkC rk n) Q s
|0,m,q,p,s,Q,pn,hq,hf,dn,eq,k=>k p m q pn hq hf dn eq
|f+1,m,q,p,s,Q,pn,hq,hf,dn,eq,k=>by
 refine⟨pn.lt A0,pn.lt A0,?_⟩;have one:∀{a:Array Nat},∀i,m+1-(0+1)<=i->i<m+1->kk rk a i=kk rk a (m+1-1):=λi l o=>by
  have:i=m+1-1:=by lia
  rw[this]
 by_cases c:kk rk p m<kk rk p (m-1)
 .rw[Z5 (show rk (p.getD m 0)<rk (p.getD (m-1) 0)from c)];dsimp only;rw[Z7 rfl];by_cases g:q > 0
  .rw[Z7 g];have same:=Pj pn A0 hq eq;refine OI (pn.rev _ _) A0 A0 ?_ one k;refine Dn.step (λi j t r=>?_) A0 ?_
   .rw[same i,same j];exact dn i j t r
   .rw[same m,same (m-1)];lia
  .rw[Z4 g];exact OI pn A0 A0 (dn.step A0 A0) one k
 .rw[Z8 (show ¬rk (p.getD m 0)<rk (p.getD (m-1) 0)from c)];dsimp only;rw[Z4 A6];refine⟨pn.lt A0,pn.lt A0,?_⟩;by_cases d:kk rk p (m-1)<kk rk p m
  .rw[Z5 (show rk (p.getD (m-1) 0)<rk (p.getD m 0)from d)];dsimp only;rw[Z7 rfl];exact k p m q pn hq A0 dn eq
  .rw[Z8 (show ¬rk (p.getD (m-1) 0)<rk (p.getD m 0)from d)];dsimp only;rw[Z4 A6];have e:kk rk p m=kk rk p (m-1):=by lia
   refine OI pn A0 A0 (dn.step A0 A0) (λi l o=>?_) k;rw[Nat.add_sub_cancel];by_cases z:i=m
   .rw[z]
   .rw[eq i A0 A0,e]
theorem VG{m:Nat}{p:Array Nat}{s:P_}{Q:Nat×Array Nat->Shared->Prop}(a:Ch n p)(e:1<=m)(c:m<=n)(d:Dn rk p m)(k:∀r b,Ch n b->r<=n->1<=r->Up rk b r->Q (r,b) s):(kas_tail3 m n p).kasWp (rkC rk n) Q s:=by
 unfold kas_tail3;rw[KasT.kasWp_bind];refine Vx (a.rev _ _) e A0 (λi j o l=>?_) λr g h f _=>k r _ (a.rev _ _) A0 A0 f;rw[Sm a c,Sm a c,Z7 ⟨by lia,by lia⟩,Z7 ⟨by lia,by lia⟩];exact d _ _ A0 A0
theorem Wm{m:Nat}{p:Array Nat}{s:P_}{Q:Nat×Array Nat->Shared->Prop}(l:Ch n p)(t:m+1<=n)(f:Dn rk p (m+1))(k:∀r d,Ch n d->r<=n->1<=r->Up rk d r->Q (r,d) s):(kas_descPart m n p).kasWp (rkC rk n) Q s:=by
 unfold kas_descPart;rw[KasT.kasWp_bind];refine OI l A0 A0 f (λi o q=>?_) λd u v b e a c eq=>?_
 .have:i=m+1-1:=by lia
  rw[this]
 .dsimp only;split
  .refine VG (b.rev _ _) A0 a (λi j h g=>?_) k;rw[Pj b a e eq,Pj b a e eq];exact c i j h g
  .exact VG b A0 a c k
theorem count_wp{p:Array Nat}{s:P_}{Q:Nat×Array Nat->Shared->Prop}(d:Ch n p)(x:1<=n)(k:∀r m,Ch n m->r<=n->1<=r->Up rk m r->Q (r,m) s):(kas_count n p).kasWp (rkC rk n) Q s:=by
 unfold kas_count;rw[KasT.kasWp_bind];have o:Up rk p 1:=λi j t l=>by
  have f:i=0:=by lia
  have g:j=0:=by lia
  rw[f,g];exact Q5 _
 refine Vx d (C0 _) A0 o λr f g h w=>?_;by_cases e:r=n
 .rw[Z7 (by simpa using e)];exact k r p d A0 f h
 .rw[Z4 (by simpa using e)];have v:=w A0;by_cases q:r > 1
  .rw[Z7 q];refine⟨d.lt A0,d.lt A0,?_⟩;by_cases c:kk rk p 0<kk rk p (r-1)
   .rw[Z5 (show rk (p.getD 0 0)<rk (p.getD (r-1) 0)from c)];dsimp only;rw[Z7 rfl];exact k r p d A0 f h
   .rw[Z8 (show ¬rk (p.getD 0 0)<rk (p.getD (r-1) 0)from c)];dsimp only;rw[Z4 A6];have all:∀i,i<r->kk rk p i=kk rk p (r-1):=λi u=>by
     have a:=h 0 i A0 u;have b:=h i (r-1) A0 A0;lia
    have same:∀i,kk rk (kas_rev p 0 r) i=kk rk p i:=λi=>by
     rw[Sm d A0];split
     .rw[all _ A0,all i A0]
     .rfl
    refine Wm (d.rev _ _) A0 (Dn.step (λi j t l=>?_) A0 ?_) k
    .rw[same,same,all i A0,all j l];exact Q5 _
    .rw[same,same];lia
  .rw[Z4 q];have:r=1:=by lia
   subst this;refine Wm d A0 (Dn.step (λi j t l=>?_) A0 A0) k;have f:i=0:=by lia
   have g:j=0:=by lia
   rw[f,g];exact Q5 _
theorem Pn{p:Array Nat}{k:Nat}(g:Ch n p)(h:k<n):∀{f l r:Nat}{s:P_}{Q:Nat->Shared->Prop},l<=r->r<=k->r<=l+f->Up rk p k->(∀i,i<l->kk rk p i<=kk rk p k)->(∀i,r<=i->i<k->kk rk p k<=kk rk p i) ->
 (∀t,t<=k->(∀i,i<t->kk rk p i<=kk rk p k)->(∀i,t<=i->i<k->kk rk p k<=kk rk p i)->Q t s)->(kas_place p k f l r).kasWp (rkC rk n) Q s
|0,l,r,s,Q,h1,h2,h3,up,a,b,c=>by
 have:l=r:=by lia
 subst this;exact c l h2 a b
|f+1,l,r,s,Q,h1,h2,h3,up,a,b,c=>by
 unfold kas_place;by_cases e:l ≥ r
 .rw[Z7 e];have:l=r:=by lia
  subst this;exact c l h2 a b
 .rw[Z4 e];refine⟨g.lt h,g.lt A0,?_⟩;by_cases d:kk rk p k<kk rk p ((l+r)/2)
  .rw[Z5 (show rk (p.getD k 0)<rk (p.getD ((l+r)/2) 0)from d)];dsimp only;rw[Z7 rfl];refine Pn g h A0 A0 A0 up a (λi m j=>?_) c;have:=up ((l+r)/2) i m j;lia
  .rw[Z8 (show ¬rk (p.getD k 0)<rk (p.getD ((l+r)/2) 0)from d)];dsimp only;rw[Z4 A6];refine Pn g h A0 A0 A0 up (λi m=>?_) b c;have:=up i ((l+r)/2) A0 A0;lia
theorem bin_wp:∀{f k:Nat}{p:Array Nat}{s:P_}{Q:Array Nat->Shared->Prop},Ch n p->k+f=n->Up rk p k->(∀g,Ch n g->Up rk g n->Q g s)->(kas_bin f p k).kasWp (rkC rk n) Q s
|0,k,p,s,Q,pn,e,up,c=>c p pn (by rw[<-e];exact up)
|f+1,k,p,s,Q,pn,e,up,c=>by
 unfold kas_bin;rw[KasT.kasWp_bind];refine Pn pn A0 (J0 _) (C0 _) A0 up (λi q=>absurd q (L8 _)) (λi u o=>absurd o A0) λt w a b=>?_;refine bin_wp (pn.bub _ _) A0 (λi j r v=>?_) c;rw[kk_bub pn A0 A0,kk_bub pn A0 A0,show k-(k-t)=t by lia];by_cases h:i=t
 .rw[Z7 h];by_cases d:j=t
  .rw[Z7 d];exact Q5 _
  .rw[Z4 d,Z7 ⟨by lia,by lia⟩];exact b _ A0 A0
 .rw[Z4 h];by_cases l:t<i/\i<=k
  .rw[Z7 l,Z4 A0,Z7 ⟨by lia,by lia⟩];exact up _ _ A0 A0
  .rw[Z4 l];by_cases d:j=t
   .rw[Z7 d];exact a i A0
   .rw[Z4 d];by_cases m:t<j/\j<=k
    .rw[Z7 m];exact up _ _ A0 A0
    .rw[Z4 m];exact up _ _ r A0
theorem sort_wp{s:P_}{Q:Array Nat->Shared->Prop}(e:1<=n)(c:∀a,Ch n a->Up rk a n->Q a s):(kas_sort n).kasWp (rkC rk n) Q s:=by
 unfold kas_sort;rw[KasT.kasWp_bind];refine count_wp ⟨by simp,Array.Perm.refl _⟩ e λr a b g f d=>?_;dsimp only;split
 .rw[show max r 1=r by lia];exact bin_wp b A0 d c
 .have:r=n:=by lia
  subst this;exact c a b d
theorem rk_wp{α:Type}{a:Nat->Nat->(Bool->Shared->Prop)->Shared->Prop}{s:P_}(h:∀i j C,i<n->j<n->C (decide (rk i<rk j)) s->a i j C s):∀{t:KasT α}{Q:α->Shared->Prop},t.kasWp (rkC rk n) Q s->t.kasWp a Q s
|.ret _,_,q=>q
|.ask _ _ _,_,⟨h1,h2,h3⟩=>h _ _ _ h1 h2 (rk_wp h h3)
end
end L2
namespace L2
open PySem PySem.W PySem.Spec PyProof.Rows
noncomputable def Cp:List Int->List Int->Bool
|[],[]=>false
|[],_::_=>true
|_::_,[]=>false
|a::as,b::bs=>if a=b then Cp as bs else decide (a<b)
theorem PU:∀a,Cp a a=false
|[]=>rfl
|a::as=>by unfold Cp;rw[Z7 rfl];exact PU as
theorem MH:∀{a b c:I_},Cp a c=true->Cp a b=true\/Cp b c=true
|[],[],_,h=>.inr h
|[],_::_,_,_=>.inl Z
|_::_,_,[],h=>by cases h
|a::as,[],c::cs,_=>.inr Z
|a::as,b::bs,c::cs,h=>by
 unfold Cp at h⊢;by_cases e:a=c
 .subst e;rw[Z7 rfl]at h;by_cases d:a=b
  .subst d;rw[Z7 rfl,Z7 rfl];exact MH h
  .rw[Z4 d,Z4 (λz=>d z.symm)];rcases Int.lt_or_gt_of_ne d with z|z
   .exact .inl (Z5 z)
   .exact .inr (Z5 z)
 .rw[Z4 e]at h;have h:=X7 h;by_cases d:a=b
  .subst d;rw[Z4 e];exact .inr (Z5 h)
  .rw[Z4 d];by_cases z:a<b
   .exact .inl (Z5 z)
   .by_cases f:b=c
    .lia
    .rw[Z4 f];exact .inr (Z5 A0)
theorem TV:∀{a b:I_},Cp a b=false->Cp b a=false->a=b
|[],[],_,_=>rfl
|[],_::_,h,_=>by cases h
|_::_,[],_,h=>by cases h
|a::as,b::bs,h,h'=>by
 unfold Cp at h h';by_cases c:a=b
 .subst c;rw[Z7 rfl]at h h';rw[TV h h']
 .rw[Z4 c]at h;rw[Z4 (λz=>c z.symm)]at h';have:=of_decide_eq_false h;have:=of_decide_eq_false h';lia
theorem lexI_asy{a b:I_}(h:Cp a b=true):Cp b a=false:=by
 cases e:Cp b a with
 |false=>rfl
 |true =>
  rcases MH (b:=b) (show Cp a b=true from h)with z|z
  ·
   have:Cp a a=true\/Cp a a=false:=by cases Cp a a<;>simp
   exact absurd (lexI_two h e) A6
  .rw[PU]at z;cases z
where lexI_two:∀{a b:I_},Cp a b=true->Cp b a=true->false=true
|[],[],h,_=>h
|[],_::_,_,h=>h
|_::_,[],h,_=>h
|a::as,b::bs,h,h'=>by
 unfold Cp at h h';by_cases c:a=b
 .subst c;rw[Z7 rfl]at h h';exact lexI_two h h'
 .rw[Z4 c]at h;rw[Z4 (λz=>c z.symm)]at h';have:=X7 h;have:=X7 h';lia
noncomputable def Yk(rows:List (List Int))(i:Nat):Int:=((rows.countP λr=>Cp r (rows.getD i []):Nat):Int)
theorem Rn{α:Type}{p q:α->Bool}:∀{l:List α}{x:α},x∈l->(∀y,p y=true->q y=true)->p x=false->q x=true->l.countP p<l.countP q
|y::l,x,a,h,hp,hq=>by
 rw[V4,V4];have le:l.countP p<=l.countP q:=List.countP_mono_left λz _=>h z;rcases C1.mp a with rfl|a
 .rw[hp,hq];simp only[J9,A0c,A4a];lia
 .have:=Rn a h hp hq;by_cases b:p y=true
  .rw[b,h y b];lia
  .rw[Z4 b];split<;>lia
theorem ZR{rows:List (List Int)}{i j:Nat}(d:i<rows.length):decide (Yk rows i<Yk rows j)=Cp (rows.getD i []) (rows.getD j []):=by
 have e:rows.getD i []∈rows:=by
  rw[C7,C5 d];exact R0 d
 unfold Yk;generalize rows.getD i []=a at *
 generalize rows.getD j []=b;cases h:Cp a b with
 |true =>
  refine Z5 ?_;have:=Rn (p:=λr=>Cp r a) (q:=λr=>Cp r b) e (λy c=>?_) (PU a) h
  .lia
  .rcases MH (b:=b) c with z|z
   .exact z
   .rw[lexI_asy h]at z;cases z
 |false =>
  refine Z8 ?_;have:=List.countP_mono_left (l:=rows) (p:=λr=>Cp r b) (q:=λr=>Cp r a) λy _ c=>?_
  .lia
  .rcases MH (b:=a) c with z|z
   .exact z
   .rw[h]at z;cases z
section
variable{prog:N_}{w:Q_}{A:Around}{E:B_}
theorem Wy{b:Bool}{Q:Bool->Shared->Prop}{s:P_}:∀{xs ys:I_}{us vs:F_}{i:Nat},AR (xs.map V.int) us->AR (ys.map V.int) vs->Q (Cp xs ys) s->KatLex prog w A b (decide (xs.length<ys.length)) Q (us.zip vs) i s
|[],[],_,_,i,.nil,.nil,q=>q
|[],y::ys,_,_,i,.nil,.cons _ _,q=>by
 show Q (decide (0<ys.length+1)) s;rw[Z5 (Nat.succ_pos _)];exact q
|x::xs,[],_,_,i,.cons _ _,.nil,q=>by
 show Q (decide (xs.length+1<0)) s;rw[Z8 (L8 _)];exact q
|x::xs,y::ys,u::us,v::vs,i,.cons r1 t1,.cons r2 t2,q=>by
 obtain⟨t,rfl⟩:=(show ∃t,u=.int x t from r1)
 obtain⟨t',rfl⟩:=(show ∃t,v=.int y t from r2)
 refine wpAny_eqBool_int ?_;unfold Cp at q;by_cases e:x=y
 .subst e;rw[Z7 rfl]at q;simp only[beq_self_eq_true,A4a];have h:=Wy (b:=b) (i:=i+1) t1 t2 q;rw[show decide ((x::xs).length<(x::ys).length)=decide (xs.length<ys.length) by simp];exact h
 .rw[Z4 e]at q;have a:(x==y)=false:=by simpa using e
  simp only[a,J9,A0c];cases b && i==0 with
  |true=>exact oneLt_int q
  |false =>
   exact kat_one _ _ (wpAny_lt_int q)
end
section
variable{X:Cx}
theorem VD{H:Hp}{h:T_}(ok:HOk X.prog X.w H h){a:List (Addr×List Int)}(l:∀q∈a,H q.1=some (.tup (q.2.map V.int))/\q.2≠[]){i:Nat}(f:i<a.length) :
  ∃(b:R_)(o:Obj)(us:F_)(m:Nat),(a.map λq=>Value.ref q.1).getD i Value.none=.ref b/\h.get? b=some o/\o.cls=.type "tuple" /\ o.data=.seq us.toArray m/\AR (((a.map (·.2)).getD i []).map V.int) us:=by
 have k:=R0 f;obtain⟨j,p⟩:=l _ k;obtain⟨_,g,r,o,e,c,n,d⟩:=(show BE X.prog X.w H h _ (.tup _)from ok _ _ j)
 refine⟨_,o,g,n,?_,e,c,d,?_⟩
 .rw[C7,B8,C5 f];rfl
 .rw[C7,B8,C5 f];exact r
theorem Rj{H:Hp}{h:T_}(ok:HOk X.prog X.w H h):∀{a:List (Addr×List Int)},(∀q∈a,H q.1=some (.tup (q.2.map V.int))/\q.2≠[])->∃fs:List Value,KatTups h (a.map λq=>Value.ref q.1) fs/\fs.length=a.length/\∀v∈fs,∃x t,v=.int x t
|[],_=>⟨[],.nil,Z,λv b=>nomatch b⟩
|q::a,hq=>by
 obtain⟨fs,i,j,k⟩:=Rj ok λs f=>hq s (C4 _ f);obtain⟨e,p⟩:=hq q (C2 ..);obtain⟨_,m,r,o,g,c,n,d⟩:=(show BE X.prog X.w H h _ (.tup _)from ok _ _ e)
 match l:q.2,p with
 |x::xs,_ =>
  rw[l]at r;cases r with
  |@cons _ u _ us y z =>
   obtain⟨t,rfl⟩:=(show ∃t,u=.int x t from y)
   refine⟨.int x t::fs,.cons g c d A6 i,by rw[F0,F0,j],λv b=>?_⟩;rcases C1.mp b with rfl|b
   .exact⟨x,t,Z⟩
   .exact k v b
end
abbrev NE:=Sum Int (List Int)
abbrev NK:=List NE
noncomputable def isR:NE->Bool
|.inl _=>false
|.inr _=>true
section
variable(P:N_)(w:Q_)
inductive Cz(h:T_):NK->List Value->Prop
|nil:Cz h [] []
|int {i:Int} {v:S_} {ks:NK} {vs:F_} (e:(intKind P w).is i v=true) (r:Cz h ks vs):Cz h (.inl i::ks) (v::vs)
|tup {ps:I_} {b:R_} {ks:NK} {vs:F_} (e:IsTupleKey (intKind P w) h ps b) (r:Cz h ks vs):Cz h (.inr ps::ks) (.ref b::vs)
structure Ix(sh:List Bool)(h:T_)(k:NK)(a:R_):Prop where
shape:k.map isR=sh
ex:∃o its n,h.get? a=some o/\o.cls=.type "tuple" /\ o.data=.seq its n/\Cz P w h k its.toList
noncomputable def NZ:NE->Int
|.inl i=>(intKind P w).hash i
|.inr ps=>tupleKeyHash (intKind P w) ps
noncomputable def Oa:NE->Nat
|.inl _=>1
|.inr ps=>ps.length+1
noncomputable def nHash(k:NK):Int:=reduceHash (Builtin.Tuple.tupleHashOf (k.map (NZ P w)))
noncomputable def nDraw(k:NK):Nat:=(k.map Oa).sum+1
end
section
variable{P:N_}{w:Q_}{sh:List Bool}{h h':T_}
theorem Cz.inj{x y:NK}{vs:F_}(g:Cz P w h x vs):Cz P w h y vs->x.map isR=y.map isR->x=y:=by
 induction g generalizing y with
 |nil=>intro c _;cases c;rfl
 |int e r f =>
  intro c a;cases c with
  |int b d =>
   rw[D9,D9]at a;rw[(intKind P w).inj _ _ _ e b,f d (A1h a).2]
  |tup b d=>cases a
 |tup e r f =>
  intro c a;cases c with
  |int b d=>cases a
  |tup b d =>
   rw[D9,D9]at a;rw[e.inj b,f d (A1h a).2]
theorem Cz.keep{x:NK}{vs:F_}(d:Cz P w h x vs)(k:∀c b,IsTupleKey (intKind P w) h c b->IsTupleKey (intKind P w) h' c b):Cz P w h' x vs:=by
 induction d with
 |nil=>exact .nil
 |int e r a=>exact .int e a
 |tup e r a=>exact .tup (k _ _ e) a
theorem Ix.ty{s:P_}{k:NK}{a:R_}(x:Ix P w sh s.heap k a):s.TypeIs (.ref a) "tuple" := by
 obtain⟨o,_,_,c,b,_⟩:=x.ex;exact⟨o,c,b⟩
variable{A:Around}{E:B_}{s:P_}
theorem YB{k:NK}{a:R_}{Q:Int->Shared->Prop}(G:A.units+1<cLine)(y:Ix P w sh s.heap k a)(q:Q (nHash P w k) {s with toks:=s.toks+nDraw k}):wpAny (model P w) A (pyHash (.ref a)) Q E s:=by
 have ty:=y.ty;obtain⟨_,o,H,n,D,_,B,C⟩:=y;unfold pyHash
 first|unfold pyHashByItsType|skip
 first|refine Z3 (wpAny_cRoomFor_or (.inr A0) ?_)|skip
 refine Z3 (A4c ty PySem.F.slot_tuple_hash.lookup ?_);show wpAny _ _ (if(some (Value.builtin "tuple.__hash__")==some Value.none)=true then _ else _) Q E s;rw[Z4 (by rw[beq_builtin_none];exact D2)];refine Z3 (A4c ty PySem.F.slot_tuple_hash.lookup ?_);show wpAny _ _ (callSpecialIfBoundUnlessNone? (.ref a) "__hash__" _ >>= _) Q E s;refine Z3 (wpAny_callSpecialIfBoundUnlessNone?_slot ty PySem.F.slot_tuple_hash (A0e PySem.F.slot_tuple_hash ty PySem.F.entry_tuple_hash ?_ (PySem.F.args_tuple_hash_1 _)));show wpAny _ _ (Builtin.Tuple.tupleItemsOf (.ref a) >>= _) _ _ s;refine Z3 (A7d D B (Z3 ?_));rw[<-Y5];refine A5b _ (λf (b:Array Int) u=>∃g m,k=g++m/\Cz P w s.heap m f/\b.toList=g.map (NZ P w)/\u={s with toks:=s.toks+(g.map Oa).sum}) _ ?_ ?_ _ _ ⟨[],k,Z,C,Z,Z⟩
 .rintro x f b u ⟨g,m,rfl,t,j,rfl⟩;cases t with
  |@int i v ks vs e r =>
   refine Z3 ((intKind P w).pyHash e ?_);have fin:∃d l,g++Sum.inl i::ks=d++l/\Cz P w s.heap l f/\(b.push ((intKind P w).hash i)).toList=d.map (NZ P w)/\({s with toks:=s.toks+(g.map Oa).sum+1}:P_)={s with toks:=s.toks+(d.map Oa).sum}:=⟨g++[.inl i],ks,by simp,r,by simp[j,NZ],by simp[Oa,W8]⟩
   first|exact Z6 fin|exact Z3 (Z6 (Z6 fin))
  |@tup p c ks vs e r =>
   refine Z3 (wpAny_pyHash_tuple (by show A.units+1<cLine;exact G) e ?_);have fin:∃d l,g++Sum.inr p::ks=d++l/\Cz P w s.heap l f/\(b.push (tupleKeyHash (intKind P w) p)).toList=d.map (NZ P w)/\({s with toks:=s.toks+(g.map Oa).sum+(p.length+1)}:P_)={s with toks:=s.toks+(d.map Oa).sum}:=⟨g++[.inr p],ks,by simp,r,by simp[j,NZ],by simp[Oa,W8]⟩
   first|exact Z6 fin|exact Z3 (Z6 (Z6 fin))
 .rintro b u ⟨g,m,rfl,t,j,rfl⟩;cases t;rw[P0]at q;show wpAny _ _ (retInt (Builtin.Tuple.tupleHashOf b.toList)) _ _ _;rw[j];refine wpAny_ret_mkInt ?_;unfold nHash nDraw reduceHash at q;show wpAny _ _ (if(decide (-(2:Int)^63<=Builtin.Tuple.tupleHashOf (g.map (NZ P w))) && decide (Builtin.Tuple.tupleHashOf (g.map (NZ P w))<2^63))=true then _ else _) Q E _;split at q
  .rename_i z;rw[Z7 z];exact Z6 (by simpa[W8] using q)
  .rename_i z;rw[Z4 z];exact Z3 (A5f (Z6 (by simpa[W8] using q)))
theorem RV{x y:NK}{a b:R_}{R:Fin->Shared->Prop}(V:A.units<cLine)(W:Ix P w sh s.heap x a)(U:Ix P w sh s.heap y b)(q:R (.done (.ret (.bool (decide (x=y))))) s):wpAny (model P w) A (Builtin.«tuple.__eq__» ⟨[.ref a,.ref b],[]⟩) R E s:=by
 have tb:=U.ty;obtain⟨sx,oa,xs,na,N,_,H,L⟩:=W;obtain⟨sy,ob,ys,nb,O,_,I,M⟩:=U;show wpAny _ _ (isInstance (.ref b) (.type "tuple") >>= _) _ _ s;refine Z3 (A4b tb A6c ?_);simp only[R7,J9,A0c];refine Z3 (A7d N H (Z3 (A7d O I (Z3 ?_))));refine A5b _ (λi r F=>r.1=none/\F=s/\∃B C us vs,i=List.zip us vs/\Cz P w s.heap B us/\Cz P w s.heap C vs/\B.map isR=C.map isR/\decide (B=C)=decide (x=y)/\(us.length==vs.length)=(xs.size==ys.size)) _ ?_ ?_ _ _ ⟨Z,Z,x,y,xs.toList,ys.toList,Z,L,M,sx.trans sy.symm,Z,by simp⟩
 .rintro⟨u,v⟩ i r F ⟨Q,rfl,B,C,us,vs,g,k,f,c,d,e⟩;cases k with
  |nil=>simp at g
  |@int X u' ks m G D =>
   cases f with
   |nil=>simp at g
   |@int Y v' l n p o =>
    simp only[List.zip_cons_cons,List.cons.injEq,Prod.mk.injEq]at g;obtain⟨⟨rfl,rfl⟩,rfl⟩:=g;rw[D9,D9]at c;refine Z3 ((intKind P w).eqBool G p ?_);by_cases j:X=Y
    .subst j;rw[Z5 rfl];simp only[R7,J9,A0c];refine Z6 ⟨Z,Z,ks,l,m,n,Z,D,o,(A1h c).2,?_,by simpa using e⟩;rw[<-d];exact decide_eq_decide.mpr ⟨λz=>by rw[z],λz=>(A1h z).2⟩
    .rw[Z8 j];simp only[Bool.not_false,A4a];have K:decide (x=y)=false:=by rw[<-d];exact Z8 λz=>j (Sum.inl.inj (A1h z).1)
     rw[K]at q;exact Z3 (Z6 (Z6 (Z6 q)))
   |tup p o=>cases c
  |@tup S c1 ks m G D =>
   cases f with
   |nil=>simp at g
   |int p o=>cases c
   |@tup T c2 l n p o =>
    simp only[List.zip_cons_cons,List.cons.injEq,Prod.mk.injEq]at g;obtain⟨⟨rfl,rfl⟩,rfl⟩:=g;rw[D9,D9]at c;refine Z3 (wpAny_eqBool_tuple V G p ?_);by_cases j:S=T
    .subst j;rw[Z5 rfl];simp only[R7,J9,A0c];refine Z6 ⟨Z,Z,ks,l,m,n,Z,D,o,(A1h c).2,?_,by simpa using e⟩;rw[<-d];exact decide_eq_decide.mpr ⟨λz=>by rw[z],λz=>(A1h z).2⟩
    .rw[Z8 j];simp only[Bool.not_false,A4a];have K:decide (x=y)=false:=by rw[<-d];exact Z8 λz=>j (Sum.inr.inj (A1h z).1)
     rw[K]at q;exact Z3 (Z6 (Z6 (Z6 q)))
 .rintro⟨D,o⟩ F ⟨Q,rfl,B,C,us,vs,g,k,f,c,d,e⟩;simp only at Q;subst Q;refine Z6 ?_;have t:(xs.size==ys.size)=decide (x=y):=by
   rw[<-d,<-e];cases k with
   |nil =>
    cases f with
    |nil=>simp
    |int _ _=>cases c
    |tup _ _=>cases c
   |int _ _ =>
    cases f with
    |nil=>cases c
    |int _ _=>simp at g
    |tup _ _=>cases c
   |tup _ _ =>
    cases f with
    |nil=>cases c
    |int _ _=>cases c
    |tup _ _=>simp at g
  show R (.done (.ret (.bool (xs.size==ys.size)))) F;rw[t];exact q
theorem nest_eq{x y:NK}{a b:R_}{Q:Bool->Shared->Prop}(p:A.units+1<cLine)(f:Ix P w sh s.heap x a)(j:Ix P w sh s.heap y b)(q:Q (decide (x=y)) s):wpAny (model P w) A (eqBool (.ref a) (.ref b)) Q E s:=by
 unfold eqBool
 try with_reducible refine A1g ?_
 show wpAny _ _ (if(Value.ref a==Value.ref b)=true then _ else _) Q E s;by_cases c:(Value.ref a==Value.ref b)=true
 .rw[Z7 c];have e:a=b:=by have:=eq_of_beq c;injection this
  subst e;have:x=y:=by
   obtain⟨t,o,r,n,m,_,k,l⟩:=f;obtain⟨u,o',its',v,i,_,d,g⟩:=j;obtain rfl:o=o':=X4 (m.symm.trans i);rw[k]at d;injection d with h1 _
   subst h1;exact l.inj g (t.trans u.symm)
  subst this;exact Z3 (A5f (Z6 (by simpa using q)))
 .rw[Z4 c];exact Z3 (wpAny_richCompare_same_room (op:=.Eq) f.ty j.ty PySem.F.slot_tuple_eq (A0e PySem.F.slot_tuple_eq f.ty PySem.F.entry_tuple_eq (RV (by show A.units+1<cLine;exact p) f j ⟨_,Z,(λe=>nomatch e),K9 q⟩) (PySem.F.args_tuple_eq_2 _ _)) A0)
theorem Ym{n:Nat}{p:I_}{a:R_}{Q:Bool->Shared->Prop}(g:IsTupleKey (intKind P w) s.heap p a)(q:Q true s):wpAny (model P w) A (eqIsQuiet (n+1) (.ref a)) Q E s:=by
 have ty:=g.typeIs;obtain⟨o,e,m,k,_,i,j⟩:=g;unfold eqIsQuiet;refine Z3 (A4c ty PySem.F.slot_tuple_eq.lookup ?_);show wpAny _ _ (isInstance (.ref a) (.type "tuple") >>= _) _ _ s;refine Z3 (A4b ty A6c ?_);simp only[R7,J9,A0c];refine Z3 (A0h k i (Z3 ?_));show wpAny _ _ (forIn e _ _) _ _ s;rw[<-Y5];refine A5b _ (λc r f=>r.1=none/\f=s/\∀v∈c,carriedByValue v=true) _ ?_ ?_ _ _ ⟨Z,Z,j.byValue⟩
 .rintro v c r f ⟨d,rfl,b⟩;rw[eqIsQuiet_byValue _ (b v C2)];refine Z3 (Z6 ?_);simp only[R7,J9,A0c];exact Z6 ⟨Z,Z,λu l=>b u (C4 _ l)⟩
 .rintro⟨t,x⟩ f ⟨d,rfl,_⟩;simp only at d;subst d;exact Z6 q
theorem UV{x:NK}{a:R_}{Q:Bool->Shared->Prop}(j:Ix P w sh s.heap x a)(q:Q true s):wpAny (model P w) A (eqIsQuiet 8 (.ref a)) Q E s:=by
 have ty:=j.ty;obtain⟨_,o,g,m,t,_,l,p⟩:=j;unfold eqIsQuiet;refine Z3 (A4c ty PySem.F.slot_tuple_eq.lookup ?_);show wpAny _ _ (isInstance (.ref a) (.type "tuple") >>= _) _ _ s;refine Z3 (A4b ty A6c ?_);simp only[R7,J9,A0c];refine Z3 (A0h t l (Z3 ?_));show wpAny _ _ (forIn g _ _) _ _ s;rw[<-Y5];refine A5b _ (λb r i=>r.1=none/\i=s/\∃k,Cz P w s.heap k b) _ ?_ ?_ _ _ ⟨Z,Z,x,p⟩
 .rintro v b r i ⟨d,rfl,k,f⟩;cases f with
  |int e c =>
   rw[eqIsQuiet_byValue _ ((intKind P w).byValue _ _ e)];refine Z3 (Z6 ?_);simp only[R7,J9,A0c];exact Z6 ⟨Z,Z,_,c⟩
  |tup e c =>
   refine Z3 (Ym (n:=6) e ?_);simp only[R7,J9,A0c];exact Z6 ⟨Z,Z,_,c⟩
 .rintro⟨c,u⟩ i ⟨d,rfl,_⟩;simp only at d;subst d;exact Z6 q
end
noncomputable def MD(P:N_)(w:Q_)(sh:List Bool):HeapKind P w NK where
 is:=Ix P w sh
 hash:=nHash P w
 draws:=nDraw
 room:=λA=>A.units+1<cLine
 inj:=λhx hy=>by
  obtain⟨s1,o,its,n,ho,_,hd,hi⟩:=hx;obtain⟨s2,o',its',n',ho',_,hd',hi'⟩:=hy;obtain rfl:o=o':=X4 (ho.symm.trans ho');rw[hd]at hd';injection hd' with h1 _
  subst h1;exact hi.inj hi' (s1.trans s2.symm)
 keeps:=λ{h h' k a d o es ep} hx ho hd hs=>by
  obtain⟨s1,o',its,n,ho',hc,hd',hi⟩:=hx;have ne:a≠d:=by
   rintro rfl;obtain rfl:o'=o:=X4 (ho'.symm.trans ho);rw[hd]at hd';exact nomatch hd'
  exact⟨s1,o',its,n,(hs.2 a ne).trans ho',hc,hd',hi.keep λps b e=>e.keeps ho hd hs⟩
 pyHash:=λhu hk q=>YB hu hk q
 eqBool:=λhu hx hy q=>nest_eq hu hx hy q
 quiet:=λhk q=>UV hk q
def NEl(H:Hp):NE->V->Prop
|.inl i,v=>v=.int i
|.inr ps,v=>∃t,v=.ref t/\H t=some (.tup (ps.map V.int))
def Iv(H:Hp)(b:R_)(k:NK):Prop:=∃vs,H b=some (.tup vs)/\Paired (NEl H) k vs
abbrev KN(H:Hp):List (NK×V)->List (NK×Addr×Value)->Prop:=Paired λp q=>p.1=q.1/\Iv H q.2.1 p.1/\Bd p.2 q.2.2
def Yl(P:N_)(w:Q_)(sh:List Bool)(a:R_)(xs:List (NK×Addr×Value)):Heap->Prop:=λh=>∃o es ep,h.get? a=some o/\o.ExactDict/\o.data=.dict es ep/\es.toList=xs.map (entryOfKey (MD P w sh))
structure BO(P:N_)(w:Q_)(sh:List Bool)(H:Hp)(a:R_)(kvs:List (NK×V)):Prop where
ex:∃xs,H a=some (.ext (Yl P w sh a xs))/\KN H kvs xs/\(xs.map (·.1)).Nodup/\(∀x∈xs,x.1.map isR=sh)/\kvs.length<=sizeLine/\(a==sysModules)=false
section
variable{P:N_}{w:Q_}{sh:List Bool}{H H':Hp}{h h':T_}{a b:R_}{k:NK}{kvs:List (NK×V)}
theorem Iv.keep(c:∀b ys,H b=some (.tup ys)->H' b=some (.tup ys))(e:Iv H b k):Iv H' b k:=by
 obtain⟨vs,e,r⟩:=e;refine⟨vs,c _ _ e,Paired.imp' (λx v z=>?_) r⟩;cases x with
 |inl i=>exact z
 |inr g =>
  obtain⟨t,d,f⟩:=z;exact⟨t,d,c _ _ f⟩
theorem KN.keep{xs:List (NK×Addr×Value)}(c:∀b ys,H b=some (.tup ys)->H' b=some (.tup ys))(r:KN H kvs xs):KN H' kvs xs:=Paired.imp' (λp q z=>⟨z.1,z.2.1.keep c,z.2.2⟩) r
theorem BO.keep(n:BO P w sh H a kvs)(d:∀b ys,H b=some (.tup ys)->H' b=some (.tup ys))(c:∀o,H a=some o->H' a=some o):BO P w sh H' a kvs:=by
 obtain⟨xs,e,r,z⟩:=n.ex;exact⟨xs,c _ e,KN.keep d r,z⟩
theorem YU{c:I_}{us:F_}(r:AR (c.map V.int) us):ItemsAre (intKind P w) c us:=by
 induction c generalizing us with
 |nil=>cases r;exact .nil
 |cons i c d =>
  cases r with
  |cons e f =>
   obtain⟨t,rfl⟩:=(show ∃t,_=Value.int i t from e)
   exact .cons (by show Value.isInt i (.int i t)=true;simp[Value.isInt]) (d f)
theorem int_key(ok:HOk P w H h){d:I_}(e:H a=some (.tup (d.map V.int))):IsTupleKey (intKind P w) h d a:=by
 obtain⟨_,c,r,o,f,g,n,i⟩:=(show BE P w H h a (.tup (d.map V.int))from ok a _ e)
 exact⟨o,c.toArray,n,f,g,i,by simpa using YU r⟩
theorem RT(ok:HOk P w H h)(e:Iv H b k)(u:k.map isR=sh):Ix P w sh h k b:=by
 obtain⟨vs,e,r⟩:=e;obtain⟨_,f,c,o,m,p,n,q⟩:=(show BE P w H h b (.tup vs)from ok b _ e)
 refine⟨u,o,f.toArray,n,m,p,q,?_⟩;have go:∀{k:NK}{vs:List V}{us:F_},Paired (NEl H) k vs->AR vs us->Cz P w h k us:=by
  intro k vs us r;induction r generalizing us with
  |nil=>intro c;cases c;exact .nil
  |@cons x v ks vs d t g =>
   intro c;cases c with
   |cons j l =>
    cases x with
    |inl i =>
     have d:v=.int i:=d;subst d;obtain⟨tk,rfl⟩:=(show ∃t,_=Value.int i t from j)
     exact .int (by show Value.isInt i (.int i tk)=true;simp[Value.isInt]) (g l)
    |inr z =>
     obtain⟨y,rfl,s⟩:=d;cases(show _=Value.ref y from j);exact .tup (int_key ok s) (g l)
 simpa using go r c
theorem RU(ok:HOk P w H h)(n:BO P w sh H a kvs):∃xs,H a=some (.ext (Yl P w sh a xs))/\KN H kvs xs/\h.DictOfH (MD P w sh) a xs/\(∀x∈xs,x.1.map isR=sh)/\kvs.length<=sizeLine/\(a==sysModules)=false:=by
 obtain⟨xs,e,r,nd,f,z,y⟩:=n.ex;obtain⟨⟨o,i,g,j,s,u,v⟩,_⟩:=(show BE P w H h a (.ext _)from ok a _ e)
 refine⟨xs,e,r,⟨o,i,g,j,s,u,v,λx c=>?_,nd⟩,f,z,y⟩;have all:∀{l:List (NK×V)}{m:List (NK×Addr×Value)},KN H l m->∀x∈m,Iv H x.2.1 x.1:=by
  intro l m q;induction q with
  |nil=>intro x c;exact nomatch c
  |@cons p q B C d t A =>
   intro x c;rcases C1.mp c with e|c
   .subst e;rw[<-d.1];exact d.2.1
   .exact A x c
 exact RT ok (all r x c) (f x c)
theorem KN.val{xs:List (NK×Addr×Value)}(r:KN H kvs xs)(k:NK):Jl (Bo kvs k) ((atKey xs k).map (·.2)):=by
 induction r with
 |nil=>exact True.intro
 |@cons p q j c h t i =>
  obtain⟨d,_,g⟩:=h;by_cases e:p.1=k
  .rw[BL e,show atKey (q::c) k=some q.2 by simp[atKey,O9,d.symm.trans e]];exact g
  .have f:¬q.1=k:=λz=>e (d.trans z);rw[Bn e,show atKey (q::c) k=atKey c k by simp[atKey,O9,f]];exact i
theorem KN.put{xs:List (NK×Addr×Value)}(r:KN H kvs xs)(k:NK){y:V}{u:S_}(i:Iv H b k)(f:Bd y u):KN H (Do kvs k y) (storedH xs k b u):=by
 have e:(kvs.any λl=>decide (l.1=k))=(atKey xs k).isSome:=by rw[FO,(r.val k).isSome_eq,Y9]
 unfold Do storedH;rw[e];by_cases q:(atKey xs k).isSome=true
 .rw[Z7 q,Z7 q];clear e q;induction r with
  |nil=>exact .nil
  |@cons p q m n h t j =>
   refine .cons ?_ j;obtain⟨c,d,g⟩:=h;unfold putAt;dsimp only;by_cases z:p.1=k
   .rw[Z7 z,Z7 (c.symm.trans z)];exact⟨c,d,f⟩
   .rw[Z4 z,Z4 λq=>z (c.trans q)];exact⟨c,d,g⟩
 .rw[Z4 q,Z4 q];exact A2b r ⟨Z,i,f⟩
end
def tDNewN(P:N_)(w:Q_)(sh:List Bool):TE:=λ_ H Q=>∀p H',H p=none->Ay H H'->BO P w sh H' p []->Q (.ref p) H'
def tDGetN(P:N_)(w:Q_)(sh:List Bool)(td ty:TE):TE:=fun σ H Q=>td σ H λx H1=>∃a,x=.ref a/\(∃kvs,BO P w sh H1 a kvs)/\ty σ H1 λy H2=>∃b k kvs,y=.ref b/\BO P w sh H2 a kvs/\Iv H2 b k/\k.map isR=sh/\Q ((Bo kvs k).getD .non) H2
def sDPutN(P:N_)(w:Q_)(sh:List Bool)(td ty tv:TE):TS:=λD σ H=>tv σ H λv H1=>td σ H1 λx H2=>ty σ H2 λy H3=>∃a b k kvs,x=.ref a/\y=.ref b/\BO P w sh H3 a kvs/\Iv H3 b k/\k.map isR=sh/\kvs.length<sizeLine/\∀H4,(∀c o,H3 c=some o->c≠a->H4 c=some o)->BO P w sh H4 a (Do kvs k v)->D.nx σ H4
section
variable{X:Cx}{sh:List Bool}
theorem TC{xs:List (NK×Addr×Value)}{H:Hp}{h:T_}{a:R_}(r:Yl X.prog X.w sh a xs h):BE X.prog X.w H h a (.ext (Yl X.prog X.w sh a xs)):=by
 obtain⟨o,m,l,d,q,s,t⟩:=id r;refine⟨r,⟨o,d⟩,λn p f e=>?_⟩;obtain⟨o',c,b,g,i,j,k⟩:=f;exact⟨o',c,b,e o' g,i,j,k⟩
theorem pe_dnewN{pos:Pos}:PE X (.Dict [] [] pos) (tDNewN X.prog X.w sh):=λc s σ H Q I h=>by
 have fr:=I.hok.fresh (C0 s.heap.objs.size);have lo:(s.heap.objs.size==sysModules)=false:=beq_eq_false_iff_ne.mpr (X5 (F2 I.big));refine wpAny_Dict_empty ⟨.ref s.heap.objs.size,upd H s.heap.objs.size (.ext (Yl X.prog X.w sh s.heap.objs.size [])),I.laid (a:=s.heap.objs.size) (t':=s.toks) (λ_ _ q=>B9 _ q) (C0 _) (TC ⟨_,#[],0,D0 _ Z,⟨Z,Z,Z⟩,Z,Z⟩),Z,h _ _ fr (λb o e=>by rw[As (Av e fr)];exact e) ⟨[],Ag,.nil,O5,(λx d=>by simp at d),J0 _,lo⟩⟩
variable{o e:Expr}{apos cpos:Pos}{td ty:TE}
theorem pe_dgetN(V:X.A.units+64<cLine)(E:PE X o td)(D:PE X e ty)(m:M1 X o "get" apos e cpos):PE X (.Call (.Attribute o "get" apos) [e] [] cpos) (tDGetN X.prog X.w sh td ty):=by
 intro c s σ H Q I h;refine wpAny_Call_method m.base m.few m.line PySem.F.plainAttrs_dict A2a PySem.F.type_dict_get (thn (E c s σ H _ I h) λu U C=>?_);obtain⟨x,p,i,S,a,t,⟨kvs,d⟩,O⟩:=C;subst t;obtain rfl:u=Value.ref a:=S;obtain⟨xs,_,_,l,_⟩:=RU i.hok d;refine⟨l.typeIs,λb q=>?_,?_⟩
 .cases q;obtain⟨N,_,_,z,B,_⟩:=l;exact⟨N,z,B.2.1⟩
 rw[m.trees];refine A5e Z (A6d (A7b (thn (D c U σ p _ i O) λK W ⟨y,r,f,T,b,k,n,v,M,L,G,P⟩=>Calls.spliced_nil ?_)));subst v;cases(show K=Value.ref b from T);obtain⟨g,_,R,j,_,_,lo⟩:=RU f.hok M;refine call_meetsIn A2a j.typeIs A5a (A4h _ _) (meetsH_dict_get (MD X.prog X.w sh) a b lo) ⟨by show X.A.units+1+1<cLine;lia,k,g,RT f.hok L G,j,_,r,f.tok _,(KN.val R k).getD (d:=.non) Z,P⟩
variable{i value:Expr}{pos pos':Pos}{tv:TE}
theorem ZX(hu:X.A.units+64<cLine)(ho:PE X o td)(W:PE X i ty)(hv:PE X value tv)(hs:swapsWith value (some (.Subscript o i pos')) pos.line X.env=pure false):PS X (.Assign [.Subscript o i pos'] value pos) (sDPutN X.prog X.w sh td ty tv):=by
 intro d s σ H D I h;refine wpAny_Assign_Subscript (thn (hv d s σ H _ I h) λr s1 ⟨v,G,L,rv,q1⟩=>thn (ho d s1 σ G _ L q1) λu s2 ⟨x,K,M,rx,q2⟩=>thn (W d s2 σ K _ M q2) λiv s3 ⟨y,q,m,ry,a,b,k,kvs,Q,R,n3,E,ks,lt,q3⟩=>?_) hs;subst Q R;obtain rfl:u=Value.ref a:=rx;cases(show iv=Value.ref b from ry);obtain⟨xs,t,g,N,f,z,lo⟩:=RU m.hok n3;have hz:xs.length<=sizeLine:=by rw[<-K5 g];exact z
 have Y:(Do kvs k v).length<=sizeLine:=by have:=Fk kvs k v;lia
 refine wpAny_setItem_heap (knd:=MD X.prog X.w sh) (hsz:=hz) (by show X.A.units+1+1<cLine;lia) (RT m.hok E ks) N λh' n p=>?_;obtain⟨F,P,O,B,S,T,U,_,V⟩:=n;have tk:∀c ys,q c=some (.tup ys)->upd q a (.ext (Yl X.prog X.w sh a (storedH xs k b r))) c=some (.tup ys):=λc ys j=>by
  rw[As (AE j t (λz=>nomatch z))];exact j
 refine⟨σ,_,OK m (by rw[t];exact True.intro) p ⟨F,B⟩ (TC ⟨F,P,O,B,S,T,U⟩),q3 _ (λc o j ne=>by rw[As ne];exact j) ⟨_,Ag,KN.keep tk (KN.put g k E rv),V,λx l=>?_,Y,lo⟩⟩;unfold storedH at l;split at l
 .obtain⟨y,C,rfl⟩:=C8.mp l;unfold putAt;split
  .exact f y C
  .exact f y C
 .rcases D8.mp l with w|w
  .exact f x w
  .rw[D1]at w;subst w;exact ks
end
end L2
namespace L2
open PySem PySem.W PySem.Spec PyProof.Rows
def iDictF(tl:TE):TI:=fun σ H R=>tl σ H λx H1=>∃a kvs,x=.ref a/\Rd H1 a (.dT kvs)/\∀o H2,H2 a=some (.frz o (.dT kvs))->(∀b u,H1 b=some u->b≠a->H2 b=some u)->R (Itd a o kvs) H2
theorem Ts{X:Cx}{Q l:Expr}{L:TE}(N:PE X l L):PI X Q l (iDictF L):=by
 intro g s σ H R I h;refine thn (N g s σ H _ I h) λv d ⟨x,B,j,P,O⟩=>?_;obtain⟨a,kvs,e,f,q⟩:=O;subst e;cases P;rcases f with f|⟨o,f⟩
 .obtain⟨z,y,xs,r,o,k,p,i,t,m,A,K⟩:=(show BE X.prog X.w B d.heap a (.dT kvs)from j.hok a _ f)
  have F:k.size=kvs.length:=by rw[size_of_entries A,<-K5 r]
  have C:Inv X g σ (upd B a (.frz o (.dT kvs))) d:=OK (t':=d.toks) j (by rw[f];exact True.intro) ⟨Z,λ_ _=>Z⟩ ⟨o,i⟩ ⟨i,z,y,xs,KT.keeps r λc ys G=>(by rw[As (AE G f (λz=>nomatch z))];exact G),o,k,p,i,t,m,A,K⟩;refine To y i t m ?_;refine⟨d.heap.objs.size,[d.heap.objs.size],_,_,_,Z,C.kept (t':=d.toks) λb o e=>B9 _ e,OO a _ o kvs k p m F,⟨_,D0 _ Z,Z,Z⟩,λb E=>?_,q o _ Ag λb u e n=>by rw[As n];exact e⟩;obtain rfl:b=d.heap.objs.size:=by simpa using E
  exact C.fpOk (C0 _) (C.hok.fresh (C0 _))
 .obtain⟨i,z,y,xs,r,o',k,p,D,t,m,A,K⟩:=(show BE X.prog X.w B d.heap a (.frz o (.dT kvs))from j.hok a _ f)
  have M:o=o':=X4 (i.symm.trans D);subst M;have F:k.size=kvs.length:=by rw[size_of_entries A,<-K5 r]
  refine To y i t m ?_;refine⟨d.heap.objs.size,[d.heap.objs.size],_,_,_,Z,j.kept (t':=d.toks) λb o e=>B9 _ e,OO a _ o kvs k p m F,⟨_,D0 _ Z,Z,Z⟩,λb E=>?_,q o _ f λb u e n=>e⟩;obtain rfl:b=d.heap.objs.size:=by simpa using E
  exact j.fpOk (C0 _) (j.hok.fresh (C0 _))
end L2
namespace L2
open PySem PySem.W PySem.Spec PyProof.Rows
def Lx:Sp:=λvs H Q _=>∃(t:R_)(x y:Int)(r:I_),vs=[.ref t]/\H t=some (.tup ((x::y::r).map V.int))/\∀u,H u=none->Q (.ref u) (upd H u (.tup [.int y,.int x]))
structure It3 where
a:Addr
x:Int
y:Int
r:List Int
noncomputable def It3.ns(q:It3):List Int:=q.x::q.y::q.r
section
variable{X:Cx}{pins:A_}{σ:St}{H H':Hp}{s:P_}{k:Nat}{f b:R_}{fd:E_}{ps:K_}
theorem DC.stay(fp:DC X pins H b)(a:H' b=none):DC X pins H' b:=⟨a,fp.2⟩
theorem DC.turn{h':T_}{t':Nat}(fp:DC X pins H b)(I:Inv X pins σ H s)(kp:∀c o,c≠b->s.heap.get? c=some o->h'.get? c=some o):Inv X pins σ H {s with heap:=h',toks:=t'} :=
 I.turned kp fp.1 fp.2.1 fp.2.2.2.1 fp.2.2.2.2.1 fp.2.2.2.2.2
theorem DC.nost(fp:DC X pins H b)(I:Inv X pins σ H s):b∉frs X.stack:=λz=>by
 rcases C1.mp (I.stkSub b z)with y|y
 .exact fp.2.1 y
 .exact fp.2.2.1 y
theorem Wz{n:Around}{P:PySem.Fin->Shared->Prop}{E:B_}(I:Inv X pins σ H s){a g:R_}{h c:Nat}{ks out:M_}{l:SortSt}(t:DC X pins H a)(r:DC X pins H g)(j:g≠a)(x:s.heap.get? g=some (seqObj "list" ks c))(u:s.heap.get? a=some (seqObj "list" #[] h))(m:(arrOf l).map (·.2)=out)(v:failedOf l=none)(y:out.size<=sizeLine)(z:ks.size<=sizeLine)
  (fin:∀(h':T_)(q:Nat),Inv X pins σ H {s with heap:=h'}->h'.get? a=some (seqObj "list" out q)->P (.done (.ret .none)) {s with heap:=h'}):wpAny (model X.prog X.w) n (ksk_tail a false h (.ref g) l) P E s:=by
 unfold ksk_tail;have p:Inv X pins σ H {s with heap:=s.heap.update g (Obj.mapSeq λ_=>#[])}:=r.turn (t':=s.toks) I λb o i e=>by rw[P1 _ _ _ _ i];exact e
 have d:(s.heap.update g (Obj.mapSeq λ_=>#[])).get? a=some (seqObj "list" #[] h):=by rw[P1 _ _ _ _ (X5 j)];exact u
 refine Z3 (listUpdate_at x Z (Z3 (wpAny_letGo (Z3 (seqEpoch_at d Z (Z3 (listUpdate_at d Z ?_ (hsz2:=?_))))))) (hsz:=z))
 .rw[v];simp only[bne_self_eq_false,J9,A0c];rw[m];refine Z6 (fin _ _ (t.turn (s:={s with heap:=s.heap.update g (Obj.mapSeq λ_=>#[])}) (t':=s.toks) p λb o i e=>by rw[P1 _ _ _ _ i];exact e) (get?_update_seq d _))
 .simp only[J9,A0c];rw[m];exact Nat.le_succ_of_le y
end
end L2
namespace L2
open PySem PySem.W PySem.Spec PyProof.Rows
section
variable{prog:N_}{w:Q_}{A:Around}{E:B_}{s:P_}{ks vs:F_}{κ:SortKind}
theorem run_64{Q:SortSt->Shared->Prop}{rk:Nat->Int}(n:ks.length=vs.length)(two:2<=vs.length)(d:vs.length<64)(m:∀i j C,i<vs.length->j<vs.length->C (decide (rk i<rk j)) s->kas_ask prog w A κ ks i j C s)
  (k:∀p a,Ch vs.length p->Up rk p vs.length->failedOf a=none->arrOf a=p.map (kas_item (ks.toArray.zip vs.toArray))->Q a s):wpAny (model prog w) A ((sortRuns').run (SortSt.mk' κ (ks.toArray.zip vs.toArray) #[] 7 none)) (λr b=>Q r.2 b) E s :=
 kat_run (G:=λp b=>b=s/\Ch vs.length p/\Up rk p vs.length) n two d (λp a b e c f g=>by
  obtain⟨rfl,h,l⟩:=g;exact k p a h l f c) (rk_wp m (sort_wp A0 λo e c=>⟨Z,e,c⟩))
end
section
variable{X:Cx}{pins:A_}{σ:St}{H H':Hp}{s:P_}{k:Nat}{f b:R_}{fd:E_}{ps:K_}
theorem keyTreeB {A2:Around} {P:PySem.Fin->Shared->Prop} {E:B_} (F:AN X.prog X.w X.K X.mg X.base CX0 k f fd ps Lx) (hb:Ci X.K fd ps []) (hr:CM k A2) (an:∀s H,Op X.prog X.w X.K X.mg X.base X.A X.stack s H->Op X.prog X.w X.K X.mg X.base A2 X.stack s H) (I:Inv X pins σ H s) {a:R_} {d:List It3} {n:Nat} (ho:s.heap.get? a=some (seqObj "list" (d.map λq=>Value.ref q.a).toArray n)) (fa:DC X pins H a) (ag:∀q∈d,H q.a=some (.tup (q.ns.map V.int))) (ae:d.length<64)
  (fin:∀(p:Array Nat)(H':Hp)(G:P_)(c:Nat),Ch d.length p->Up (Yk (d.map λq=>[q.y,q.x])) p d.length->Inv X pins σ H' G->(∀b u,H b=some u->H' b=some u)->H' a=none->G.heap.get? a=some (seqObj "list" (p.toList.map λi=>(d.map λq=>Value.ref q.a).getD i Value.none).toArray c)->P (.done (.ret .none)) G) :
  wpAny (model X.prog X.w) A2 (ksk_tree a (.ref f) false) P E s:=by
 have len:(d.map λq=>Value.ref q.a).length=d.length:=B6 _;have ln:d.length<=sizeLine:=C9 (S8 ae) A4;unfold ksk_tree;refine Z3 (listItems_at ho Z (Z3 (listUpdate_at ho Z ?_)));have ⟨L,he1⟩:∃L,(s.heap.update a (Obj.mapSeq λ_=>#[])).get? a=some (seqObj "list" #[] L):=⟨_,get?_update_seq ho _⟩
 have I1:Inv X pins σ H {s with heap:=s.heap.update a (Obj.mapSeq λ_=>#[])}:=fa.turn (t':=s.toks) I λc o hc e=>by rw[P1 _ _ _ _ hc];exact e
 generalize s.heap.update a (Obj.mapSeq λ_=>#[])=N at he1 I1⊢;refine Z3 (seqEpoch_at he1 Z (Z3 (wpAny_newTuple (Z3 (wpAny_newList (A1g ?_))))));have I2:Inv X pins σ H {s with heap:=N.push (seqObj "tuple" (d.map λq=>Value.ref q.a).toArray 0)}:=I1.kept (t':=s.toks) λb o e=>B9 _ e;have ab:=B9 (seqObj "tuple" (d.map λq=>Value.ref q.a).toArray 0) he1;show wpAny (model X.prog X.w) A2 (ksk_rest a (.ref f) false (d.map λq=>Value.ref q.a).toArray L (.ref (N.push (seqObj "tuple" (d.map λq=>Value.ref q.a).toArray 0)).objs.size)) P E {s with heap:=(N.push (seqObj "tuple" (d.map λq=>Value.ref q.a).toArray 0)).push (seqObj "list" #[] 0)};generalize N.push (seqObj "tuple" (d.map λq=>Value.ref q.a).toArray 0)=h at I2 ab⊢;have fS:DC X pins H h.objs.size:=I2.fpOk (C0 _) (I2.hok.fresh (C0 _));have af:=B9 (seqObj "list" #[] 0) ab;have ac:(h.push (seqObj "list" #[] 0)).get? h.objs.size=some (seqObj "list" #[] 0):=D0 _ Z;have I3:Inv X pins σ H {s with heap:=h.push (seqObj "list" #[] 0)}:=I2.kept (t':=s.toks) λb o e=>B9 _ e;have S:h.objs.size≠a:=T6 (D3 ab);generalize h.push (seqObj "list" #[] 0)=h3 at af ac I3⊢;generalize h.objs.size=R at fS ac S⊢;unfold ksk_rest;refine Z3 (A5f ?_);rw[List.forIn_toArray];refine Z3 (ksk_fold (λj G=>∃(H':Hp)(us:H_)(c:Nat),Inv X pins σ H' G/\(∀b u,H b=some u->H' b=some u)/\H' a=none/\H' R=none/\G.heap.get? R=some (seqObj "list" (us.map Value.ref).toArray c)/\G.heap.get? a=some (seqObj "list" #[] L)/\us.length=j/\∀(i:Nat) u q,us[i]?=some u->d[i]?=some q->H' u=some (.tup ([q.y,q.x].map V.int))) (d.map λq=>Value.ref q.a) 0 _ ⟨H,[],0,I3,λb u e=>e,fa.1,fS.1,ac,af,Z,λi u q e=>(nomatch e)⟩ ?_ ?_)
 .rintro j x ⟨hp,gn,dr,tk,os⟩ hx ⟨H',us,c,g,kp,na,nk,hk,ha,D,O⟩;have jl:j<d.length:=by have:=(B7.mp hx).1;rw[len]at this;exact this
  rw[B8]at hx;obtain⟨q,eq,rfl⟩:=D6.mp hx;rw[M8]at D⊢;have M:=fa.stay na;have l:=fS.stay nk;have tq:=kp _ _ (ag q (D5 eq));have ak:Lx [V.ref q.a] H' (λv al=>∃u,v=.ref u/\H' u=none/\al=upd H' u (.tup [.int q.y,.int q.x])) E0:=⟨q.a,q.x,q.y,q.r,Z,tq,λu hu=>⟨u,Z,hu,Z⟩⟩
  refine Z3 (A3c (wpAny_call (A5d (F.run A2 X.stack _ H' ⟨[Value.ref q.a],[]⟩ ([Value.ref q.a]++[]) [V.ref q.a] _ E0 hr (an _ _ g.env0) (hb _ [Value.ref q.a] g.kIn (F.len _ _ _ _ ak)) (show AR [V.ref q.a] [Value.ref q.a]from .cons Z .nil) ak) λr au hq=>?_)));cases r with
  |error e=>exact hq.elim
  |ok fl =>
   cases fl with
   |next=>exact hq.elim
   |brk=>exact hq.elim
   |cont=>exact hq.elim
   |ret u =>
    obtain⟨v,H2,as,Y,un,ai,rv,W,rfl,ao,rfl⟩:=hq;obtain⟨hh,g2,d2,t2,ar⟩:=au;obtain rfl:ar=os:=as;cases(show _=Value.ref W from rv);have I4:=g.call (h':=hh) (g':=g2) (d':=d2) (t':=t2) (ch:=[]) un ai Y (λb z=>absurd z A6);have ah:hh.get? R=_:=un.keep _ _ hk nk (l.nost g) A6;have am:hh.get? a=_:=un.keep _ _ ha na (M.nost g) A6;have np:∀{b:R_}{o:HO},H' b=some o->upd H' W (.tup [.int q.y,.int q.x]) b=some o:=λ{b o} e=>by rw[As (Av e ao)];exact e
    have aq:upd H' W (.tup [.int q.y,.int q.x]) a=none:=un.free _ _ ha na A6;have aj:upd H' W (.tup [.int q.y,.int q.x]) R=none:=un.free _ _ hk nk A6;have ⟨c2,hk5⟩:∃c2,(hh.update R (Obj.mapSeq (·.push (.ref W)))).get? R=some (seqObj "list" ((us.map Value.ref).toArray.push (.ref W)) c2):=⟨_,get?_update_seq ah _⟩
    refine Z3 (listUpdate_at ah Z (Z6 ⟨Z,upd H' W (.tup [.int q.y,.int q.x]),us++[W],c2,(l.stay aj).turn (t':=t2) I4 λb o hb e=>by rw[P1 _ _ _ _ hb];exact e,λb o e=>np (kp b o e),aq,aj,?_,?_,by rw[C3,D];rfl,λi u2 q2 eu aa=>?_⟩) (hsz2:=?_))
    .show(hh.update R _).get? R=_;rw[hk5];simp
    .show(hh.update R _).get? a=_;rw[P1 _ _ _ _ (X5 S)];exact am
    .by_cases hi:i<j
     .rw[M4 A0]at eu;exact np (O i u2 q2 eu aa)
     .have:i=j:=by
       have:=(B7.mp eu).1;rw[C3,D]at this;have:i<j+1:=this;lia
      subst this;rw[F8 A0,D,V6]at eu;cases eu;rw[eq]at aa;cases aa;exact Ag
    .simp;lia
 .rintro⟨hp,gn,dr,tk,os⟩ ⟨H',us,c,g,kp,na,nk,hk,ha,D,O⟩;rw[M8,len]at D;have M:=fa.stay na;have l:=fS.stay nk;have lk:(us.map Value.ref).length=(d.map λq=>Value.ref q.a).length:=by rw[B6,len,D]
  refine Z3 (listItems_at hk Z ?_);unfold ksk_end;dsimp only;simp only[J9,A0c];have sz:(d.map λq=>Value.ref q.a).toArray.size=d.length:=by rw[D4,len]
  by_cases few:(d.map λq=>Value.ref q.a).toArray.size<2
  .rw[Z7 few,Z7 few];refine Z3 (Z6 ?_);rw[StateT.run_pure];refine Z3 (Z6 ?_);dsimp only;have eo:(arrOf (SortSt.mk' general' ((us.map Value.ref).toArray.zip (d.map λq=>Value.ref q.a).toArray) #[] 7 none)).map (·.2)=((List.range d.length).toArray.toList.map λi=>(d.map λq=>Value.ref q.a).getD i Value.none).toArray:=by
    rw[sz]at few;clear ag fin ho O g hk;show((us.map Value.ref).toArray.zip (d.map λq=>Value.ref q.a).toArray).map (·.2)=_
    match d,us,D,few with
    |[],[],_,_=>simp
    |[v],[u],_,_=>simp
   refine Wz (c:=c) g M l S hk ha eo Z (by simp;lia) (by simp;lia) λh' c' I5 h5=>fin (List.range d.length).toArray H' _ c' ⟨by simp,Array.Perm.refl _⟩ (λi j ij hj=>by rw[sz]at few;have e:i=j:=A0;rw[e];exact Q5 _) I5 kp na h5
  .rw[Z4 few,Z4 few];have two:2<=d.length:=by lia
   have B:∀q∈(us.zip (d.map λq=>[q.y,q.x])),H' q.1=some (.tup (q.2.map V.int))/\q.2≠[]:=λq hq=>by
    obtain⟨i,hi⟩:=L5 hq;rw[List.getElem?_zip_eq_some,B8]at hi;obtain⟨N,h⟩:=hi;obtain⟨it,L,e2⟩:=D6.mp h;rw[<-e2];exact⟨O i q.1 it N L,by simp⟩
   have z1:((us.zip (d.map λq=>[q.y,q.x])).map λq=>Value.ref q.1)=us.map Value.ref:=by
    show List.map (Value.ref ∘ Prod.fst) _=_;rw[<-L9];rw[List.map_fst_zip (by rw[B6,D];exact C0 _)]
   have zl:(us.zip (d.map λq=>[q.y,q.x])).length=d.length:=by rw[List.length_zip,B6,D,Nat.min_self]
   have z2:((us.zip (d.map λq=>[q.y,q.x])).map (·.2))=d.map λq=>[q.y,q.x]:=List.map_snd_zip (by rw[B6,D];exact C0 _);obtain⟨fs,k1,k2,k3⟩:=Rj g.hok B;rw[z1]at k1;refine Z3 (kat_kind (T:=.type "int") k1 (by rw[k2,zl];lia) (λv hv=>?_) Z ?_)
   .obtain⟨x,t,rfl⟩:=k3 v hv;exact .now
   have ad:(us.map Value.ref).toArray.size<=sizeLine:=by simp;lia
   refine Z3 (A1b (run_64 (ks:=us.map Value.ref) (vs:=d.map λq=>Value.ref q.a) (κ:=tuples' true) (rk:=Yk (d.map λq=>[q.y,q.x])) (Q:=λU G=>G={heap:=hp,gens:=gn,drawn:=dr,toks:=tk,os:=os}/\failedOf U=none/\∃p,Ch d.length p/\Up (Yk (d.map λq=>[q.y,q.x])) p d.length/\arrOf U=p.map (kas_item ((us.map Value.ref).toArray.zip (d.map λq=>Value.ref q.a).toArray))) lk (by rw[len];lia) (by rw[len];exact ae) ?_ λp U N h h3 h4=>⟨Z,h3,p,by rw[len]at N;exact N,by rw[len]at h;exact h,h4⟩) ?_ λ_ _ e=>e)
   .intro i j C hi hj cc;rw[len]at hi hj;obtain⟨b,o,av,m,L,e2,e3,e4,e5⟩:=VD g.hok B (i:=i) (by rw[zl];exact hi);obtain⟨b',o',aw,m',f1,f2,f3,f4,f5⟩:=VD g.hok B (i:=j) (by rw[zl];exact hj);rw[z1]at L f1;rw[z2]at e5 f5;unfold kas_ask;rw[L,f1];refine kat_lt e2 e4 f2 f4 ?_;rw[ZR (by rw[B6];exact hi)]at cc;have:=Wy (prog:=X.prog) (w:=X.w) (A:=A2) (b:=true) (i:=0) e5 f5 cc;have l1:=e5.length;have l2:=f5.length;rw[B6]at l1 l2;rw[D4,D4,<-l1,<-l2];exact this
   rintro⟨⟨⟩,U⟩ G ⟨rfl,hf,p,pn,up,ea⟩;dsimp only at hf ea⊢;have eo:=kat_snds lk ea;refine Wz (c:=c) g M l S hk ha eo hf (by simp only[D4,B6,P2,pn.sz];exact ln) ad λh' c' I5 h5=>fin p H' _ c' pn up I5 kp na h5
def Qq(out:List It3):Prop:=out.Pairwise λp q=>Cp [q.y,q.x] [p.y,p.x]=false
theorem Vj {Q:VK} (F:AN X.prog X.w X.K X.mg X.base CX0 k f fd ps Lx) (O:Ci X.K fd ps []) (hr:CM (k+2) X.A) (I:Inv X pins σ H s) {p:R_} {g:List It3} (W:SqL X.K H p (g.map λq=>V.ref q.a)) (D:∀q∈g,H q.a=some (.tup (q.ns.map V.int))) (v:g.length<64)
  (q:∀(L:R_)(out:List It3)(H':Hp),(∀b u,H b=some u->H' b=some u)->H' L=none->out.Perm g->Qq out->Q (.ref L) (upd H' L (.lst (out.map λq=>V.ref q.a)))) :
  wpAny (model X.prog X.w) X.A (call (.builtin "sorted") [.ref p] [("key",.ref f)]) (EP X pins σ Q) X.xe s:=by
 obtain⟨G,rv,pl,hz⟩:=I.list W;have ei:G=g.map λq=>Value.ref q.a:=by
  clear pl hz q W v D;induction g generalizing G with
  |nil=>cases rv;rfl
  |cons it g P =>
   cases rv with
   |cons a1 a2 =>
    cases(show _=Value.ref it.a from a1);rw[D9,P _ a2]
 subst ei;have len:(g.map λq=>Value.ref q.a).length=g.length:=B6 _;have S:g.length<=sizeLine:=C9 (S8 v) A4;refine PyProof.Rows.call_function_entry_kw kind_sorted plain_sorted entry_sorted (ksk_s1 _ _) ?_;unfold Builtin.«sorted»;refine Z3 (m:=checkCount "sorted" 1 1 _) (Z6 (Z3 (collect_list pl.isList (Z3 (wpAny_newList ?_ (by rw[len];exact S))) (by rw[len];exact S))));have N:((s.heap.push (seqObj "list" #[] 0)).update s.heap.objs.size (Obj.mapSeq (· ++ (g.map λq=>Value.ref q.a).toArray))).objs.size=s.heap.objs.size+1:=by
  rw[Heap.size_update];exact size_push' ..
 have t:(((s.heap.push (seqObj "list" #[] 0)).update s.heap.objs.size (Obj.mapSeq (· ++ (g.map λq=>Value.ref q.a).toArray))).push (seqObj "list" (g.map λq=>Value.ref q.a).toArray 0)).get? (s.heap.objs.size+1)=some (seqObj "list" (g.map λq=>Value.ref q.a).toArray 0):=by
  have:=D0 ((s.heap.push (seqObj "list" #[] 0)).update s.heap.objs.size (Obj.mapSeq (· ++ (g.map λq=>Value.ref q.a).toArray))) (show(seqObj "list" (g.map λq=>Value.ref q.a).toArray 0).isFreed=false from Z);rw[N]at this;exact this
 have B:∀b o,s.heap.get? b=some o->(((s.heap.push (seqObj "list" #[] 0)).update s.heap.objs.size (Obj.mapSeq (· ++ (g.map λq=>Value.ref q.a).toArray))).push (seqObj "list" (g.map λq=>Value.ref q.a).toArray 0)).get? b=some o:=λb o e =>
  B9 _ (by rw[P1 _ _ _ _ (F2 (D3 e))];exact B9 _ e)
 show wpAny (model X.prog X.w) _ _ _ _ {s with heap:=(((s.heap.push (seqObj "list" #[] 0)).update s.heap.objs.size (Obj.mapSeq (· ++ (g.map λq=>Value.ref q.a).toArray))).push (seqObj "list" (g.map λq=>Value.ref q.a).toArray 0))};rw[N];have T:Inv X pins σ H {s with heap:=(((s.heap.push (seqObj "list" #[] 0)).update s.heap.objs.size (Obj.mapSeq (· ++ (g.map λq=>Value.ref q.a).toArray))).push (seqObj "list" (g.map λq=>Value.ref q.a).toArray 0))}:=I.kept (t':=s.toks) B;have C:DC X pins H (s.heap.objs.size+1):=I.fpOk (S0 _) (I.hok.fresh (S0 _));generalize ((s.heap.push (seqObj "list" #[] 0)).update s.heap.objs.size (Obj.mapSeq (· ++ (g.map λq=>Value.ref q.a).toArray))).push (seqObj "list" (g.map λq=>Value.ref q.a).toArray 0)=h1 at t T⊢;refine Z3 (A1g (PyProof.Rows.wpAny_call_entry_kw slot_list_sort ⟨_,t,Z⟩ entry_list_sort ?_ (ksk_l1 _ _)));rw[ksk_t1];refine keyTreeB F O hr.in1.in1 (λs H e=>e.in1.in1) T t C D v λh H' s' c pn up I' kp na ha=>⟨_,Z,Z6 ⟨_,Z,?_⟩⟩
 have M:h.toList.Perm (List.range g.length):=by simpa using pn.pm.toList
 have sz:h.size=g.length:=pn.sz;have lt:∀i∈h.toList,i<g.length:=λi r=>by simpa using (M.mem_iff).mp r
 let d:It3:=⟨0,0,0,[]⟩
 have out:(h.toList.map λi=>g.getD i d).Perm g:=by
  refine(M.map _).trans ?_;refine List.Perm.of_eq (List.ext_getElem? λi=>?_);rw[B8];by_cases r:i<g.length
  .rw[N7 r,C5 r];show some (g.getD i d)=_;rw[C7,C5 r];rfl
  .rw[R9 (by simpa using r),R9 A0];rfl
 have rows:Qq (h.toList.map λi=>g.getD i d):=by
  refine List.pairwise_iff_getElem.mpr λi j r E ij=>?_;rw[B6,P2,sz]at r E;have u:=up i j (S8 ij) E;have gi:h.getD i 0=h[i]'A0:=by simp[Array.getD,sz,r]
  have gj:h.getD j 0=h[j]'A0:=by simp[Array.getD,sz,E]
  have Y:=lt _ (R0 (l:=h.toList) (n:=i) (by rw[P2];lia));have R:=lt _ (R0 (l:=h.toList) (n:=j) (by rw[P2];lia));rw[W6]at Y R;unfold kk at u;rw[gi,gj]at u;rw[V1,V1,W6,W6];generalize h[i]=a at *
  generalize h[j]=b at *
  have:=ZR (rows:=g.map λq=>[q.y,q.x]) (i:=b) (j:=a) (by rw[B6];exact R);rw[Z8 A0]at this;have gd:∀{c:Nat},c<g.length->(g.map λq=>[q.y,q.x]).getD c []=[(g.getD c d).y,(g.getD c d).x]:=λ{c} hc=>by
   rw[C7,B8,C7,C5 hc];rfl
  rw[gd R,gd Y]at this;exact this.symm
 refine⟨.ref (s.heap.objs.size+1),_,I'.track (o:=.lst ((h.toList.map λi=>g.getD i d).map λq=>V.ref q.a)) na (O7 (C9 I.sz (S0 _))) (O7 (C9 I.ok.bsz (C9 I.sz (S0 _)))) (X5 C.2.1) C.2.2.2.2.1 C.2.2.2.2.2 (λb O z=>C.2.2.1 (z▸O)) ⟨by rw[B6,B6,P2,sz];exact S,_,c,?_,ha⟩,Z,q (s.heap.objs.size+1) _ H' kp na out rows⟩;have:∀{l:J_},(∀i∈l,i<g.length)->AR ((l.map λi=>g.getD i d).map λq=>V.ref q.a) (l.map λi=>(g.map λq=>Value.ref q.a).getD i Value.none):=by
  intro l;induction l with
  |nil=>intro _;exact .nil
  |cons i l P =>
   intro U;refine .cons ?_ (P λj E=>U j (C4 _ E));have r:=U i (C2 ..);show Bd (V.ref (g.getD i d).a) ((g.map λq=>Value.ref q.a).getD i Value.none);rw[C7,C7,B8,C5 r];rfl
 exact this lt
def tSortB(K:O_)(t:TA):TE:=fun σ H Q=>t σ H λvs H1=>∃(p:R_)(items:List It3),vs=[.ref p]/\SqL K H1 p (items.map λq=>V.ref q.a)/\items.length<64/\(∀q∈items,H1 q.a=some (.tup (q.ns.map V.int)))/\∀(L:R_)(out:List It3)(H':Hp),(∀b u,H1 b=some u->H' b=some u)->H' L=none->out.Perm items->Qq out->Q (.ref L) (upd H' L (.lst (out.map λq=>V.ref q.a)))
theorem Pp{a:Str}{e:Expr}{t:TA}{p kp kpos pos:Pos}(c:Cal X.prog X.w X.K X.mg X.base CX0 k a ps Lx)(R:CM (k+2) X.A)(M:Gl X "sorted")(O:X.mg "sorted" = none)(g:Gl X a)(D:PA X [e] t)(G:(a==("__debug__" : Str))=false:=by decide)
  (L:backTo pos (starEach [e] X.env)=(false,eval e X.env)::backTo pos (starEach [] X.env):=by rfl) (l:(backTo pos (starEach [e] X.env)).any (·.1)=false:=by rfl):PE X (.Call (.Name "sorted" p) [e] [⟨some "key",.Name a kp,kpos⟩] pos) (tSortB X.K t):=by
 intro pins s σ H Q I h;obtain⟨f,fd,F,j,N,E⟩:=c.ex;refine A2d (JQ I M O PyProof.Rows.boot_sorted ?_);refine PyProof.Rows.callWith_kw (thn (D pos pins s σ H _ I h) λus W ⟨vs,n,u,U,T⟩=>?_) L l Z Z;obtain⟨S,m,rfl,P,d,i,q⟩:=T;refine thn (pk_cons (nm:=some "key") (kpos:=kpos) (pe_gref (pos:=kp) g j G) pk_nil pos pins W σ n (λr o=>r=[.ref f]/\o=n) u ⟨Z,Z⟩) λws Y ⟨r,o,v,V,B,C⟩=>?_;subst B;subst C;cases U with
 |cons x y =>
  cases y;cases(show _=Value.ref S from x);cases V with
  |cons z b2 =>
   cases b2;cases(show _=Value.ref f from z);exact Vj F E R v P i d q
end
end L2
namespace L2
open PySem PyProof.Rows
noncomputable def UQ(z:Str)(k:Nat):Str:=⟨List.foldl (λx y=>x++y) #[] (List.replicate k z.cps)⟩
theorem repS1(z:Str):UQ z 1=z:=by
 unfold UQ;show(⟨#[]++z.cps⟩:Str)=z;rw[Array.empty_append]
theorem ZT(a:Array Nat)(k:Nat):∀b:Array Nat,(List.foldl (λx y=>x++y) b (List.replicate k a)).size=b.size+k*a.size:=by
 induction k with
 |zero=>intro b;simp
 |succ k c =>
  intro b;rw[Q7,S5,c,Array.size_append,V5];lia
theorem Tn{z:Str}(h:z.length=1)(k:Nat):(UQ z k).length=k:=by
 have h:z.cps.size=1:=h;show(List.foldl (λx y=>x++y) #[] (List.replicate k z.cps)).size=k;rw[ZT,h];show 0+k*1=k;lia
section
variable{X:Cx}
def rMulN:R2:=λx y H Q=>∃(z:Str)(k:Nat),x=.str z/\y=.int (k:Int)/\z.length=1/\k<=100/\Q (.str (UQ z k)) H
theorem Wo:OpR X (binaryOp .Mult) rMulN:=by
 intro c s σ H x y v u Q I f g h;obtain⟨z,k,rfl,rfl,a,e,q⟩:=h;obtain⟨t,rfl⟩:=f;obtain⟨t',rfl⟩:=g;refine PySem.P.mul_str (by rw[Bool.or_eq_false_iff];exact⟨Z8 A0,Z8 A0⟩) (λb _=>?_) (λ_ _=>?_) ?_
 .rw[a];have:(1:Int)<=(2^63-1)/(k:Int):=(Int.le_ediv_iff_mul_le A0).mpr A0;lia
 .rw[a,Nat.one_mul,F4];unfold Builtin.Str.tooLong;have:k<=100:=e;have:(100:Nat)<=sizeLine:=by decide
  exact Z8 (by simp;lia)
 .by_cases d:k=0
  .subst d;rw[Z7 A4];exact⟨by decide,.str _,H,I.tok _,⟨_,Z⟩,q⟩
  .rw[Z4 A0];by_cases b:k=1
   .subst b;rw[Z7 A6];rw[repS1]at q;exact⟨.str _,H,I,⟨_,Z⟩,q⟩
   .rw[Z4 (by rw[a];simp;lia),F4];have j:=Tn a k;have i:(100:Nat)<=sizeLine:=by decide
    have le:(UQ z k).length<=sizeLine:=by lia
    exact⟨le,.str _,H,I.tok _,⟨_,Z⟩,q⟩
end
end L2
namespace J
open PySem L2
theorem asI{N P:K_}{c:Scope}(a:c.kind=.function:=by rfl)(b:c.isCoroutine=false:=by rfl)(d:c.isGenerator=false:=by rfl)(e:N.Nodup:=by decide +kernel)(f:N.take P.length=P:=by rfl)(g:∀x∈P,c.names.lookup x=some .local∨c.names.lookup x=some .cell:=by decide +kernel)(h:∀y∈c.names,y.2≠.free:=by decide +kernel):Ar N P c:=⟨a,b,d,e,f,g,h⟩
noncomputable def top(i:Nat):Stmt:=PySem.Challenge.pw_jumpfield_k57_whole_far_gliding.main.body.getD i (.Pass ⟨0,0,0,0⟩)
noncomputable abbrev LI:Stmt:=top 13
noncomputable abbrev UY:List Str:=["thing"]
theorem Th:Ar UY UY (Aj LI):=asI
noncomputable abbrev LJ:Stmt:=top 20
theorem Ti:Ar UY UY (Aj LJ):=asI
noncomputable abbrev RL:Stmt:=top 21
noncomputable abbrev dQ:List Str:=["wanted","state"]
theorem ZM:Ar dQ dQ (Aj RL):=asI
noncomputable abbrev EQ:Stmt:=top 25
noncomputable abbrev LB:List Str:=["text","words","cell","conditions"]
noncomputable abbrev Ig:List Str:=["text"]
theorem Ea:Ar LB Ig (Aj EQ):=asI
noncomputable abbrev IK:Stmt:=top 26
noncomputable abbrev RY:List Str:=["word"]
theorem Qw:Ar RY RY (Aj IK):=asI
noncomputable abbrev GU:Stmt:=top 27
theorem OV:Ar RY RY (Aj GU):=asI
noncomputable abbrev EA:Stmt:=top 28
theorem Mm:Ar RY RY (Aj EA):=asI
noncomputable abbrev FV:Stmt:=top 29
noncomputable abbrev PD:List Str:=["word","parts"]
theorem Jn:Ar PD RY (Aj FV):=asI
noncomputable abbrev FU:Stmt:=top 30
noncomputable abbrev PB:List Str:=["signs","numbers","sign"]
noncomputable abbrev Gg:List Str:=["signs"]
theorem Fn:Ar PB Gg (Aj FU):=asI
noncomputable abbrev EO:Stmt:=top 31
theorem OW:Ar RY RY (Aj EO):=asI
noncomputable abbrev GT:Stmt:=top 34
noncomputable abbrev QC:List Str:=["box","dx","dy"]
theorem OU:Ar QC QC (Aj GT):=asI
noncomputable abbrev CY:Stmt:=top 35
noncomputable abbrev Fj:List Str:=["boxes","left","top","right","bottom"]
noncomputable abbrev GM:List Str:=["boxes"]
theorem Eb:Ar Fj GM (Aj CY):=asI
noncomputable abbrev GV:Stmt:=top 40
noncomputable abbrev QE:List Str:=["box","limit"]
theorem OX:Ar QE QE (Aj GV):=asI
noncomputable abbrev LH:Stmt:=top 41
noncomputable abbrev UX:List Str:=["grove","field"]
theorem Tg:Ar UX UX (Aj LH):=asI
noncomputable abbrev IN:Stmt:=top 42
noncomputable abbrev Sb:List Str:=["grove"]
theorem Qx:Ar Sb Sb (Aj IN):=asI
noncomputable abbrev Nc:Stmt:=top 43
noncomputable abbrev YC:List Str:=["grove","square","level","parts","bare"]
noncomputable abbrev Lf:List Str:=["grove","square"]
theorem IG:Ar YC Lf (Aj Nc):=asI
noncomputable abbrev Nd:Stmt:=top 44
noncomputable abbrev YD:List Str:=["grove","square","kept"]
theorem LF:Ar YD Lf (Aj Nd):=asI
noncomputable abbrev GH:Stmt:=top 45
noncomputable abbrev NW:List Str:=["grove","square","inner"]
theorem Mo:Ar NW Lf (Aj GH):=asI
noncomputable abbrev EB:Stmt:=top 46
noncomputable abbrev NA:List Str:=["grove","square","bare","place","quarter","part_place","part"]
theorem BS:Ar NA Lf (Aj EB):=asI
noncomputable abbrev FT:Stmt:=top 47
noncomputable abbrev Pz:List Str:=["grove","field","box","wide"]
noncomputable abbrev En:List Str:=["grove","field","box"]
theorem Fl:Ar Pz En (Aj FT):=asI
noncomputable abbrev II:Stmt:=top 48
noncomputable abbrev RW:List Str:=["grove","field","level","wide"]
noncomputable abbrev IW:List Str:=["grove","field","level"]
theorem GR:Ar RW IW (Aj II):=asI
noncomputable abbrev Nf:Stmt:=top 49
noncomputable abbrev YE:List Str:=["grove","field","x","y","state","place","wide","half"]
noncomputable abbrev Np:List Str:=["grove","field","x","y","state"]
theorem IH:Ar YE Np (Aj Nf):=asI
noncomputable abbrev LG:Stmt:=top 50
noncomputable abbrev UW:List Str:=["grove","square","x","y","state","level","half","parts","place"]
noncomputable abbrev Gf:List Str:=["grove","square","x","y","state"]
theorem DR:Ar UW Gf (Aj LG):=asI
noncomputable abbrev LL:Stmt:=top 51
noncomputable abbrev Vb:List Str:=["grove","cells","field","cell"]
noncomputable abbrev LS:List Str:=["grove","cells"]
theorem GG:Ar Vb LS (Aj LL):=asI
noncomputable abbrev Nh:Stmt:=top 54
noncomputable abbrev YG:List Str:=["cell"]
theorem UL:Ar YG YG (Aj Nh):=asI
noncomputable abbrev LN:Stmt:=top 55
noncomputable abbrev Vd:List Str:=["grove","field","reach","cells"]
theorem Ju:Ar Vd UX (Aj LN):=asI
noncomputable abbrev FW:Stmt:=top 56
noncomputable abbrev PF:List Str:=["grove","square","left","top","cells","level","half","place","quarter"]
noncomputable abbrev Dc:List Str:=["grove","square","left","top","cells"]
theorem Cb:Ar PF Dc (Aj FW):=asI
noncomputable abbrev Pg:Stmt:=top 57
noncomputable abbrev dO:List Str:=["grove","field","box","reach"]
theorem Na:Ar dO UX (Aj Pg):=asI
noncomputable abbrev UP:Stmt:=top 59
noncomputable abbrev dW:List Str:=["jumps","field","n","tuples"]
noncomputable abbrev RP:List Str:=["jumps","field","n"]
theorem Wd:Ar dW RP (Aj UP):=asI
noncomputable abbrev UN:Stmt:=top 60
noncomputable abbrev dU:List Str:=["jumps","field","n","grove","told","here","rest","e","square","result"]
theorem DZ:Ar dU RP (Aj UN):=asI
noncomputable abbrev IM:Stmt:=top 61
noncomputable abbrev Sa:List Str:=["grove","field","n","box"]
noncomputable abbrev Ja:List Str:=["grove","field","n"]
theorem Ly:Ar Sa Ja (Aj IM):=asI
noncomputable abbrev Jx:Stmt:=top 62
noncomputable abbrev TF:List Str:=["grove","field","e","reach","level"]
noncomputable abbrev JF:List Str:=["grove","field","e"]
theorem Fy:Ar TF JF (Aj Jx):=asI
noncomputable abbrev Pf:Stmt:=top 64
noncomputable abbrev dM:List Str:=["grove","field","box","state","has_places","wide","solid"]
noncomputable abbrev Ps:List Str:=["grove","field","box","state"]
theorem Lb:Ar dM Ps (Aj Pf):=asI
noncomputable abbrev Jy:Stmt:=top 65
noncomputable abbrev TH:List Str:=["box"]
theorem RI:Ar TH TH (Aj Jy):=asI
noncomputable abbrev Ng:Stmt:=top 66
noncomputable abbrev YF:List Str:=["grove","field","box","reach","left","top","size"]
theorem FQ:Ar YF En (Aj Ng):=asI
noncomputable abbrev OB:Stmt:=top 67
noncomputable abbrev dR:List Str:=["grove","inner","outer","part","known","size","key","square"]
noncomputable abbrev Lg:List Str:=["grove","inner","outer","part","known"]
theorem Iy:Ar dR Lg (Aj OB):=asI
noncomputable abbrev Dj:Stmt:=top 68
noncomputable abbrev Nz:List Str:=["grove","key","half","known","inners","outers","part","columns","rows","made","place","column","row","quarter_part"]
noncomputable abbrev Dp:List Str:=["grove","key","half","known"]
theorem AT:Ar Nz Dp (Aj Dj):=asI
noncomputable abbrev Fo:Stmt:=top 69
noncomputable abbrev Oh:List Str:=["start","stop","half"]
theorem MZ:Ar Oh Oh (Aj Fo):=asI
noncomputable abbrev FX:Stmt:=top 73
theorem Ob:Ar Ig Ig (Aj FX):=asI
noncomputable abbrev Jw:Stmt:=top 74
noncomputable abbrev TD:List Str:=["text","rule"]
theorem Ml:Ar TD Ig (Aj Jw):=asI
noncomputable abbrev LM:Stmt:=top 75
noncomputable abbrev Vc:List Str:=["rule","cell","around","number","clause"]
noncomputable abbrev LT:List Str:=["rule","cell","around"]
theorem Jt:Ar Vc LT (Aj LM):=asI
noncomputable abbrev Ni:Stmt:=top 76
noncomputable abbrev YH:List Str:=["rule","cell","around","number"]
theorem OY:Ar YH LT (Aj Ni):=asI
noncomputable abbrev IJ:Stmt:=top 77
noncomputable abbrev RX:List Str:=["rule"]
theorem Qv:Ar RX RX (Aj IJ):=asI
noncomputable abbrev IL:Stmt:=top 80
noncomputable abbrev RZ:List Str:=["grove","square","parts","a","b","c","d"]
theorem CD:Ar RZ Lf (Aj IL):=asI
noncomputable abbrev LK:Stmt:=top 81
noncomputable abbrev Va:List Str:=["nine"]
theorem Tj:Ar Va Va (Aj LK):=asI
noncomputable abbrev Dw:Stmt:=top 82
noncomputable abbrev Lu:List Str:=["grove","four","parts"]
noncomputable abbrev Cm:List Str:=["grove","four"]
theorem Fb:Ar Lu Cm (Aj Dw):=asI
noncomputable abbrev Nj:Stmt:=top 85
noncomputable abbrev YI:List Str:=["_law_script","_law_k"]
theorem UM:Ar YI YI (Aj Nj):=asI
noncomputable abbrev ER:Stmt:=top 86
noncomputable abbrev LC:List Str:=["_law_script","_law_first"]
theorem OZ:Ar LC LC (Aj ER):=asI
noncomputable abbrev Ei:Stmt:=top 87
noncomputable abbrev ME:List Str:=["_law_made","_law_way","_law_parts","_law_state","_law_word"]
noncomputable abbrev CP:List Str:=["_law_made","_law_way"]
theorem Ct:Ar ME CP (Aj Ei):=asI
noncomputable abbrev GW:Stmt:=top 88
noncomputable abbrev QF:List Str:=["_law_way","_law_some"]
noncomputable abbrev EV:List Str:=["_law_way"]
theorem Jv:Ar QF EV (Aj GW):=asI
noncomputable abbrev Dz:Stmt:=top 89
noncomputable abbrev Iq:List Str:=["_law_made","_law_n","_law_done"]
noncomputable abbrev EW:List Str:=["_law_made","_law_n"]
theorem CV:Ar Iq EW (Aj Dz):=asI
noncomputable abbrev GY:Stmt:=top 90
noncomputable abbrev QH:List Str:=["_law_made","_law_way","_law_states","_law_n","_law_done","_law_step","_law_found","_law_place"]
noncomputable abbrev Ij:List Str:=["_law_made","_law_way","_law_states","_law_n"]
theorem CW:Ar QH Ij (Aj GY):=asI
noncomputable abbrev FY:Stmt:=top 91
noncomputable abbrev PJ:List Str:=["_law_cell"]
theorem Oc:Ar PJ PJ (Aj FY):=asI
noncomputable abbrev GX:Stmt:=top 92
noncomputable abbrev QG:List Str:=["_law_states","_law_some","_law_place"]
noncomputable abbrev Ii:List Str:=["_law_states"]
theorem FR:Ar QG Ii (Aj GX):=asI
noncomputable abbrev JA:Stmt:=top 93
theorem RJ:Ar PJ PJ (Aj JA):=asI
noncomputable abbrev Jz:Stmt:=top 94
noncomputable abbrev TJ:List Str:=["_law_script","_law_first","_law_many","_law_left","_law_top","_law_states","_law_k","_law_value","_law_at_here"]
noncomputable abbrev JH:List Str:=["_law_script","_law_first","_law_many","_law_left","_law_top"]
theorem Ed:Ar TJ JH (Aj Jz):=asI
noncomputable abbrev IO:Stmt:=top 95
noncomputable abbrev Sc:List Str:=["_law_found","_law_due","_law_k","_law_number"]
noncomputable abbrev Jb:List Str:=["_law_found","_law_due"]
theorem GS:Ar Sc Jb (Aj IO):=asI
noncomputable abbrev EC:Stmt:=top 96
noncomputable abbrev NB:List Str:=["_law_script","_law_made","_law_way","_law_n","_law_left","_law_top","_law_wide","_law_high","_law_state","_law_step","_law_grove","_law_jumps","_law_none","_law_field","_law_many","_law_box","_law_found"]
noncomputable abbrev EI:List Str:=["_law_script","_law_made","_law_way"]
theorem AL:Ar NB EI (Aj EC):=asI
noncomputable abbrev ZN:Stmt:=top 97
noncomputable abbrev n_law:List Str:=["_law_script","_law_made","_law_way","_law_n","_law_many","_law_states","_law_grove","_law_jumps","_law_field","_law_found","_law_then"]
noncomputable abbrev p_law:List Str:=["_law_script"]
theorem Ec:Ar n_law p_law (Aj ZN):=asI
noncomputable abbrev Gb:Stmt:=Bb (top 22) 0
noncomputable abbrev PN:List Str:=["self","state","numbers"]
theorem Og:Ar PN PN (Aj Gb):=asI
noncomputable abbrev Fp:Stmt:=Bb (top 22) 1
noncomputable abbrev Ol:List Str:=["self","around"]
theorem Nb:Ar Ol Ol (Aj Fp):=asI
noncomputable abbrev GZ:Stmt:=Bb (top 23) 0
noncomputable abbrev QI:List Str:=["self","wanted"]
theorem Pa:Ar QI QI (Aj GZ):=asI
noncomputable abbrev Ej:Stmt:=Bb (top 23) 1
theorem Od:Ar Ol Ol (Aj Ej):=asI
noncomputable abbrev Ic:Stmt:=Bb (top 24) 0
noncomputable abbrev QM:List Str:=["self","cell","conditions","makes"]
theorem Pc:Ar QM QM (Aj Ic):=asI
noncomputable abbrev ET:Stmt:=Bb (top 24) 1
noncomputable abbrev LD:List Str:=["self","cell","around"]
theorem Pe:Ar LD LD (Aj ET):=asI
noncomputable abbrev IT:Stmt:=Bb (top 36) 0
noncomputable abbrev Sh:List Str:=["self","state","level","bare"]
noncomputable abbrev FD:List Str:=["self"]
theorem EN:Ar Sh FD (Aj IT):=asI
noncomputable abbrev IS:Stmt:=Bb (top 36) 1
noncomputable abbrev Sg:List Str:=["self","parts","level","number"]
noncomputable abbrev FC:List Str:=["self","parts","level"]
theorem Lz:Ar Sg FC (Aj IS):=asI
noncomputable abbrev Ga:Stmt:=Bb (top 36) 2
noncomputable abbrev PM:List Str:=["self","parts","number"]
noncomputable abbrev AU:List Str:=["self","parts"]
theorem Jp:Ar PM AU (Aj Ga):=asI
noncomputable abbrev Da:Stmt:=Bb (top 36) 3
noncomputable abbrev JP:List Str:=["self","square"]
theorem Jr:Ar JP JP (Aj Da):=asI
noncomputable abbrev IR:Stmt:=Bb (top 36) 4
noncomputable abbrev Sf:List Str:=["self","state"]
theorem QA:Ar Sf Sf (Aj IR):=asI
noncomputable abbrev Ib:Stmt:=Bb (top 36) 6
noncomputable abbrev QK:List Str:=["self","level","state","square","below"]
noncomputable abbrev EX:List Str:=["self","level","state"]
theorem Eg:Ar QK EX (Aj Ib):=asI
noncomputable abbrev EE:Stmt:=Bb (top 36) 7
theorem Mr:Ar JP JP (Aj EE):=asI
noncomputable abbrev ED:Stmt:=Bb (top 36) 9
theorem Mq:Ar JP JP (Aj ED):=asI
noncomputable abbrev FZ:Stmt:=Bb (top 36) 10
theorem Oe:Ar JP JP (Aj FZ):=asI
noncomputable abbrev DD:Stmt:=Bb (top 36) 11
noncomputable abbrev Jq:List Str:=["self","square","amount"]
theorem Di:Ar Jq JP (Aj DD):=asI
noncomputable abbrev IQ:Stmt:=Bb (top 36) 12
theorem Qz:Ar JP JP (Aj IQ):=asI
noncomputable abbrev ES:Stmt:=Bb (top 36) 13
noncomputable abbrev QL:List Str:=["self","square","box"]
theorem Eh:Ar QL JP (Aj ES):=asI
noncomputable abbrev Dl:Stmt:=Bb (top 36) 14
noncomputable abbrev NF:List Str:=["self","square","level","half","boxes","place","quarter","box"]
theorem BB:Ar NF JP (Aj Dl):=asI
noncomputable abbrev GI:Stmt:=Bb (top 72) 0
noncomputable abbrev NX:List Str:=["self","text"]
theorem RK:Ar NX NX (Aj GI):=asI
noncomputable abbrev IP:Stmt:=Bb (top 83) 0
noncomputable abbrev Sd:List Str:=["self","grove","rule"]
theorem Qy:Ar Sd Sd (Aj IP):=asI
noncomputable abbrev Ek:Stmt:=Bb (top 83) 1
noncomputable abbrev JO:List Str:=["self","rule","text"]
noncomputable abbrev Go:List Str:=["self","rule"]
theorem Jo:Ar JO Go (Aj Ek):=asI
noncomputable abbrev Ia:Stmt:=Bb (top 83) 2
noncomputable abbrev QJ:List Str:=["self","square","e"]
theorem Pb:Ar QJ QJ (Aj Ia):=asI
noncomputable abbrev DJ:Stmt:=Bb (top 83) 3
noncomputable abbrev LV:List Str:=["self","square","e","level"]
theorem Fu:Ar LV QJ (Aj DJ):=asI
noncomputable abbrev Dk:Stmt:=Bb (top 83) 4
noncomputable abbrev NC:List Str:=["self","square","e","result"]
theorem Ee:Ar NC QJ (Aj Dk):=asI
noncomputable abbrev Cf:Stmt:=Bb (top 83) 5
noncomputable abbrev EY:List Str:=["self","square","e","grove","level","nine"]
theorem Ef:Ar EY QJ (Aj Cf):=asI
noncomputable abbrev Bq:Stmt:=Bb (top 83) 6
noncomputable abbrev Df:List Str:=["self","square","e","nine"]
theorem Ex:Ar Df QJ (Aj Bq):=asI
noncomputable abbrev CZ:Stmt:=Bb (top 83) 7
noncomputable abbrev JN:List Str:=["self","square","parts","a","b","c","d"]
theorem Bl:Ar JN JP (Aj CZ):=asI
noncomputable abbrev Cu:Stmt:=Bb (top 83) 8
noncomputable abbrev Gs:List Str:=["self","leaves","leaf","states"]
noncomputable abbrev DN:List Str:=["self","leaves"]
theorem Cj:Ar Gs DN (Aj Cu):=asI
structure Ad where
c_Amounts:Addr
c_Places:Addr
c_Clause:Addr
c_Grove:Addr
c_Rule:Addr
c_Jumps:Addr
structure Top(K:O_)(mg:C_)(a:Ad):Prop where
b_all:mg "all" = none
b_bool:mg "bool" = none
b_enumerate:mg "enumerate" = none
b_int:mg "int" = none
b_isinstance:mg "isinstance" = none
b_len:mg "len" = none
b_list:mg "list" = none
b_max:mg "max" = none
b_min:mg "min" = none
b_range:mg "range" = none
b_sorted:mg "sorted" = none
b_str:mg "str" = none
b_sum:mg "sum" = none
b_tuple:mg "tuple" = none
b_zip:mg "zip" = none
k_STATES:∃t,mg "STATES" = some (.int 8 t)
k_NEIGHBOURS:∃t,mg "NEIGHBOURS" = some (.int 8 t)
k_STATE_FIGURES:∃t,mg "STATE_FIGURES" = some (.str (Str.ofString "01234567") t)
k_AMOUNT_FIGURES:∃t,mg "AMOUNT_FIGURES" = some (.str (Str.ofString "012345678") t)
k_ANY_SIGN:∃t,mg "ANY_SIGN" = some (.str (Str.ofString "*") t)
k_TOP_LEVEL:∃t,mg "TOP_LEVEL" = some (.int 48 t)
k_LIMIT:∃t,mg "LIMIT" = some (.int 1099511627776 t)
k_LEAST_LEVEL:∃t,mg "LEAST_LEVEL" = some (.int 1 t)
k_MOST_CELLS:∃t,mg "MOST_CELLS" = some (.int 4096 t)
k_CLAUSE_MARK:∃t,mg "CLAUSE_MARK" = some (.str (Str.ofString "; ") t)
k_LEAST_JUMPED:∃t,mg "LEAST_JUMPED" = some (.int 2 t)
m_Amounts:mg "Amounts" = some (.ref a.c_Amounts)
cl_Amounts:Cls K a.c_Amounts
na_Amounts_state:BN K a.c_Amounts "state"
na_Amounts_numbers:BN K a.c_Amounts "numbers"
m_Places:mg "Places" = some (.ref a.c_Places)
cl_Places:Cls K a.c_Places
na_Places_wanted:BN K a.c_Places "wanted"
m_Clause:mg "Clause" = some (.ref a.c_Clause)
cl_Clause:Cls K a.c_Clause
na_Clause_cell:BN K a.c_Clause "cell"
na_Clause_conditions:BN K a.c_Clause "conditions"
na_Clause_makes:BN K a.c_Clause "makes"
m_Grove:mg "Grove" = some (.ref a.c_Grove)
cl_Grove:Cls K a.c_Grove
na_Grove_levels:BN K a.c_Grove "levels"
na_Grove_parts:BN K a.c_Grove "parts"
na_Grove_numbers:BN K a.c_Grove "numbers"
na_Grove_bares:BN K a.c_Grove "bares"
na_Grove_amounts:BN K a.c_Grove "amounts"
na_Grove_boxes:BN K a.c_Grove "boxes"
m_Rule:mg "Rule" = some (.ref a.c_Rule)
cl_Rule:Cls K a.c_Rule
na_Rule_text:BN K a.c_Rule "text"
na_Rule_clauses:BN K a.c_Rule "clauses"
m_Jumps:mg "Jumps" = some (.ref a.c_Jumps)
cl_Jumps:Cls K a.c_Jumps
na_Jumps_grove:BN K a.c_Jumps "grove"
na_Jumps_memories:BN K a.c_Jumps "memories"
na_Jumps_rule:BN K a.c_Jumps "rule"
na_Jumps_known_squares:BN K a.c_Jumps "known_squares"
na_Jumps_known_cells:BN K a.c_Jumps "known_cells"
seal L2.PA L2.PE L2.PS L2.PSs L2.PT L2.PW
inductive BF where
|am (s:Int) (ns:I_)
|pl (ws:List (Option Int))
structure Be where
cell:Option Int
conds:List BF
makes:Int
abbrev AI:=List Be
noncomputable def Ip:Option Int->V
|none=>.non
|some i=>.int i
noncomputable def CJ(w:Option Int)(s:Int):Bool:=match w with
|none=>true
|some i=>decide (i=s)
noncomputable def BF.holds(ar:I_):BF->Bool
|.am s ns=>ns.any λn=>decide (n=((ar.countP (· == s):Nat):Int))
|.pl ws=>(ws.zip ar).all λp=>CJ p.1 p.2
noncomputable def Be.fits(cell:Int)(ar:I_)(c:Be):Bool:=CJ c.cell cell && c.conds.all (BF.holds ar)
noncomputable def On(r:AI)(cell:Int)(ar:I_):Option Nat:=r.findIdx? (Be.fits cell ar)
noncomputable def Du(r:AI)(cell:Int)(ar:I_):Int:=match r.find? (Be.fits cell ar)with
|none=>cell
|some c=>c.makes
noncomputable def fl1(f:Str)(a:V):List (Str×V):=AW f a []
noncomputable def fl2(f g:Str)(a b:V):List (Str×V):=AW g b (AW f a [])
noncomputable def fl3(f g h:Str)(a b c:V):List (Str×V):=AW h c (AW g b (AW f a []))
theorem fl1_1{f:Str}{a:V}:(fl1 f a).lookup f=some a:=by unfold fl1;rw[An,Z7 rfl]
theorem Sy{f m:Str}{a:V}(h:¬m=f):(fl1 f a).lookup m=none:=by unfold fl1;rw[An,Z4 h];rfl
theorem fl2_1{f g:Str}{a b:V}(h:¬f=g):(fl2 f g a b).lookup f=some a:=by unfold fl2;rw[An,Z4 h,An,Z7 rfl]
theorem fl2_2{f g:Str}{a b:V}:(fl2 f g a b).lookup g=some b:=by unfold fl2;rw[An,Z7 rfl]
theorem fl2_no{f g m:Str}{a b:V}(c:¬m=f)(d:¬m=g):(fl2 f g a b).lookup m=none:=by unfold fl2;rw[An,Z4 d,An,Z4 c];rfl
theorem fl3_1{f g h:Str}{a b c:V}(d:¬f=g)(e:¬f=h):(fl3 f g h a b c).lookup f=some a:=by unfold fl3;rw[An,Z4 e,An,Z4 d,An,Z7 rfl]
theorem fl3_2{f g h:Str}{a b c:V}(d:¬g=h):(fl3 f g h a b c).lookup g=some b:=by unfold fl3;rw[An,Z4 d,An,Z7 rfl]
theorem fl3_3{f g h:Str}{a b c:V}:(fl3 f g h a b c).lookup h=some c:=by unfold fl3;rw[An,Z7 rfl]
theorem fl3_no{f g h m:Str}{a b c:V}(d:¬m=f)(e:¬m=g)(i:¬m=h):(fl3 f g h a b c).lookup m=none:=by unfold fl3;rw[An,Z4 i,An,Z4 e,An,Z4 d];rfl
theorem Tq(f:Str)(v:V):∀l:List (Str×V),(AW f v l).length<=l.length+1
|[]=>C0 _
| (g,w)::r=>by
 unfold AW;split
 .exact S0 _
 .rw[F0,F0];exact Q8 (Tq f v r)
theorem AH{H:Hp}{p:R_}{o:HO}(h:H p=none):Ay H (upd H p o):=λb u e=>by
 rw[As (Av e h)];exact e
theorem alc{H a:Hp}{p:R_}{o:HO}(h:H p=none)(e:upd H p o=a):Ay H a/\a p=some o:=e▸⟨AH h,Ag⟩
inductive Dy(a:Ad)(H:Hp):Addr->BF->Prop where
|am {p t dx:R_} {s:Int} {ns:I_} (h:H p=some (.ins a.c_Amounts dx (fl2 "state" "numbers" (.int s) (.ref t)))) (ht:H t=some (.tup (ns.map V.int))):Dy a H p (.am s ns)
|pl {p t dx:R_} {ws:List (Option Int)} (h:H p=some (.ins a.c_Places dx (fl1 "wanted" (.ref t)))) (ht:H t=some (.tup (ws.map Ip))):Dy a H p (.pl ws)
structure BZ(a:Ad)(H:Hp)(p:R_)(c:Be):Prop where
ex:∃(dx t:R_)(cs:H_),H p=some (.ins a.c_Clause dx (fl3 "cell" "conditions" "makes" (Ip c.cell) (.ref t) (.int c.makes)))/\H t=some (.tup (cs.map V.ref))/\Paired (Dy a H) cs c.conds
structure Cy(a:Ad)(H:Hp)(p:R_)(x:Str)(r:AI):Prop where
ex:∃(dx t:R_)(cs:H_),H p=some (.ins a.c_Rule dx (fl2 "text" "clauses" (.str x) (.ref t)))/\H t=some (.tup (cs.map V.ref))/\Paired (BZ a H) cs r
theorem Paired.imp{α β:Type}{F G:α->β->Prop}(h:∀x y,F x y->G x y):∀{l:List α}{m:List β},Paired F l m->Paired G l m
|_,_,.nil=>.nil
|_,_,.cons r t=>.cons (h _ _ r) (Paired.imp h t)
theorem Paired.get{α β:Type}{F:α->β->Prop}:∀{l:List α}{m:List β}{i:Nat}{x:α},Paired F l m->l[i]?=some x->∃y,m[i]?=some y/\F x y
|_,_,_,_,.nil,e=>by simp at e
|_,_,0,_,.cons r _,e=>by simp at e;subst e;exact⟨_,Z,r⟩
|_,_,i+1,x,.cons _ t,e=>by
 obtain⟨y,a,b⟩:=Paired.get (i:=i) (x:=x) t (by simpa using e);exact⟨y,by simpa using a,b⟩
theorem Dy.same{a:Ad}{H d:Hp}{p:R_}{c:BF}(s:Ay H d)(h:Dy a H p c):Dy a d p c:=by
 cases h with
 |am h b=>exact .am (s _ _ h) (s _ _ b)
 |pl h b=>exact .pl (s _ _ h) (s _ _ b)
theorem BZ.same{a:Ad}{H b:Hp}{p:R_}{c:Be}(s:Ay H b)(h:BZ a H p c):BZ a b p c:=by
 obtain⟨dx,t,cs,d,e,f⟩:=h.ex;exact⟨dx,t,cs,s _ _ d,s _ _ e,Paired.imp (λ_ _ z=>z.same s) f⟩
theorem Cy.same{a:Ad}{H b:Hp}{p:R_}{x:Str}{r:AI}(s:Ay H b)(h:Cy a H p x r):Cy a b p x r:=by
 obtain⟨dx,t,cs,c,d,e⟩:=h.ex;exact⟨dx,t,cs,s _ _ c,s _ _ d,Paired.imp (λ_ _ z=>z.same s) e⟩
theorem in_ints(n:Int)(ns:I_):inV (.int n) (ns.map V.int)=ns.any λm=>decide (m=n):=by
 unfold inV;rw[List.any_map];congr 1
theorem YY(ns:I_):(ns.map V.int).all MO=true:=by
 rw[List.all_map];exact T3.mpr λ_ _=>Z
theorem OJ(i j:Int):decide (V.int i=V.int j)=decide (i=j):=by
 by_cases h:i=j
 .rw[Z5 h,Z5 (by rw[h])]
 .rw[Z8 h,Z8 λz=>h (by injection z)]
section
variable{P:N_}{w:Q_}{K:O_}{mg:C_}{base:T_}{a:Ad}
inductive WO(vs:List V)(H:Hp)(Q:VK):Prop
|mk (x:Option Int) (s:Int) (_:vs=[Ip x,.int s]) (_:Q (.bl (CJ x s)) H):WO vs H Q
def Ot:Sp:=λvs H Q _=>WO vs H Q
theorem ok_takes(F:Fun K "takes" "takes" RL f fd):AN P w K mg base CX0 1 f fd dQ Ot:=by
 refine F.ok ZM D_9 λc A b s H vs Q E d h=>?_
 obtain⟨x,s,rfl,k⟩:=h;refine⟨_,(Af (Au (pe_or (Em Je (pv 0) DK (AD _)) (LR (Em De (pv 0) (pv 1) (AD _)))))),?_⟩
 try dsimp only[cxK]
 refine xq1 Z ⟨Z,(xq1 Z ?_)⟩;cases x with
 |none=>exact Cg k
 |some i =>
  have e:decide (Ip (some i)=V.int s)=CJ (some i) s:=OJ i s;rw[<-e]at k;exact AX (xw2 Z Z ⟨Z,k⟩)
inductive Ux(a:Ad)(vs:List V)(H:Hp)(Q:VK):Prop
|mk (p t dx:R_) (s:Int) (_:vs=[.ref p,.int s,.ref t]) (_:H p=some (.ins a.c_Amounts dx [])) (_:Q .non (upd H p (.ins a.c_Amounts dx (fl2 "state" "numbers" (.int s) (.ref t))))):Ux a vs H Q
def OT(a:Ad):Sp:=λvs H Q _=>Ux a vs H Q
theorem Yw(F:Fun K "__init__" "Amounts.__init__" Gb f fd)(T:Top K mg a):AN P w K mg base CX0 1 f fd PN (OT a):=by
 refine F.ok Og D_9 λc A b s H vs Q E e h=>?_
 obtain⟨p,t,dx,s,rfl,d,k⟩:=h;refine⟨_,(Ab (Cv (pv 0) (pv 1) Z) (Af (Cv (pv 0) (pv 2) Z))),?_⟩
 try dsimp only[cxK]
 refine xw2 Z Z ⟨p,_,dx,[],Z,d,T.cl_Amounts,T.na_Amounts_state,B2,(xw2 Z Z ⟨p,_,dx,(xq1 Z ⟨Ag,T.cl_Amounts,T.na_Amounts_numbers,B3,?_⟩)⟩)⟩;rw[IF];exact k
inductive Uv(a:Ad)(vs:List V)(H:Hp)(Q:VK):Prop
|mk (p t dx:R_) (_:vs=[.ref p,.ref t]) (_:H p=some (.ins a.c_Places dx [])) (_:Q .non (upd H p (.ins a.c_Places dx (fl1 "wanted" (.ref t))))):Uv a vs H Q
def OP(a:Ad):Sp:=λvs H Q _=>Uv a vs H Q
theorem Yu(F:Fun K "__init__" "Places.__init__" GZ f fd)(T:Top K mg a):AN P w K mg base CX0 1 f fd QI (OP a):=by
 refine F.ok Pa D_9 λc A b s H vs Q E e h=>?_
 obtain⟨p,t,dx,rfl,d,k⟩:=h;refine⟨_,(Af (Cv (pv 0) (pv 1) Z)),?_⟩
 try dsimp only[cxK]
 exact xw2 Z Z ⟨p,_,dx,[],Z,d,T.cl_Places,T.na_Places_wanted,B2,k⟩
inductive Uw(a:Ad)(vs:List V)(H:Hp)(Q:VK):Prop
|mk (p t dx:R_) (c:Option Int) (m:Int) (_:vs=[.ref p,Ip c,.ref t,.int m]) (_:H p=some (.ins a.c_Clause dx [])) (_:Q .non (upd H p (.ins a.c_Clause dx (fl3 "cell" "conditions" "makes" (Ip c) (.ref t) (.int m))))):Uw a vs H Q
def OS(a:Ad):Sp:=λvs H Q _=>Uw a vs H Q
theorem Yv(F:Fun K "__init__" "Clause.__init__" Ic f fd)(T:Top K mg a):AN P w K mg base CX0 1 f fd QM (OS a):=by
 refine F.ok Pc D_9 λd A b s H vs Q E g h=>?_
 obtain⟨p,t,dx,c,m,rfl,e,k⟩:=h;refine⟨_,(Ab (Cv (pv 0) (pv 1) Z) (Ab (Cv (pv 0) (pv 2) Z) (Af (Cv (pv 0) (pv 3) Z)))),?_⟩
 try dsimp only[cxK]
 refine⟨_,Z,_,Z,p,_,dx,[],Z,e,T.cl_Clause,T.na_Clause_cell,B2,_,Z,_,Z,p,_,dx,_,Z,Ag,T.cl_Clause,T.na_Clause_conditions,B3,_,Z,_,Z,p,_,dx,_,Z,Ag,T.cl_Clause,T.na_Clause_makes,
  J8 (Tq _ _ _) (by show 2<1000;decide),?_⟩
 rw[IF,IF];exact k
def MY(a:Ad):Sp:=λvs H Q E=>(∃(p l t dx:R_)(s:Int)(ns ar:I_),vs=[.ref p,.ref l]/\H p=some (.ins a.c_Amounts dx (fl2 "state" "numbers" (.int s) (.ref t)))/\H t=some (.tup (ns.map V.int))/\H l=some (.lst (ar.map V.int))/\Q (.bl (BF.holds ar (.am s ns))) H)
theorem UU(F:Fun K "holds" "Amounts.holds" Fp f fd)(T:Top K mg a):AN P w K mg base CX0 1 f fd Ol (MY a):=by
 refine F.ok Nb (λvs H Q E h=>?_) (λg A b s H vs Q E j h=>?_)
 .obtain⟨p,l,t,dx,s,ns,c,rfl,_⟩:=h;rfl
 .obtain⟨p,l,t,dx,s,ns,c,rfl,e,i,d,k⟩:=h;refine⟨_,(Af (Au (Em Yr (Fe K2 PySem.F.slot_list_count PySem.F.type_list_count mt_count (pv 1) (Aa (AB (pv 0) Z) Ac)) (AB (pv 0) Z) Z))),?_⟩
  try dsimp only[cxK]
  refine xq1 Z ⟨.inl ⟨Z,_,SqL.of d⟩,(xwf Z Z e T.cl_Amounts T.na_Amounts_state (fl2_1 A1) ⟨l,c,s,Z,Z,d,(xwf Z Z e T.cl_Amounts T.na_Amounts_numbers fl2_2 ⟨t,(xq1 Z ⟨.inr (SqT.of i),Z,YY ns,?_⟩)⟩)⟩)⟩;show Q (.bl (inV _ _)) H;rw[in_ints];exact k
inductive Ry(a:Ad)(vs:List V)(H:Hp)(Q:VK):Prop
|mk (p l t dx:R_) (ws:List (Option Int)) (ar:I_) (_:vs=[.ref p,.ref l]) (_:H p=some (.ins a.c_Places dx (fl1 "wanted" (.ref t)))) (_:H t=some (.tup (ws.map Ip))) (_:H l=some (.lst (ar.map V.int))) (_:ws.length<=100) (_:∀H',Ay H H'->Q (.bl (BF.holds ar (.pl ws))) H'):Ry a vs H Q
def MX(a:Ad):Sp:=λvs H Q _=>Ry a vs H Q
theorem UT(F:Fun K "holds" "Places.holds" Ej f fd)(T:Top K mg a)(D:Cal P w K mg base CX0 1 "takes" dQ Ot):AN P w K mg base CX0 2 f fd Ol (MX a):=by
 refine F.ok Od D_9 λG A n s H vs Q E R h=>?_
 obtain⟨p,l,t,dx,b,d,rfl,O,v,u,S,k⟩:=h;refine⟨_,(Af (Au (AJ (Uq Z) Z T.b_all PyProof.Rows.boot_all (Aa (Ck Z (BK.of (So:=Aj Ej) (No:=Ol) (N:=["one","state"]) (k:=2) (cs:=[]) Z Z A1) (pi_zip true false Z T.b_zip (Aa (AB (pv 0) Z) (Aa (pv 1) Ac))) (λ_ _ _=>(pgc_pair (i:=0) (j:=1) Z A1 Z Z Z Z)) (λ_ _ _=>BP) (λ_ _ _=>(Aq D (rm R) Z Am (Aa (pv 0) (Aa (pv 1) Ac))))) Ac)))),?_⟩
 try dsimp only[cxK]
 refine xwf Z Z O T.cl_Places T.na_Places_wanted fl1_1 (xq1 Z ⟨t,l,Z,⟨_,SqT.of v⟩,⟨_,SqL.of u⟩,?_⟩);refine blk_zip (xs:=b.map Ip) (ys:=d.map V.int) (λi c g=>Ay H g/\c=(((b.zip d).take i).map λp=>V.bl (CJ p.1 p.2))) ⟨Ay.refl H,Z⟩ (λi c g z=>⟨SqT.of (z.1 _ _ v),SqL.of (z.1 _ _ u)⟩) ?_ ?_
 .rintro i x y c g X B C ⟨r,rfl⟩ U;rw[B8]at B C;obtain⟨o,L,rfl⟩:=D6.mp B;obtain⟨m,I,rfl⟩:=D6.mp C;have M:(b.zip d)[i]?=some (o,m):=by rw[List.getElem?_zip_eq_some];exact⟨L,I⟩
  refine Rh Ag ⟨⟨[some (Ip o),some (.int m)],Z,Z⟩,?_,?_⟩
  .have:((((b.zip d).take i).map λp=>V.bl (CJ p.1 p.2))).length<=b.length:=by
    rw[B6,L7,List.length_zip];omega
   exact J8 (C9 this S) A4
  .refine GO ?_;refine xw2 Z Z ⟨o,m,Z,r.trans (AH U),?_⟩;rw[J3,M,C6];rfl
 .rintro c g ⟨r,rfl⟩ q W;have len:min (b.map Ip).length (d.map V.int).length=(b.zip d).length:=by rw[B6,B6,List.length_zip]
  rw[len,L6];refine⟨q,(b.zip d).map (λp=>CJ p.1 p.2),Z,SqL.of (by rw[Ag,L9];rfl),?_⟩;have e:((b.zip d).map (λp=>CJ p.1 p.2)).all id=BF.holds d (.pl b):=by rw[List.all_map];rfl
  rw[e];exact k _ (r.trans (AH W))
inductive SpFits(a:Ad)(vs:List V)(H:Hp)(Q:VK):Prop
|mk (p l:R_) (c:Be) (cell:Int) (ar:I_) (_:vs=[.ref p,.int cell,.ref l]) (_:BZ a H p c) (_:c.conds.length<=100) (_:(∀d∈c.conds,∀ws,d=BF.pl ws->ws.length<=100)) (_:H l=some (.lst (ar.map V.int))) (_:∀H',Ay H H'->Q (.bl (c.fits cell ar)) H'):SpFits a vs H Q
def UH(a:Ad):Sp:=λvs H Q _=>SpFits a vs H Q
theorem ok_Fits(F:Fun K "fits" "Clause.fits" ET f fd)(T:Top K mg a)(cK:Cal P w K mg base CX0 1 "takes" dQ Ot)(r:BJ P w K mg base CX0 1 a.c_Amounts "holds" Ol (MY a))(u:BJ P w K mg base CX0 2 a.c_Places "holds" Ol (MX a)) :
 AN P w K mg base CX0 3 f fd LD (UH a):=by
 refine F.ok Pe D_9 λaa A I s H vs Q E G h=>?_
 obtain⟨p,l,c,cell,g,rfl,hC,hn,D,S,k⟩:=h;obtain⟨dx,t,cs,U,W,y⟩:=hC.ex;refine⟨_,(Af (Au (JD (Aq cK (rm G) Z Am (Aa (AB (pv 0) Z) (Aa (pv 1) Ac))) (LR (AJ (Uq Z) Z T.b_all PyProof.Rows.boot_all (Aa (Ck Z (BK.of (So:=Aj ET) (No:=LD) (N:=["condition","around"]) (k:=1) (cs:=[2]) Z Z A1) (Po (AB (pv 0) Z)) (λ_ _ _=>(Bj (i:=0) A1 Z Z)) (λ_ _ _=>BP) (λ_ _ _=>(PE.or (AC (pv 0) r (rm G) Am (Aa (pv 1) Ac)) (AC (pv 0) u (rm G) Am (Aa (pv 1) Ac))))) Ac)))))),?_⟩
 try dsimp only[cxK]
 refine xwf Z Z U T.cl_Clause T.na_Clause_cell (fl3_1 A1 A1) (xq1 Z ⟨c.cell,cell,Z,CJ c.cell cell,Z,?_⟩);cases R:CJ c.cell cell with
 |false =>
  refine AX ?_;have:=k H (Ay.refl H);unfold Be.fits at this;rw[R]at this;exact this
 |true =>
  refine Cg ?_;have ln:cs.length=c.conds.length:=K5 y;refine xwf Z Z U T.cl_Clause T.na_Clause_conditions (fl3_2 A1) ⟨t,Z,⟨_,SqT.of W⟩,?_⟩;refine OL (xs:=cs.map V.ref) (λi j m=>Ay H m/\j=((c.conds.take i).map λd=>V.bl (BF.holds g d))) ⟨Ay.refl H,Z⟩ (λi j m _ z=>SqT.of (z.1 _ _ W)) ?_ ?_
  .rintro i x j m X ⟨n,rfl⟩;rw[B8]at X;obtain⟨q,eq,rfl⟩:=D6.mp X;obtain⟨d,O,hd⟩:=Paired.get y eq;have C:=hd.same n;refine⟨⟨[some (.ref q)],Z,Z⟩,?_,?_⟩
   .have:((c.conds.take i).map λd=>V.bl (BF.holds g d)).length<=c.conds.length:=by
     rw[B6,L7];omega
    exact J8 (C9 this hn) A4
   .refine GO ?_;have Y:∀o,Ay m o->Ay H o/\((c.conds.take i).map λd=>V.bl (BF.holds g d))++[V.bl (BF.holds g d)]=((c.conds.take (i+1)).map λd=>V.bl (BF.holds g d)):=λo L=>⟨n.trans L,by
     rw[J3,O,C6];rfl⟩
    have md:d∈c.conds:=D5 O;cases C with
    |@am M b s ns v B=>exact .inl ⟨_,Z,q,b,_,Z,v,fl2_no A1 A1,_,Z,q,l,M,b,s,ns,g,Z,v,B,n _ _ S,Y m (Ay.refl m)⟩
    |@pl M b ws v B=>exact .inr ⟨_,Z,q,b,_,Z,v,Sy A1,_,Z,q,l,M,b,ws,g,Z,v,B,n _ _ S,D _ md ws Z,λo L=>Y o L⟩
  .rintro j m ⟨n,rfl⟩ q nq;rw[B6,ln,L6];refine⟨q,c.conds.map (BF.holds g),Z,SqL.of (by rw[Ag,L9];rfl),?_⟩;have e:(c.conds.map (BF.holds g)).all id=c.fits cell g:=by
    unfold Be.fits;rw[R,List.all_map];rfl
   rw[e];exact k _ (n.trans (AH nq))
def ROk(r:AI):Prop:=r.length<=5000/\∀c∈r,c.conds.length<=100/\∀d∈c.conds,∀ws,d=BF.pl ws->ws.length<=100
noncomputable def decV(o:Option Nat):V:=match o with
|none=>.non
|some n=>.int n
inductive SpDec(a:Ad)(vs:List V)(H:Hp)(Q:VK):Prop
|mk (p l:R_) (z:Str) (r:AI) (cell:Int) (ar:I_) (_:vs=[.ref p,.int cell,.ref l]) (_:Cy a H p z r) (_:ROk r) (_:H l=some (.lst (ar.map V.int))) (_:∀H',Ay H H'->Q (decV (On r cell ar)) H'):SpDec a vs H Q
def ZG(a:Ad):Sp:=λvs H Q _=>SpDec a vs H Q
theorem ok_dec(F:Fun K "deciding" "deciding" LM f fd)(T:Top K mg a)(X:BJ P w K mg base CX0 3 a.c_Clause "fits" LD (UH a)):AN P w K mg base CX0 4 f fd LT (ZG a):=by
 refine F.ok Jt D_9 λY A G s H vs Q E hr h=>?_
 obtain⟨p,l,z,r,cell,m,rfl,hR,N,hl,k⟩:=h;obtain⟨dx,t,cs,hp,O,y⟩:=hR.ex;have ln:cs.length=r.length:=K5 y;refine⟨_,(Ab (CK X8 Z (Mu true Z T.b_enumerate (Aa (AB (pv 0) Z) Ac)) (Nm Z (CA (Bv (i:=3) Jt.nd Z O_9) (CA (Bv (i:=4) Jt.nd Z O_9) Ld))) (Af (AQ (BI (AC (pv 4) X (rm hr) Am (Aa (pv 1) (Aa (pv 2) Ac)))) (Af (Au (pv 3))) Ax))) (Af (Au DK))),?_⟩
 try dsimp only[cxK]
 refine xwf Z Z hp T.cl_Rule T.na_Rule_clauses fl2_2 ⟨t,Z,⟨_,SqT.of O⟩,?_⟩;refine JT (b:=true) (xs:=cs.map V.ref) (λi σ g=>Ay H g/\(∃u v,σ=[some (.ref p),some (.int cell),some (.ref l),u,v])/\∀c∈r.take i,c.fits cell m=false) ⟨Ay.refl H,⟨none,none,Z⟩,λc D=>by simp at D⟩ (λi σ g _ q=>SqT.of (q.1 _ _ O)) ?_ ?_
 .rintro i x σ g T' R ⟨I,⟨u,v,rfl⟩,no⟩ nT;rw[B8]at R;obtain⟨q,eq,rfl⟩:=D6.mp R;obtain⟨c,B,D⟩:=Paired.get y eq;have C:=I.trans (AH (o:=.tup [.int i,.ref q]) nT);have n:=D.same C;obtain⟨ab,t2,aa,h1,_⟩:=n.ex;refine Rh Ag ?_;have S:=D5 B;refine xwn Z Z h1 (fl3_no A1 A1 A1) Z (xq1 Z ⟨q,l,c,cell,m,Z,n,(N.2 c S).1,(N.2 c S).2,C _ _ hl,λW U=>(xq1 Z ?_)⟩);cases L:c.fits cell m with
  |true =>
   refine Cg ?_;refine xq1 Z ?_;have e:On r cell m=some i:=by
    unfold On;rw[Y6];have hi:i<r.length:=(B7.mp B).1;refine⟨hi,?_,λj hj=>?_⟩
    .rw[(B7.mp B).2];exact L
    .have:=no r[j] (List.mem_take_iff_getElem.mpr ⟨j,by omega,Z⟩);rw[this];exact D2
   have:=k W (C.trans U);rw[e]at this;exact this
  |false =>
   refine AX ⟨C.trans U,⟨_,_,Z⟩,λd M=>?_⟩;rw[J3,B]at M;rcases D8.mp M with z|z
   .exact no d z
   .have:d=c:=by simpa using z
    rw[this];exact L
 .rintro σ g ⟨I,⟨u,v,rfl⟩,no⟩;rw[B6,ln,L6]at no;have e:On r cell m=none:=by
   unfold On;rw[List.findIdx?_eq_none_iff];exact no
  have:=k g I;rw[e]at this;exact this
inductive SpBec(a:Ad)(vs:List V)(H:Hp)(Q:VK):Prop
|mk (p l:R_) (z:Str) (r:AI) (cell:Int) (ar:I_) (_:vs=[.ref p,.int cell,.ref l]) (_:Cy a H p z r) (_:ROk r) (_:H l=some (.lst (ar.map V.int))) (_:∀H',Ay H H'->Q (.int (Du r cell ar)) H'):SpBec a vs H Q
def Wa(a:Ad):Sp:=λvs H Q _=>SpBec a vs H Q
theorem Qm{r:AI}{cell:Int}{b:I_}(h:On r cell b=none):Du r cell b=cell:=by
 unfold On at h;rw[List.findIdx?_eq_none_iff]at h;unfold Du;rw[List.find?_eq_none.mpr λc d=>by rw[h c d];exact D2]
theorem Ql{r:AI}{cell:Int}{b:I_}{i:Nat}(h:On r cell b=some i):∃c,r[i]?=some c/\Du r cell b=c.makes:=by
 unfold On at h;rw[Y6]at h;obtain⟨d,e,f⟩:=h;refine⟨r[i],C5 d,?_⟩;unfold Du;have:r.find? (Be.fits cell b)=some r[i]:=by
  rw[List.find?_eq_some_iff_getElem];exact⟨e,i,d,Z,λj g=>by simpa using f j g⟩
 rw[this]
theorem ok_bec(F:Fun K "becomes" "becomes" Ni f fd)(T:Top K mg a)(v:Cal P w K mg base CX0 4 "deciding" LT (ZG a)):AN P w K mg base CX0 5 f fd LT (Wa a):=by
 refine F.ok OY D_9 λx A j s H vs Q E N h=>?_
 obtain⟨p,l,z,r,cell,n,rfl,u,L,I,k⟩:=h;refine⟨_,(Ab (Ao (i:=3) OY.nd Z O_9 (Aq v (rm N) Z Am (Aa (pv 0) (Aa (pv 1) (Aa (pv 2) Ac))))) (Ab (AQ (Az Je (pv 3) DK (AD _)) (Af (Au (pv 1))) Ax) (Af (Au (AB (Ai Al (AB (pv 0) Z) (pv 3) R_9) Z))))),?_⟩
 try dsimp only[cxK]
 refine xw3 Z Z Z ⟨p,l,z,r,cell,n,Z,u,L,I,λm g=>?_⟩;refine xq1 Z ⟨Z,(xq1 Z ?_)⟩;cases e:On r cell n with
 |none =>
  refine Cg (xq1 Z ?_);have:=k m g;rw[Qm e]at this;exact this
 |some i =>
  obtain⟨c,o,C⟩:=Ql e;obtain⟨dx,t,cs,M,O,d⟩:=u.ex;obtain⟨q,eq⟩:∃q,cs[i]?=some q:=by
   have R:cs.length=r.length:=K5 d;have:i<cs.length:=by rw[R];exact(B7.mp o).1
   exact⟨_,C5 this⟩
  obtain⟨S,b,G⟩:=Paired.get d eq;rw[o]at b;cases b;obtain⟨B,U,y,D,_⟩:=(G.same g).ex;refine AX (xwf Z Z (g _ _ M) T.cl_Rule T.na_Rule_clauses fl2_2 (xwi Z Z Z (SqT.of (g _ _ O)) (Ah (by rw[B8,eq];rfl)) (xq5 D T.cl_Clause T.na_Clause_makes fl3_3 ?_)));have:=k m g;rw[C]at this;exact this
end
noncomputable def sgD(d:Int):Str:=⟨#[48+d.toNat]⟩
noncomputable def wC:Option Int->Nat
|none=>42
|some d=>48+d.toNat
noncomputable def wS(x:Option Int):Str:=⟨#[wC x]⟩
noncomputable def Ez(ns:I_):Str:=⟨(ns.map λn=>48+n.toNat).toArray⟩
noncomputable def Ca:BF->Str
|.am s ns=>sgD s++⟨#[61]⟩++Ez ns
|.pl ws=>⟨(ws.map wC).toArray⟩
noncomputable def Bw(c:Be):Str:=Str.join ⟨#[32]⟩ (wS c.cell::(c.conds.map Ca++[sgD c.makes]))
noncomputable def Rb:Str:=⟨#[59,32]⟩
noncomputable def DS(r:AI):Str:=Str.join Rb (r.map Bw)
def LE(d:Int):Prop:=0<=d/\d<8
def wOk:Option Int->Prop
|none=>True
|some d=>LE d
def BF.ok:BF->Prop
|.am s ns=>LE s/\ns≠[]/\(∀n∈ns,0<=n/\n<=8)/\ns.Pairwise (· < ·)
|.pl ws=>ws.length=8/\∀w∈ws,wOk w
structure Be.ok(c:Be):Prop where
cell:wOk c.cell
makes:LE c.makes
few:c.conds.length<=50
conds:∀d∈c.conds,d.ok
theorem eight{d:Int}(h:LE d):d=0\/d=1\/d=2\/d=3\/d=4\/d=5\/d=6\/d=7:=by
 obtain⟨m,rfl⟩:=F5 h.1;have a:=h.2;exact(show ∀m:Nat,m<8->((m:Int)=0\/(m:Int)=1\/(m:Int)=2\/(m:Int)=3\/(m:Int)=4\/(m:Int)=5\/(m:Int)=6\/(m:Int)=7) by decide) m A0
noncomputable abbrev figs8:Str:=Str.ofString "01234567"
noncomputable abbrev figs9:Str:=Str.ofString "012345678"
theorem Zu{d:Int}(h:LE d):PySem.intText? (sgD d)=some d/\(!(Builtin.Str.occurrences figs8 (sgD d) 0 figs8.length 1).isEmpty)=true:=by
 rcases eight h with rfl|rfl|rfl|rfl|rfl|rfl|rfl|rfl<;>exact⟨by decide +kernel,by decide +kernel⟩
theorem nine{d:Int}(a:0<=d)(b:d<=8):d=0\/d=1\/d=2\/d=3\/d=4\/d=5\/d=6\/d=7\/d=8:=by
 obtain⟨m,rfl⟩:=F5 a;exact(show ∀m:Nat,m<9->((m:Int)=0\/(m:Int)=1\/(m:Int)=2\/(m:Int)=3\/(m:Int)=4\/(m:Int)=5\/(m:Int)=6\/(m:Int)=7\/(m:Int)=8) by decide) m A0
theorem am_facts{d:Int}(a:0<=d)(b:d<=8):PySem.intText? (⟨#[48+d.toNat]⟩:Str)=some d/\(!(Builtin.Str.occurrences figs9 (⟨#[48+d.toNat]⟩:Str) 0 figs9.length 1).isEmpty)=true:=by
 rcases nine a b with rfl|rfl|rfl|rfl|rfl|rfl|rfl|rfl|rfl<;>exact⟨by decide +kernel,by decide +kernel⟩
theorem star_no{d:Int}(h:LE d):decide (V.str (wS (some d))=V.str (Str.ofString "*"))=false:=by
 rcases eight h with rfl|rfl|rfl|rfl|rfl|rfl|rfl|rfl<;>decide +kernel
theorem QQ{x:Option Int}(h:wOk x):wC x≠61/\wC x≠32/\wC x≠59:=by
 cases x with
 |none=>exact⟨by decide,by decide,by decide⟩
 |some d =>
  have:=h.1;have:=h.2;show 48+d.toNat≠61/\48+d.toNat≠32/\48+d.toNat≠59;refine⟨?_,?_,?_⟩<;>lia
theorem Ro{d:BF}(h:d.ok):32∉(Ca d).cps.toList/\59∉(Ca d).cps.toList:=by
 cases d with
 |am s ns =>
  obtain⟨⟨g,i⟩,_,c,_⟩:=h;have e:(Ca (.am s ns)).cps.toList=(48+s.toNat)::61::ns.map λn=>48+n.toNat:=by
   show(sgD s++⟨#[61]⟩++Ez ns).cps.toList=_;rw[Tx.CS,Tx.CS];rfl
  rw[e];constructor
  .intro z;rcases C1.mp z with z|z
   .lia
   .rcases C1.mp z with z|z
    .lia
    .obtain⟨n,a,e⟩:=C8.mp z;have:=c n a;lia
  .intro z;rcases C1.mp z with z|z
   .lia
   .rcases C1.mp z with z|z
    .lia
    .obtain⟨n,a,e⟩:=C8.mp z;have:=c n a;lia
 |pl f =>
  have e:(Ca (.pl f)).cps.toList=f.map wC:=rfl;rw[e];constructor
  .intro z;obtain⟨x,b,e⟩:=C8.mp z;exact(QQ (h.2 x b)).2.1 e
  .intro z;obtain⟨x,b,e⟩:=C8.mp z;exact(QQ (h.2 x b)).2.2 e
theorem SF:∀(ns:I_)(lo:Int),lo<=9->(∀n∈ns,lo<=n/\n<=8)->ns.Pairwise (· < ·)->(ns.length:Int)<=9-lo
|[],lo,h,_,_=>by show(0:Int)<=9-lo;lia
|n::r,lo,_,hn,hp=>by
 have b:=hn n C2;have c:=SF r (n+1) A0 (λm a=>⟨by have:=(R3.mp hp).1 m a;lia,(hn m (C4 _ a)).2⟩) (R3.mp hp).2;rw[F0];lia
theorem Qg{d:BF}(h:d.ok):(Ca d).length<=11:=by
 cases d with
 |am s ns =>
  obtain⟨_,_,a,b⟩:=h;have e:=SF ns 0 A4 a b;rw[Nu.len];show(sgD s++⟨#[61]⟩++Ez ns).cps.toList.length<=11;rw[Tx.CS,Tx.CS,C3,C3];show 1+1+(ns.map λn=>48+n.toNat).length<=11;rw[B6];lia
 |pl c =>
  rw[Nu.len];show(c.map wC).length<=11;rw[B6,h.1];decide
section
variable{P:N_}{w:Q_}{K:O_}{mg:C_}{base:T_}{a:Ad}
theorem VN(K:O_):kitOne K (.type "str") (.type "str")=some true:=by kernel_rfl
inductive SpRS(vs:List V)(H:Hp)(Q:VK):Prop
|mk (d:Int) (_:vs=[.str (sgD d)]) (_:LE d) (_:Q (.int d) H):SpRS vs H Q
def Zw:Sp:=λvs H Q _=>SpRS vs H Q
theorem ok_rs(F:Fun K "read_state" "read_state" IK f fd)(T:Top K mg a):AN P w K mg base CX0 1 f fd RY Zw:=by
 refine F.ok Qw D_9 λc A b s H vs Q E j h=>?_
 obtain⟨d,rfl,i,k⟩:=h;obtain⟨e,g⟩:=Zu i;refine⟨_,(Ab (AQ (PW.pt (Gd (Az JK (AJ Jj Z T.b_len K8 (Aa (pv 0) Ac)) Ae (AD _)) (El (Az Mz (pv 0) (OD Z T.k_STATE_FIGURES) Z)))) (Af AY) Ax) (Af (Au (BG Iu Z T.b_int A0d (Aa (pv 0) Ac))))),?_⟩
 try dsimp only[cxK]
 refine xw2 Z Z ⟨S_1,Z,(xq1 Z ?_)⟩;refine PZ Z (xwb Z Z Z (xq1 Z ?_));rw[g];exact AX (xq1 Z ⟨_,d,Z,e,(by show 1<=640;decide),k⟩)
inductive SpRW(vs:List V)(H:Hp)(Q:VK):Prop
|mk (x:Option Int) (_:vs=[.str (wS x)]) (_:wOk x) (_:Q (Ip x) H):SpRW vs H Q
def spRW:Sp:=λvs H Q _=>SpRW vs H Q
theorem ok_rw(F:Fun K "read_wanted" "read_wanted" GU f fd)(T:Top K mg a)(e:Cal P w K mg base CX0 1 "read_state" RY Zw):AN P w K mg base CX0 2 f fd RY spRW:=by
 refine F.ok OV D_9 λg A b s H vs Q E i h=>?_
 obtain⟨x,rfl,c,k⟩:=h;refine⟨_,(Ab (AQ (Az De (pv 0) (OD Z T.k_ANY_SIGN) (AD _)) (Af (Au DK)) Ax) (Af (Au (Aq e (rm i) Z Am (Aa (pv 0) Ac))))),?_⟩
 try dsimp only[cxK]
 refine xq1 Z ⟨Z,(xq1 Z ?_)⟩;cases x with
 |none=>exact Cg k
 |some d =>
  rw[star_no c];exact AX (xq1 Z ⟨d,Z,c,k⟩)
inductive SpRN(vs:List V)(H:Hp)(Q:VK):Prop
|mk (ns:I_) (_:vs=[.str (Ez ns)]) (_:ns≠[]) (_:ns.length<=100) (_:(∀n∈ns,0<=n/\n<=8)) (_:ns.Pairwise (· < ·)) (_:∀(t:R_)(H':Hp),Ay H H'->H' t=some (.tup (ns.map V.int))->Q (.ref t) H'):SpRN vs H Q
def spRN:Sp:=λvs H Q _=>SpRN vs H Q
theorem ok_rn(F:Fun K "read_numbers" "read_numbers" FU f fd)(T:Top K mg a):AN P w K mg base CX0 1 f fd Gg spRN:=by
 refine F.ok Fn D_9 λL A q s H vs Q E Y h=>?_
 obtain⟨ns,rfl,o,C,G,S,k⟩:=h;have N:(Ez ns).length=ns.length:=by rw[Nu.len];show(ns.map _).length=_;rw[B6]
 have u:(Ez ns).cps.toList=ns.map λn=>48+n.toNat:=rfl;have pos:0<ns.length:=T5.mpr o;refine⟨_,(Ab (AQ (Az De (AJ Jj Z T.b_len K8 (Aa (pv 0) Ac)) Ae (AD _)) (Af AY) Ax) (Ab (Ao (i:=1) Fn.nd Z O_9 (CL Ac)) (Ab (CK X8 Z (ZZ (pv 0)) (Bv (i:=2) Fn.nd Z O_9) (Ab (AQ (Az Mz (pv 2) (OD Z T.k_AMOUNT_FIGURES) Z) (Af AY) Ax) (Ab (AQ (PW.pt (LP (Az NU (AJ BD Z T.b_len K8 (Aa (pv 1) Ac)) Ae (AD _)) (IU (Az JL (BG Iu Z T.b_int A0d (Aa (pv 2) Ac)) (Ai Aw (pv 1) (Fd CU Ae) R_9) (AD _))))) (Af AY) Ax) (Af (BC (Fe K2 K3 K4 Cc (pv 1) (Aa (BG Iu Z T.b_int A0d (Aa (pv 2) Ac)) Ac))))))) (Af (Au (BG BV Z T.b_tuple K7 (Aa (pv 1) Ac))))))),?_⟩
 try dsimp only[cxK]
 refine xw2 Z Z ⟨(by rw[N];exact C9 C A4),Z,(xq1 Z ?_)⟩;have X:decide (V.int ((Ez ns).length:Int)=V.int 0)=false:=Z8 λz=>by
  injection z with z
  lia
 rw[X];refine AX ⟨S_0,λl m=>?_⟩;refine xw2 Z Z ?_;refine for_str (λi σ c=>∃v,σ=[some (.str (Ez ns)),some (.ref l),v]/\c=upd H l (.lst ((ns.take i).map V.int))) ⟨none,Z,Z⟩ ?_ ?_
 .rintro i ch σ c j ⟨v,rfl,rfl⟩;have b:(ns.map λn=>48+n.toNat)[i]?=some ch:=by rw[<-u];simpa using j
  rw[B8]at b;obtain⟨n,d,rfl⟩:=D6.mp b;have I:=D5 d;obtain⟨y,O⟩:=am_facts (G n I).1 (G n I).2;have B:i<ns.length:=(B7.mp d).1;have r:(ns.take i).length=i:=by rw[L7];lia
  refine xwb Z Z Z (xq1 Z ?_);rw[O];refine AX (xq1 Z ⟨l,(xq1 Z ⟨.inl (SqL.of Ag),(xq2 Z Z (xq1 Z ?_))⟩)⟩);have nx:∃v,([some (V.str (Ez ns)),some (.ref l),some (.str ⟨#[48+n.toNat]⟩)]:St)=[some (.str (Ez ns)),some (.ref l),v]/\upd (upd H l (.lst ((ns.take i).map V.int))) l (.lst ((ns.take i).map V.int++[V.int n]))=upd H l (.lst ((ns.take (i+1)).map V.int)):=by
   refine xq1 Z ?_;rw[IF,J3,d,C6];rfl
  have app:tDrop (tBM K "list" Wi (Fa 1) (CN (tCB (λxs H Q=>∃x n,xs=[.str x]/\PySem.intText? x=some n/\x.length<=640/\Q (.int n) H) (CN (Fa 2) Qt)) Qt))
    {nx:=fun σ c=>∃v,σ=[some (.str (Ez ns)),some (.ref l),v]/\c=upd H l (.lst ((ns.take (i+1)).map V.int)),rt:=Q,bk:=λ_ _=>False,ct:=fun σ c=>∃v,σ=[some (.str (Ez ns)),some (.ref l),v]/\c=upd H l (.lst ((ns.take (i+1)).map V.int))}
    [some (.str (Ez ns)),some (.ref l),some (.str ⟨#[48+n.toNat]⟩)] (upd H l (.lst ((ns.take i).map V.int))) :=
   ⟨_,Z,.inl ⟨Z,_,SqL.of Ag⟩,_,Z,_,n,Z,y,(by show 1<=640;decide),l,_,_,Z,Z,Ag,(by rw[B6,r];exact F3 B (C9 C A4)),nx⟩
  by_cases W:i=0
  .subst W;exact AX app
  .have ip:0<i:=by lia
   have p:decide ((0:Int)<(((ns.take i).map V.int).length:Int))=true:=Z5 (by rw[B6,r];lia);rw[p];have D:i-1<ns.length:=by lia
   have R:ns[i-1]<n:=by
    have:=List.pairwise_iff_getElem.mp S (i-1) i D B A0;rw[(B7.mp d).2]at this;exact this
   have g:atI ((ns.take i).map V.int) (-1)=some (V.int ns[i-1]):=by
    have:((ns.take i).map V.int)[i-1]?=some (V.int ns[i-1]):=by
     rw[B8,U6 A0,C5 D];rfl
    have M:((ns.take i).map V.int).length=i:=by rw[B6,r]
    unfold atI ixN;rw[M,Z4 A4,Z7 A0];show((ns.take i).map V.int)[((-1:Int)+(i:Nat)).toNat]?=_;rw[show((-1:Int)+(i:Nat)).toNat=i-1 by lia];exact this
   refine Cg (xq1 Z ⟨_,n,Z,y,(by show 1<=640;decide),(xw2 Z Z ⟨l,_,(xq2 Z Z ⟨SqL.of Ag,g,(xq2 Z Z (xq1 Z ?_))⟩)⟩)⟩);rw[Z8 (by lia:¬n<=ns[i-1])];exact AX app
 .rintro σ c ⟨v,rfl,rfl⟩;have e:(Ez ns).cps.size=ns.length:=by
   have:(Ez ns).cps.toList.length=ns.length:=by rw[u,B6]
   simpa using this
  rw[e,L6];refine xq1 Z ⟨l,(xq1 Z (.inl ⟨SqL.of Ag,λt U=>?_⟩))⟩;exact k t _ ((AH m).trans (AH U)) Ag
theorem eq_in(x:Str):(!(Builtin.Str.occurrences x (Str.ofString "=") 0 x.length 1).isEmpty)=decide (61∈x.cps.toList):=by
 have:Str.ofString "=" = (⟨#[61]⟩:Str):=by decide +kernel
 rw[this];exact StrLaws.found_one x 61
inductive WT(a:Ad)(vs:List V)(H:Hp)(Q:VK):Prop
|mk (d:BF) (_:vs=[.str (Ca d)]) (_:d.ok) (_:∀(p:R_)(H':Hp),Ay H H'->Dy a H' p d->Q (.ref p) H'):WT a vs H Q
def RB(a:Ad):Sp:=λvs H Q _=>WT a vs H Q
inductive SpRAm(a:Ad)(vs:List V)(H:Hp)(Q:VK):Prop
|mk (s:Int) (ns:I_) (_:vs=[.str (Ca (.am s ns))]) (_:(BF.am s ns).ok) (_:∀(p:R_)(H':Hp),Ay H H'->Dy a H' p (.am s ns)->Q (.ref p) H'):SpRAm a vs H Q
def Zy(a:Ad):Sp:=λvs H Q _=>SpRAm a vs H Q
theorem ok_ram(F:Fun K "read_amounts" "read_amounts" FV f fd)(T:Top K mg a)(D:Cal P w K mg base CX0 1 "read_state" RY Zw)(G:Cal P w K mg base CX0 1 "read_numbers" Gg spRN)
 (I:Qs P w K mg base CX0 1 "Amounts" a.c_Amounts PN (OT a)):AN P w K mg base CX0 3 f fd RY (Zy a):=by
 refine F.ok Jn D_9 λL A o s H vs Q E l h=>?_
 obtain⟨d,ns,rfl,u,k⟩:=h;have q:=Qg u;obtain⟨p,j,r,v⟩:=u;have R:=SF ns 0 A4 r v;have g:Str.ofString "=" = (⟨#[61]⟩:Str):=by decide +kernel
 have M:Txt.partition (Ca (.am d ns)) (Str.ofString "=")=(sgD d,⟨#[61]⟩,Ez ns):=by
  rw[g];refine Tx.GK 61 (sgD d) (Ez ns) ?_;intro z;have:61=48+d.toNat:=by simpa[sgD] using z
  have:=p.2;lia
 refine⟨_,(Ab (Ao (i:=1) Jn.nd Z O_9 (Fe A3f PySem.F.slot_str_partition PySem.F.type_str_partition Si (pv 0) (UR Ac))) (Af (Au (Le I (rm l) Z Am (Aa (Aq D (rm l) Z Am (Aa (Ai Al (pv 1) Ae R_9) Ac)) (Aa (Aq G (rm l) Z Am (Aa (Ai Al (pv 1) Ae R_9) Ac)) Ac)))))),?_⟩
 try dsimp only[cxK]
 refine xq1 Z ⟨Z,(xq2 Z Z ⟨A1,A0,λt N=>?_⟩)⟩;rw[M];refine xq1 Z ⟨t,_,0,(xq1 Z ⟨Z,SqT.of Ag,Z,d,Z,p,(xq1 Z ⟨t,_,2,(xq1 Z ⟨Z,SqT.of Ag,Z,ns,Z,j,by lia,r,v,λC b O m=>?_⟩)⟩)⟩)⟩;intro x dx y c e;have S:Ay b (upd (upd b dx (.own x)) x (.ins a.c_Amounts dx [])):=(AH c).trans (AH (by rw[As (X5 e)];exact y));refine⟨x,C,dx,d,Z,Ag,Z,?_⟩;have n:(upd b dx (.own x)) x=none:=by rw[As (X5 e)];exact y
 rw[IF];have B:Ay b (upd (upd b dx (.own x)) x (.ins a.c_Amounts dx (fl2 "state" "numbers" (.int d) (.ref C)))):=(AH c).trans (AH n);exact k x _ (((AH N).trans O).trans B) (.am Ag (B _ _ m))
inductive SpRPl(a:Ad)(vs:List V)(H:Hp)(Q:VK):Prop
|mk (ws:List (Option Int)) (_:vs=[.str (Ca (.pl ws))]) (_:(BF.pl ws).ok) (_:∀(p:R_)(H':Hp),Ay H H'->Dy a H' p (.pl ws)->Q (.ref p) H'):SpRPl a vs H Q
def Zx(a:Ad):Sp:=λvs H Q _=>SpRPl a vs H Q
theorem ok_rpl(F:Fun K "read_places" "read_places" EO f fd)(T:Top K mg a)(B:Cal P w K mg base CX0 2 "read_wanted" RY spRW)
 (D:Qs P w K mg base CX0 1 "Places" a.c_Places QI (OP a)):AN P w K mg base CX0 3 f fd RY (Zx a):=by
 refine F.ok OW D_9 λC A n s H vs Q E y h=>?_
 obtain⟨b,rfl,v,k⟩:=h;have g:=Qg v;obtain⟨u,L⟩:=v;have G:(Ca (.pl b)).length=8:=by rw[Nu.len];show(b.map wC).length=8;rw[B6,u]
 have p:(Ca (.pl b)).cps.toList=b.map wC:=rfl;refine⟨_,(Ab (AQ (Az JK (AJ Jj Z T.b_len K8 (Aa (pv 0) Ac)) (BT Z T.k_NEIGHBOURS) (AD _)) (Af AY) Ax) (Af (Au (Le D (rm y) Z Am (Aa (BG BV Z T.b_tuple K7 (Aa (Ck Z (BK.of (So:=Aj EO) (No:=RY) (N:=["sign"]) (k:=1) (cs:=[]) Z Z A1) (ZZ (pv 0)) (λ_ _ _=>(Bj (i:=0) A1 Z Z)) (λ_ _ _=>BP) (λ_ _ _=>(Aq B (rm y) Z Am (Aa (pv 0) Ac)))) Ac)) Ac))))),?_⟩
 try dsimp only[cxK]
 refine xw2 Z Z ⟨C9 g A4,Z,(xq1 Z ?_)⟩;rw[G];refine PZ Z (xw2 Z Z ?_);refine blk_str (λi d c=>c=H/\d=(b.take i).map Ip) ⟨Z,Z⟩ ?_ ?_
 .rintro i ch d c e ⟨rfl,rfl⟩;rw[p,B8]at e;obtain⟨x,r,rfl⟩:=D6.mp e;refine⟨⟨[some (.str ⟨#[wC x]⟩)],Z,Z⟩,?_,?_⟩
  .rw[B6,L7];exact J8 (U8 _ _) (by rw[u];decide)
  .refine GO (xq1 Z ⟨x,Z,L x (D5 r),Z,?_⟩);rw[J3,r,C6];rfl
 .rintro d c ⟨rfl,rfl⟩ q M;rw[p,B6,L6];refine⟨q,(xq1 Z (.inl ⟨SqL.of Ag,λt I=>?_⟩))⟩;intro x dx O j l;have m:∀o,(upd (upd (upd c q (.lst (b.map Ip))) t (.tup (b.map Ip))) dx o) x=none:=λo=>by rw[As (X5 l)];exact O
  refine⟨x,t,dx,Z,Ag,Z,?_⟩;rw[IF];have R:Ay c (upd (upd c q (.lst (b.map Ip))) t (.tup (b.map Ip))):=(AH M).trans (AH I);have z:Ay (upd (upd c q (.lst (b.map Ip))) t (.tup (b.map Ip))) (upd (upd (upd (upd c q (.lst (b.map Ip))) t (.tup (b.map Ip))) dx (.own x)) x (.ins a.c_Places dx (fl1 "wanted" (.ref t)))):=(AH j).trans (AH (m _));exact k x _ (R.trans z) (.pl Ag (z _ _ Ag))
theorem ok_rcond(F:Fun K "read_condition" "read_condition" EA f fd)(T:Top K mg a)(j:Cal P w K mg base CX0 3 "read_amounts" RY (Zy a))(l:Cal P w K mg base CX0 3 "read_places" RY (Zx a)) :
 AN P w K mg base CX0 4 f fd RY (RB a):=by
 refine F.ok Mm D_9 λn A c s H vs Q E i h=>?_
 obtain⟨d,rfl,b,k⟩:=h;refine⟨_,(Ab (AQ (Az Yq IV (pv 0) Z) (Af (Au (Aq j (rm i) Z Am (Aa (pv 0) Ac)))) Ax) (Af (Au (Aq l (rm i) Z Am (Aa (pv 0) Ac))))),?_⟩
 try dsimp only[cxK]
 refine xwb Z Z Z (xq1 Z ?_);rw[eq_in];cases d with
 |am s ns =>
  have m:61∈(Ca (.am s ns)).cps.toList:=by
   show 61∈(sgD s++⟨#[61]⟩++Ez ns).cps.toList;rw[Tx.CS,Tx.CS];simp
  rw[Z5 m];exact Cg (xq1 Z ⟨s,ns,Z,b,k⟩)
 |pl g =>
  have m:¬61∈(Ca (.pl g)).cps.toList:=λz=>by
   obtain⟨x,o,e⟩:=C8.mp (show 61∈g.map wC from z);exact(QQ (b.2 x o)).1 e
  rw[Z8 m];exact AX (xq1 Z ⟨g,Z,b,k⟩)
inductive SpRC(a:Ad)(vs:List V)(H:Hp)(Q:VK):Prop
|mk (c:Be) (_:vs=[.str (Bw c)]) (_:c.ok) (_:∀(p:R_)(H':Hp),Ay H H'->BZ a H' p c->Q (.ref p) H'):SpRC a vs H Q
def spRC(a:Ad):Sp:=λvs H Q _=>SpRC a vs H Q
theorem LY{c:Be}(h:c.ok):(Bw c).length<=1000:=by
 have j:=StrLaws.join_length_le ⟨#[32]⟩ (wS c.cell::(c.conds.map Ca++[sgD c.makes]));have b:∀l:List BF,(∀d∈l,d.ok)->((l.map Ca).map (·.length)).sum<=11*l.length:=by
  intro l;induction l with
  |nil=>intro _;exact J0 _
  |cons d r k =>
   intro f;have q:=Qg (f d C2);have s:=k λe i=>f e (C4 _ i);simp only[D9,P4,F0];lia
 have p:=b c.conds h.conds;have g:=h.few;simp only[D9,C6,Z0,P4,List.sum_append,List.sum_nil,F0,C3,List.length_nil,B6]at j;have m:(wS c.cell).length=1:=rfl;have n:(sgD c.makes).length=1:=rfl;have o:(⟨#[32]⟩:Str).length=1:=rfl;rw[m,n,o]at j;unfold Bw;lia
theorem Lp(x:Option Int)(h:wOk x):32∉(wS x).cps.toList/\59∉(wS x).cps.toList:=by
 have:=QQ h;constructor
 .intro z;have:32=wC x:=by simpa[wS] using z
  exact(QQ h).2.1 this.symm
 .intro z;have:59=wC x:=by simpa[wS] using z
  exact(QQ h).2.2 this.symm
theorem SA{c:Be}(h:c.ok):Txt.split (Bw c) (Str.ofString " ")=wS c.cell::(c.conds.map Ca++[sgD c.makes]):=by
 have e:Str.ofString " " = (⟨#[32]⟩:Str):=by decide +kernel
 rw[e];refine Tx.SZ 32 _ A6 λt b=>?_;rcases C1.mp b with rfl|b
 .exact(Lp _ h.cell).1
 .rcases D8.mp b with b|b
  .obtain⟨d,f,rfl⟩:=C8.mp b;exact(Ro (h.conds d f)).1
  .rw[D1.mp b];exact(Lp (some c.makes) h.makes).1
theorem cut_mid(x z:V)(ys:List V):Vs (x::(ys++[z])) (some 1) (some (-1))=ys:=by
 have n:(x::(ys++[z])).length=ys.length+2:=by simp
 unfold Vs;rw[n];have b:HT.sIx (ys.length+2) 0 (some 1)=1:=by
  show(if(1:Int)<0 then((1:Int)+((ys.length+2:Nat):Int)).toNat else min (1:Int).toNat (ys.length+2))=1;rw[Z4 A4];show min 1 (ys.length+2)=1;lia
 have c:HT.sIx (ys.length+2) (ys.length+2) (some (-1))=ys.length+1:=by
  show(if(-1:Int)<0 then((-1:Int)+((ys.length+2:Nat):Int)).toNat else min (-1:Int).toNat (ys.length+2))=ys.length+1;rw[Z7 A4];lia
 rw[b,c];show(ys++[z]).take (ys.length+1-1)=ys;rw[Nat.add_sub_cancel,List.take_left' rfl]
theorem at_last(x:V)(ys:List V)(z:V):atI (x::(ys++[z])) (-1)=some z:=by
 have n:(x::(ys++[z])).length=ys.length+2:=by simp
 unfold atI ixN;rw[n,Z4 A4,Z7 A0];show(x::(ys++[z]))[((-1:Int)+((ys.length+2:Nat):Int)).toNat]?=some z;rw[show((-1:Int)+((ys.length+2:Nat):Int)).toNat=ys.length+1 by lia,V3,F8 (C0 _),V6];rfl
theorem ok_rc(F:Fun K "read_clause" "read_clause" EQ f fd)(T:Top K mg a)(aP:Cal P w K mg base CX0 1 "read_state" RY Zw)(aY:Cal P w K mg base CX0 2 "read_wanted" RY spRW)
 (bE:Cal P w K mg base CX0 4 "read_condition" RY (RB a)) (dB:Qs P w K mg base CX0 1 "Clause" a.c_Clause QM (OS a)):AN P w K mg base CX0 5 f fd Ig (spRC a):=by
 refine F.ok Ea D_9 λad A aa s H vs Q E I h=>?_
 obtain⟨c,rfl,y,k⟩:=h;have ac:=LY y;have L:=y.few;refine⟨_,(Ab (AQ (BU (BI (AJ CC Z T.b_isinstance X9 (Aa (pv 0) (Aa (DE (v:=.ty "str") Z T.b_str A1c Z) Ac))))) (Af AY) Ax) (Ab (Ao (i:=1) Ea.nd Z O_9 (Fe A3f PySem.F.slot_str_split PySem.F.type_str_split TM (pv 0) (UR Ac))) (Ab (AQ (Az GN (AJ BD Z T.b_len K8 (Aa (pv 1) Ac)) Ae (AD _)) (Af AY) Ax) (Ab (Ao (i:=2) Ea.nd Z O_9 (Aq aY (rm I) Z Am (Aa (Ai Aw (pv 1) Ae R_9) Ac))) (Ab (Ao (i:=3) Ea.nd Z O_9 (BG BV Z T.b_tuple K7 (Aa (Ck Z (BK.of (So:=Aj EQ) (No:=LB) (N:=["word"]) (k:=1) (cs:=[]) Z Z A1) (CO (Tt Wc (pv 1) (RM Ae) (RM (Fd CU Ae)))) (λ_ _ _=>(Bj (i:=0) A1 Z Z)) (λ_ _ _=>BP) (λ_ _ _=>(Aq bE (rm I) Z Am (Aa (pv 0) Ac)))) Ac))) (Af (Au (Le dB (rm I) Z Am (Aa (pv 2) (Aa (pv 3) (Aa (Aq aP (rm I) Z Am (Aa (Ai Aw (pv 1) (Fd CU Ae) R_9) Ac)) Ac))))))))))),?_⟩
 try dsimp only[cxK]
 refine xq1 Z ⟨_,_,_,.type "str",true,Z,Z,.of (.str _),VN K,true,Z,?_⟩;refine AX (xq1 Z ⟨Z,(xq2 Z Z ⟨A1,A0,λl hl=>?_⟩)⟩);rw[SA y];have eW:((wS c.cell::(c.conds.map Ca++[sgD c.makes])).map V.str)=V.str (wS c.cell)::((c.conds.map λd=>V.str (Ca d))++[V.str (sgD c.makes)]):=by
  rw[D9,C6,L9];rfl
 rw[eW];have hL:∀o,upd H l o l=some o:=λo=>Ag;refine xq1 Z ⟨l,(xq1 Z ⟨.inl (SqL.of Ag),(xq2 Z Z (xq1 Z ?_))⟩)⟩;rw[Z8 (by simp;lia:¬((((V.str (wS c.cell)::((c.conds.map λd=>V.str (Ca d))++[V.str (sgD c.makes)])).length:Nat):Int)<2))];refine AX (xwi Z Z Z (SqL.of Ag) (Ah (j:=0) Z) ⟨c.cell,Z,y.cell,?_⟩);refine xw3 Z Z Z (xq1 Z ⟨l,(xq1 Z ⟨SqL.of Ag,λq O=>⟨q,Z,⟨_,SqL.of Ag⟩,?_⟩⟩)⟩);rw[cut_mid];have s0:Ay H (upd (upd H l (.lst (V.str (wS c.cell)::((c.conds.map λd=>V.str (Ca d))++[V.str (sgD c.makes)])))) q (.lst (c.conds.map λd=>V.str (Ca d)))):=(AH hl).trans (AH O);have X:l≠q:=λz=>by rw[<-z,Ag]at O;cases O
 generalize m:upd (upd H l (.lst (V.str (wS c.cell)::((c.conds.map λd=>V.str (Ca d))++[V.str (sgD c.makes)])))) q (.lst (c.conds.map λd=>V.str (Ca d)))=C;rw[m]at s0;have R:C q=some (.lst (c.conds.map λd=>V.str (Ca d))):=by rw[<-m];exact Ag
 have M:C l=some (.lst (V.str (wS c.cell)::((c.conds.map λd=>V.str (Ca d))++[V.str (sgD c.makes)]))):=by rw[<-m,As X];exact Ag
 refine Et (xs:=c.conds.map λd=>V.str (Ca d)) (λi e g=>∃b:List Addr,e=b.map V.ref/\Ay C g/\Paired (Dy a g) b (c.conds.take i)) ⟨[],Z,Ay.refl C,.nil⟩ (λi e g _ ⟨b,_,G,_⟩=>SqL.of (G _ _ R)) ?_ ?_
 .rintro i x e g hx ⟨b,rfl,G,D⟩;rw[B8]at hx;obtain⟨d,ed,rfl⟩:=D6.mp hx;refine⟨⟨[some (.str (Ca d))],Z,Z⟩,?_,?_⟩
  .have e1:=K5 D;rw[L7]at e1;rw[B6,e1];exact J8 (U8 _ _) (J8 L A4)
  .refine GO (xq1 Z ⟨d,Z,y.conds d (D5 ed),λp u B hp=>⟨b++[p],by rw[C6];rfl,G.trans B,?_⟩⟩);rw[J3,ed];exact A2b (Paired.imp (λ_ _ z=>z.same B) D) hp
 .rintro e g ⟨b,rfl,G,D⟩ r nr;rw[B6,L6]at D;refine⟨r,(xq1 Z (.inl ⟨SqL.of Ag,λt ht=>?_⟩))⟩;have B:Ay C (upd (upd g r (.lst (b.map V.ref))) t (.tup (b.map V.ref))):=(G.trans (AH nr)).trans (AH ht);generalize n:upd (upd g r (.lst (b.map V.ref))) t (.tup (b.map V.ref))=u;have S:u t=some (.tup (b.map V.ref)):=by rw[<-n];exact Ag
  have ab:Ay g u:=by rw[<-n];exact(AH nr).trans (AH ht)
  rw[n]at B;refine xw3 Z Z Z (xq1 Z ⟨l,_,(xq2 Z Z ⟨SqL.of (B _ _ M),at_last _ _ _,c.makes,Z,y.makes,?_⟩)⟩);intro x dx nx U W;have Y:∀o,(upd u dx o) x=none:=λo=>by rw[As (X5 W)];exact nx
  refine⟨x,t,dx,c.cell,c.makes,Z,Ag,Z,?_⟩;rw[IF];have s4:Ay u (upd (upd u dx (.own x)) x (.ins a.c_Clause dx (fl3 "cell" "conditions" "makes" (Ip c.cell) (.ref t) (.int c.makes)))):=(AH U).trans (AH (Y _));exact k x _ ((s0.trans B).trans s4) ⟨dx,t,b,Ag,s4 _ _ S,Paired.imp (λ_ _ z=>(z.same ab).same s4) D⟩
theorem Uh{c:Be}(h:c.ok):59∉(Bw c).cps.toList:=by
 intro z;unfold Bw at z;rw[PyProof.Rows.mem_join]at z;rcases z with ⟨t,b,z⟩|⟨_,z⟩
 .rcases C1.mp b with rfl|b
  .exact(Lp _ h.cell).2 z
  .rcases D8.mp b with b|b
   .obtain⟨d,e,rfl⟩:=C8.mp b;exact(Ro (h.conds d e)).2 z
   .rw[D1.mp b]at z;exact(Lp (some c.makes) h.makes).2 z
 .have:59=32:=by simpa using z
  lia
end
structure MS(r:AI):Prop where
few:r.length<=50
ok:∀c∈r,c.ok
theorem MS.rok{r:AI}(h:MS r):ROk r:=⟨C9 h.few A4,λc a=>⟨C9 (h.ok c a).few A4,λd b f e=>by
 subst e;rw[((h.ok c a).conds _ b).1];decide⟩⟩
theorem Tl{r:AI}(h:MS r):(DS r).length<=60000:=by
 have j:=StrLaws.join_length_le Rb (r.map Bw);have b:∀l:List Be,(∀c∈l,c.ok)->((l.map Bw).map (·.length)).sum<=1000*l.length:=by
  intro l;induction l with
  |nil=>intro _;exact J0 _
  |cons d r i =>
   intro a;have n:=LY (a d C2);have o:=i λe g=>a e (C4 _ g);simp only[D9,P4,F0];omega
 have m:=b r h.ok;have f:=h.few;have k:Rb.length=2:=rfl;rw[k,B6]at j;unfold DS;omega
theorem rule_ne{r:AI}(h:r≠[]):decide (V.str (DS r)=V.str (Str.ofString ""))=false:=by
 refine Z8 λz=>?_;injection z with z
 obtain⟨c,b⟩:=List.exists_mem_of_ne_nil r h;have d:=PySem.join_mem_le Rb (r.map Bw) (Bw c) (C8.mpr ⟨c,b,Z⟩);have e:=PySem.join_mem_le ⟨#[32]⟩ (wS c.cell::(c.conds.map Ca++[sgD c.makes])) (wS c.cell) C2;have f:(wS c.cell).length=1:=rfl;have a:(DS r).length=0:=by rw[z];decide +kernel
 unfold DS at a;have g:(Bw c).length=(Str.join ⟨#[32]⟩ (wS c.cell::(c.conds.map Ca++[sgD c.makes]))).length:=rfl;omega
theorem Dy.put{a:Ad}{H:Hp}{p q:R_}{o u:HO}{c:BF}(h:Dy a H q c)(i:H p=some u)(n:∀C d fs,u=HO.ins C d fs->fs.lookup ("state" : Str)=none/\fs.lookup ("wanted" : Str)=none/\fs.lookup ("makes" : Str)=none)(nt:∀xs,u≠.tup xs):Dy a (upd H p o) q c:=by
 have f:∀{b v},H b=some v->v≠u->upd H p o b=some v:=λ{b v} e d=>by rw[As (AE e i d)];exact e
 cases h with
 |am h g =>
  refine .am (f h λz=>?_) (f g λz=>nt _ z.symm);have:=(n _ _ _ z.symm).1;rw[fl2_1 A1]at this;cases this
 |pl h g =>
  refine .pl (f h λz=>?_) (f g λz=>nt _ z.symm);have:=(n _ _ _ z.symm).2.1;rw[fl1_1]at this;cases this
theorem BZ.put{a:Ad}{H:Hp}{p q:R_}{o u:HO}{c:Be}(h:BZ a H q c)(g:H p=some u)(n:∀C d fs,u=HO.ins C d fs->fs.lookup ("state" : Str)=none/\fs.lookup ("wanted" : Str)=none/\fs.lookup ("makes" : Str)=none)(nt:∀xs,u≠.tup xs):BZ a (upd H p o) q c:=by
 have f:∀{b v},H b=some v->v≠u->upd H p o b=some v:=λ{b v} e d=>by rw[As (AE e g d)];exact e
 obtain⟨dx,t,cs,i,j,k⟩:=h.ex;refine⟨dx,t,cs,f i λz=>?_,f j λz=>nt _ z.symm,Paired.imp (λ_ _ z=>z.put g n nt) k⟩;have:=(n _ _ _ z.symm).2.2;rw[fl3_3]at this;cases this
section
variable{P:N_}{w:Q_}{K:O_}{mg:C_}{base:T_}{a:Ad}
inductive SpCT(vs:List V)(H:Hp)(Q:VK):Prop
|mk (r:AI) (_:vs=[.str (DS r)]) (_:MS r) (_:∀(l:R_)(H':Hp),Ay H H'->H' l=some (.lst (r.map λc=>V.str (Bw c)))->Q (.ref l) H'):SpCT vs H Q
def spCT:Sp:=λvs H Q _=>SpCT vs H Q
theorem ok_ct(F:Fun K "clause_texts" "clause_texts" FX f fd)(T:Top K mg a):AN P w K mg base CX0 1 f fd Ig spCT:=by
 refine F.ok Ob D_9 λm A g s H vs Q E q h=>?_
 obtain⟨r,rfl,j,k⟩:=h;have i:=Tl j;refine⟨_,(Ab (AQ (Az De (pv 0) IV (AD _)) (Af (Au (CL Ac))) Ax) (Af (Au (Fe A3f PySem.F.slot_str_split PySem.F.type_str_split TM (pv 0) (Aa (OD Z T.k_CLAUSE_MARK) Ac))))),?_⟩
 try dsimp only[cxK]
 refine xq1 Z ⟨Z,(xq1 Z ?_)⟩;by_cases b:r=[]
 .subst b;refine Cg ⟨S_0,λl d=>?_⟩;exact k l _ (AH d) Ag
 .rw[rule_ne b];refine AX (xq1 Z ⟨Z,(xq2 Z Z ⟨A1,(by omega),λl d=>?_⟩)⟩);have n:Str.ofString "; " = (⟨#[59,32]⟩:Str):=by decide +kernel
  have e:Txt.split (DS r) (Str.ofString "; ")=r.map Bw:=by
   rw[n];refine Tx.SY _ (by simpa using b) λt p=>?_;obtain⟨c,o,rfl⟩:=C8.mp p;exact Uh (j.ok c o)
  rw[e,L9];exact k l _ (AH d) Ag
inductive SpRI(a:Ad)(vs:List V)(H:Hp)(Q:VK):Prop
|mk (p dx:R_) (r:AI) (_:vs=[.ref p,.str (DS r)]) (_:H p=some (.ins a.c_Rule dx [])) (_:MS r) (_:∀H',(∀b o,H b=some o->b≠p->H' b=some o)->Cy a H' p (DS r) r->Q .non H'):SpRI a vs H Q
def spRI(a:Ad):Sp:=λvs H Q _=>SpRI a vs H Q
theorem ok_ri(F:Fun K "__init__" "Rule.__init__" GI f fd)(T:Top K mg a)(bQ:Cal P w K mg base CX0 1 "clause_texts" Ig spCT)(bW:Cal P w K mg base CX0 5 "read_clause" Ig (spRC a)) :
 AN P w K mg base CX0 6 f fd NX (spRI a):=by
 refine F.ok RK D_9 λab A X s H vs Q E hr h=>?_
 obtain⟨p,dx,r,rfl,hp,R,k⟩:=h;have aa:=Tl R;have U:=R.few;refine⟨_,(Ab (Cv (pv 0) (pv 1) Z) (Af (Cv (pv 0) (BG BV Z T.b_tuple K7 (Aa (Ck Z (BK.of (So:=Aj GI) (No:=NX) (N:=["part"]) (k:=1) (cs:=[]) Z Z A1) (CO (Aq bQ (rm hr) Z Am (Aa (pv 1) Ac))) (λ_ _ _=>(Bj (i:=0) A1 Z Z)) (λ_ _ _=>BP) (λ_ _ _=>(Aq bW (rm hr) Z Am (Aa (pv 0) Ac)))) Ac)) Z))),?_⟩
 try dsimp only[cxK]
 refine xw2 Z Z ⟨p,_,dx,[],Z,hp,T.cl_Rule,T.na_Rule_text,B2,?_⟩;generalize D:upd H p (.ins a.c_Rule dx (AW "text" (.str (DS r)) []))=S;have y:S p=some (.ins a.c_Rule dx (AW "text" (.str (DS r)) [])):=by rw[<-D];exact Ag
 have k1:∀b o,H b=some o->b≠p->S b=some o:=λb o e n=>by rw[<-D,As n];exact e
 refine xq1 Z ⟨r,Z,R,λl Y s2 hl=>⟨l,Z,⟨_,SqL.of hl⟩,?_⟩⟩;refine Et (xs:=r.map λc=>V.str (Bw c)) (λi j v=>∃g:List Addr,j=g.map V.ref/\Ay Y v/\Paired (BZ a v) g (r.take i)) ⟨[],Z,Ay.refl Y,.nil⟩ (λi j v _ ⟨g,_,O,_⟩=>SqL.of (O _ _ hl)) ?_ ?_
 .rintro i x j v hx ⟨g,rfl,O,I⟩;rw[B8]at hx;obtain⟨c,ec,rfl⟩:=D6.mp hx;refine⟨⟨[some (.str (Bw c))],Z,Z⟩,?_,?_⟩
  .have e1:=K5 I;rw[L7]at e1;rw[B6,e1];exact J8 (U8 _ _) (J8 U A4)
  .refine GO (xq1 Z ⟨c,Z,R.ok c (D5 ec),λq u s4 hq=>⟨g++[q],by rw[C6];rfl,O.trans s4,?_⟩⟩);rw[J3,ec];exact A2b (Paired.imp (λ_ _ z=>z.same s4) I) hq
 .rintro j v ⟨g,rfl,O,I⟩ q nq;rw[B6,L6]at I;refine⟨q,(xq1 Z (.inl ⟨SqL.of Ag,λt ht=>?_⟩))⟩;generalize G:upd (upd v q (.lst (g.map V.ref))) t (.tup (g.map V.ref))=u;have M:Ay v u:=by rw[<-G];exact(AH nq).trans (AH ht)
  have B:u t=some (.tup (g.map V.ref)):=by rw[<-G];exact Ag
  have m:Ay S u:=(s2.trans O).trans M;have W:t≠p:=λz=>by rw[z,m _ _ y]at B;cases B
  refine xq1 Z ⟨p,_,dx,(xq1 Z ⟨m _ _ y,T.cl_Rule,T.na_Rule_clauses,B3,?_⟩)⟩;have up:∀b o,u b=some o->b≠p->upd u p (.ins a.c_Rule dx (fl2 "text" "clauses" (.str (DS r)) (.ref t))) b=some o:=λb o e n=>by rw[As n];exact e
  have cl:∀L c,BZ a u L c->BZ a (upd u p (.ins a.c_Rule dx (fl2 "text" "clauses" (.str (DS r)) (.ref t)))) L c:=λL c hc=>by
   exact hc.put (m _ _ y) (λC d fs e=>by
    cases e;exact⟨Sy A1,Sy A1,Sy A1⟩) (λxs z=>by cases z)
  exact k _ (λb o e n=>up _ _ (m _ _ (k1 b o e n)) n) ⟨dx,t,g,Ag,up _ _ B W,Paired.imp (λL c z=>cl L c (z.same M)) I⟩
noncomputable def CT:List Int:=[0,0,0,0,0,0,0,0]
inductive SpRR(a:Ad)(vs:List V)(H:Hp)(Q:VK):Prop
|mk (r:AI) (_:vs=[.str (DS r)]) (_:MS r) (_:Du r 0 CT=0) (_:∀(p:R_)(H':Hp),Ay H H'->Cy a H' p (DS r) r->Q (.ref p) H'):SpRR a vs H Q
def spRR(a:Ad):Sp:=λvs H Q _=>SpRR a vs H Q
theorem ok_rr(F:Fun K "read_rule" "read_rule" Jw f fd)(T:Top K mg a)(G:Qs P w K mg base CX0 6 "Rule" a.c_Rule NX (spRI a))(C:Cal P w K mg base CX0 5 "becomes" LT (Wa a)) :
 AN P w K mg base CX0 8 f fd Ig (spRR a):=by
 refine F.ok Ml D_9 λD A g s H vs Q E t h=>?_
 obtain⟨r,rfl,q,I,k⟩:=h;refine⟨_,(Ab (AQ (BU (BI (AJ CC Z T.b_isinstance X9 (Aa (pv 0) (Aa (DE (v:=.ty "str") Z T.b_str A1c Z) Ac))))) (Af AY) Ax) (Ab (Ao (i:=1) Ml.nd Z O_9 (Le G (rm t) Z Am (Aa (pv 0) Ac))) (Ab (AQ (Az JK (Aq C (rm t) Z Am (Aa (pv 1) (AF (Br op_rep (CL (AF Ac)) (BT Z T.k_NEIGHBOURS) Ac)))) Ae (AD _)) (Af AY) Ax) (Af (Au (pv 1)))))),?_⟩
 try dsimp only[cxK]
 refine xq1 Z ⟨_,_,_,.type "str",true,Z,Z,.of (.str _),VN K,true,Z,?_⟩;refine AX (xq1 Z ?_);intro x dx u d L;refine⟨x,dx,r,Z,Ag,q,λz kp j=>⟨Z,?_⟩⟩;have M:Ay H z:=λb o e=>kp b o (by rw[As (Av e u),As (Av e d)];exact e) (Av e u);refine xq1 Z ⟨S_1,λl n=>?_⟩;refine⟨l,8,(xq1 Z ⟨Z,Ag,A4,A4,A4,λm p=>?_⟩)⟩;have N:=(M.trans (AH (o:=.lst [.int 0]) n)).trans (AH (o:=.lst (CT.map V.int)) p);have c:=(AH (o:=.lst [.int 0]) n).trans (AH (o:=.lst (CT.map V.int)) p);refine⟨x,m,_,r,0,CT,Z,j.same c,q.rok,Ag,λB y=>?_⟩;refine⟨Z,(xq1 Z ?_)⟩;rw[I];refine PZ Z (xq1 Z ?_);exact k x B (N.trans y) ((j.same c).same y)
end
end J
namespace J
open PySem L2
structure Sq where
parts:List Int
lev:Int
abbrev Gv:=List Sq
structure GA where
p:Addr
dx:Addr
lv:Addr
pt:Addr
nm:Addr
br:Addr
am:Addr
bx:Addr
noncomputable def fl6(g:GA):List (Str×V):=AW "boxes" (.ref g.bx) (AW "amounts" (.ref g.am) (AW "bares" (.ref g.br) (AW "numbers" (.ref g.nm) (AW "parts" (.ref g.pt) (AW "levels" (.ref g.lv) [])))))
theorem EL(g:GA):(fl6 g).lookup ("levels" : Str)=some (V.ref g.lv):=by
 unfold fl6;rw[An,Z4 A1,An,Z4 A1,An,Z4 A1,An,Z4 A1,An,Z4 A1,An,Z7 rfl]
theorem BX(g:GA):(fl6 g).lookup ("parts" : Str)=some (V.ref g.pt):=by
 unfold fl6;rw[An,Z4 A1,An,Z4 A1,An,Z4 A1,An,Z4 A1,An,Z7 rfl]
theorem fl6_nm(g:GA):(fl6 g).lookup ("numbers" : Str)=some (V.ref g.nm):=by
 unfold fl6;rw[An,Z4 A1,An,Z4 A1,An,Z4 A1,An,Z7 rfl]
theorem Jh(g:GA):(fl6 g).lookup ("bares" : Str)=some (V.ref g.br):=by
 unfold fl6;rw[An,Z4 A1,An,Z4 A1,An,Z7 rfl]
theorem Vr(g:GA):(fl6 g).lookup ("amounts" : Str)=some (V.ref g.am):=by
 unfold fl6;rw[An,Z4 A1,An,Z7 rfl]
theorem fl6_bx(g:GA):(fl6 g).lookup ("boxes" : Str)=some (V.ref g.bx):=by
 unfold fl6;rw[An,Z7 rfl]
theorem Fs(g:GA){m:Str}(a:¬m=("boxes" : Str))(b:¬m=("amounts" : Str))(c:¬m=("bares" : Str))(d:¬m=("numbers" : Str))(e:¬m=("parts" : Str))(f:¬m=("levels" : Str)):(fl6 g).lookup m=none:=by
 unfold fl6;rw[An,Z4 a,An,Z4 b,An,Z4 c,An,Z4 d,An,Z4 e,An,Z4 f];rfl
theorem RS(g:GA):(fl6 g).lookup ("kept" : Str)=none:=Fs g A1 A1 A1 A1 A1 A1
theorem BM(g:GA):(fl6 g).lookup ("linked" : Str)=none:=Fs g A1 A1 A1 A1 A1 A1
theorem Px(g:GA):(fl6 g).lookup ("check_square" : Str)=none:=Fs g A1 A1 A1 A1 A1 A1
theorem RQ(g:GA):(fl6 g).lookup ("leaf" : Str)=none:=Fs g A1 A1 A1 A1 A1 A1
theorem DP(g:GA):(fl6 g).lookup ("level_of" : Str)=none:=Fs g A1 A1 A1 A1 A1 A1
theorem Ty(g:GA):(fl6 g).lookup ("solid" : Str)=none:=Fs g A1 A1 A1 A1 A1 A1
theorem Pu(g:GA):(fl6 g).lookup ("state_of" : Str)=none:=Fs g A1 A1 A1 A1 A1 A1
noncomputable def kOf(ps:I_):List Key:=ps.map Sum.inl
theorem kOf_v(a:I_):(kOf a).map kV=a.map V.int:=by unfold kOf;rw[L9];rfl
theorem MJ:∀{a b:I_},kOf a=kOf b->a=b
|[],[],_=>rfl
|[],_::_,h=>by cases h
|_::_,[],h=>by cases h
|x::r,y::t,h=>by
 have h:Sum.inl x::kOf r=(Sum.inl y:Key)::kOf t:=h;injection h with h1 h2
 injection h1 with h1
 rw[h1,MJ h2]
noncomputable def JS:Nat->Gv->List (List Key×V)
|_,[]=>[]
|n,q::r=>(kOf q.parts,.int (n:Int))::JS (n+1) r
theorem TW:∀(G:Gv)(n:Nat),(JS n G).length=G.length
|[],_=>rfl
|q::r,n=>by show(JS (n+1) r).length+1=r.length+1;rw[TW r]
theorem Re(q:Sq):∀(G:Gv)(n:Nat),JS n (G++[q])=JS n G++[(kOf q.parts,.int ((n+G.length:Nat):Int))]
|[],_=>rfl
|p::r,n=>by
 show(kOf p.parts,V.int (n:Int))::JS (n+1) (r++[q])=_;rw[Re q r (n+1)];show _=(kOf p.parts,V.int (n:Int))::(JS (n+1) r++[(kOf q.parts,V.int ((n+(r.length+1):Nat):Int))]);rw[show n+1+r.length=n+(r.length+1) by lia]
theorem Sl(a:I_):∀(G:Gv)(n:Nat),(∃(i:Nat)(q:Sq),G[i]?=some q/\q.parts=a/\Bo (JS n G) (kOf a)=some (.int ((n+i:Nat):Int)))\/(Bo (JS n G) (kOf a)=none/\∀q∈G,q.parts≠a)
|[],n=>.inr ⟨Z,λq b=>by simp at b⟩
|p::r,n=>by
 by_cases e:p.parts=a
 .exact .inl ⟨0,p,Z,e,BL (by rw[e])⟩
 .have c:¬(kOf p.parts,V.int (n:Int)).1=kOf a:=λz=>e (MJ z);rcases Sl a r (n+1)with ⟨i,q,h1,h2,h3⟩|⟨h1,h2⟩
  .refine .inl ⟨i+1,q,h1,h2,?_⟩;show Bo ((kOf p.parts,V.int (n:Int))::JS (n+1) r) (kOf a)=_;rw[Bn c,h3,show n+1+i=n+(i+1) by lia]
  .refine .inr ⟨?_,λq b=>?_⟩
   .show Bo ((kOf p.parts,V.int (n:Int))::JS (n+1) r) (kOf a)=_;rw[Bn c,h1]
   .rcases C1.mp b with rfl|b
    .exact e
    .exact h2 q b
def TupAt(H:Hp)(t:R_)(q:Sq):Prop:=H t=some (.tup (q.parts.map V.int))
structure AM(a:Ad)(H:Hp)(g:GA)(G:Gv):Prop where
hp:H g.p=some (.ins a.c_Grove g.dx (fl6 g))
lv:H g.lv=some (.lst (G.map λq=>.int q.lev))
pt:∃ts:List Addr,H g.pt=some (.lst (ts.map V.ref))/\Paired (TupAt H) ts G
nm:H g.nm=some (.dT (JS 0 G))
ne:g.lv≠g.pt
def Fr(g:GA)(H H':Hp):Prop:=∀b o,H b=some o->b≠g.lv->b≠g.pt->b≠g.nm->H' b=some o
theorem Fr.refl(g:GA)(H:Hp):Fr g H H:=λ_ _ e _ _ _=>e
theorem Fr.trans{g:GA}{a c d:Hp}(h:Fr g a c)(k:Fr g c d):Fr g a d:=λb o e f i j=>k b o (h b o e f i j) f i j
theorem Ay.fr{g:GA}{a c:Hp}(h:Ay a c):Fr g a c:=λb o e _ _ _=>h b o e
theorem PairedM.imp{α β:Type}{F G:α->β->Prop}(h:∀x y,F x y->G x y):∀{l:List α}{m:List β},Paired F l m->Paired G l m
|_,_,.nil=>.nil
|_,_,.cons r t=>.cons (h _ _ r) (PairedM.imp h t)
theorem PairedM.get{α β:Type}{F:α->β->Prop}:∀{l:List α}{m:List β}{i:Nat}{y:β},Paired F l m->m[i]?=some y->∃x,l[i]?=some x/\F x y
|_,_,_,_,.nil,e=>by simp at e
|_,_,0,_,.cons r _,e=>by simp at e;subst e;exact⟨_,Z,r⟩
|_,_,i+1,y,.cons _ t,e=>by
 obtain⟨x,a,b⟩:=PairedM.get (i:=i) (y:=y) t (by simpa using e);exact⟨x,by simpa using a,b⟩
theorem AK{H:Hp}{p:R_}{o:HO}(h:H p=none):Ay H (upd H p o):=λb u e=>by
 rw[As (Av e h)];exact e
theorem AM.same{a:Ad}{H b:Hp}{g:GA}{G:Gv}(s:Ay H b)(h:AM a H g G):AM a b g G:=by
 obtain⟨c,d,⟨k,e,f⟩,i,j⟩:=h;exact⟨s _ _ c,s _ _ d,⟨k,s _ _ e,PairedM.imp (λt q z=>s _ _ z) f⟩,s _ _ i,j⟩
theorem AM.put{a:Ad}{H:Hp}{g:GA}{G:Gv}{l:R_}{xs:List V}{o:HO}(p:H l=some (.lst xs))(r:l≠g.lv)(s:l≠g.pt)(h:AM a H g G):AM a (upd H l o) g G:=by
 obtain⟨d,f,⟨u,i,j⟩,k,m⟩:=h;have c:∀{b v},H b=some v->v≠.lst xs->upd H l o b=some v:=λ{b v} e n=>by rw[As (AE e p n)];exact e
 exact⟨c d A3,by rw[As (X5 r)];exact f,⟨u,by rw[As (X5 s)];exact i,PairedM.imp (λt q z=>c z A3) j⟩,c k A3,m⟩
def Ak(G:Gv)(x:Nat)(l:Int):Prop:=∃q,G[x]?=some q/\q.lev=l
structure GOk(G:Gv):Prop where
leaf:∀s:Nat,s<8->G[s]?=some ⟨[(s:Int)],0⟩
node:∀(i:Nat) q,G[i]?=some q->8<=i->∃x y z w:Nat,q.parts=[(x:Int),(y:Int),(z:Int),(w:Int)]/\(Ak G x (q.lev-1)/\Ak G y (q.lev-1)/\Ak G z (q.lev-1)/\Ak G w (q.lev-1))/\1<=q.lev/\q.lev<=48
nd:(G.map Sq.parts).Nodup
theorem Ak.lt{G:Gv}{x:Nat}{l:Int}(h:Ak G x l):x<G.length:=by
 obtain⟨q,h,_⟩:=h;exact(B7.mp h).1
theorem ML{G r:Gv}{x:Nat}{q:Sq}(h:G[x]?=some q):(G++r)[x]?=some q:=by
 rw[M4 (B7.mp h).1];exact h
theorem Ak.app{G r:Gv}{x:Nat}{l:Int}(h:Ak G x l):Ak (G++r) x l:=by
 obtain⟨q,h,e⟩:=h;exact⟨q,ML h,e⟩
theorem GOk.lev{G:Gv}(h:GOk G){i:Nat}{q:Sq}(e:G[i]?=some q):0<=q.lev/\q.lev<=48:=by
 by_cases b:i<8
 .rw[h.leaf i b]at e;cases e;exact⟨Q5 0,by show(0:Int)<=48;decide⟩
 .obtain⟨x,y,z,w,_,_,c,a⟩:=h.node i q e A0;exact⟨by lia,a⟩
theorem GOk.snoc{G:Gv}(h:GOk G){x y z w:Nat}{l:Int}(B:Ak G x l)(C:Ak G y l)(D:Ak G z l)(A:Ak G w l)(n:l<=47)(new:∀q∈G,q.parts≠[(x:Int),(y:Int),(z:Int),(w:Int)]):GOk (G++[⟨[(x:Int),(y:Int),(z:Int),(w:Int)],l+1⟩]) where
 leaf:=λs v=>ML (h.leaf s v)
 node:=λi q e o=>by
  by_cases r:i<G.length
  .rw[M4 r]at e;obtain⟨x,y,z,w,k,⟨c,d,f,g⟩,m⟩:=h.node i q e o;exact⟨x,y,z,w,k,⟨c.app,d.app,f.app,g.app⟩,m⟩
  .rw[F8 A0]at e;have:i-G.length=0:=by
    by_cases z:i-G.length=0
    .exact z
    .rw[R9 (by rw[R8];lia)]at e;cases e
   rw[this]at e;cases e;obtain⟨H,b,E⟩:=B;have:=(h.lev b).1;have j:l+1-1=l:=by lia
   refine⟨x,y,z,w,Z,?_,?_,?_⟩
   .show Ak _ x (l+1-1)/\Ak _ y (l+1-1)/\Ak _ z (l+1-1)/\Ak _ w (l+1-1);rw[j];exact⟨Ak.app ⟨H,b,E⟩,C.app,D.app,A.app⟩
   .show 1<=l+1;lia
   .show l+1<=48;lia
 nd:=by
  rw[C6,O8];refine⟨h.nd,by simp,λp t F a=>?_⟩;obtain⟨q,u,rfl⟩:=C8.mp t;rw[show F=[(x:Int),(y:Int),(z:Int),(w:Int)] by simpa using a];exact new q u
theorem GOk.one{G:Gv}(h:GOk G){i j:Nat}{p q:Sq}(a:G[i]?=some p)(b:G[j]?=some q)(e:p.parts=q.parts):i=j:=by
 have d:=(B7.mp a).1;have f:=(B7.mp b).1;have c:(G.map Sq.parts)[i]'(by rw[B6];exact d)=(G.map Sq.parts)[j]'(by rw[B6];exact f):=by
  rw[V1,V1,(B7.mp a).2,(B7.mp b).2,e]
 exact(List.getElem_inj h.nd).mp c
seal L2.PA L2.PE L2.PS L2.PSs L2.PT L2.PW
theorem Dv{n:Nat}(h:n<10000000):n<sizeLine:=F3 h A4
theorem NY(K:O_):kitOne K (.type "int") (.type "int")=some true/\kitOne K (.type "int") (.type "bool")=some false:=⟨by kernel_rfl,by kernel_rfl⟩
section
variable{P:N_}{w:Q_}{K:O_}{mg:C_}{base:T_}{a:Ad}
inductive SpIW(vs:List V)(H:Hp)(Q:VK):Prop
|mk (i:Int) (_:vs=[.int i]) (_:Q (.bl true) H):SpIW vs H Q
def UE:Sp:=λvs H Q _=>SpIW vs H Q
theorem ok_iw(F:Fun K "is_whole" "is_whole" LI f fd)(T:Top K mg a):AN P w K mg base CX0 1 f fd UY UE:=by
 refine F.ok Th D_9 λc A b s H vs Q E d h=>?_
 obtain⟨i,rfl,k⟩:=h;exact⟨_,(Af (Au (JD (AJ CC Z T.b_isinstance X9 (Aa (pv 0) (Aa (DE (v:=.ty "int") Z T.b_int A0d Z) Ac))) (LR (pe_not (AJ CC Z T.b_isinstance X9 (Aa (pv 0) (Aa (DE (v:=.ty "bool") Z T.b_bool A3g Z) Ac)))))))),(xq1 Z ⟨_,_,_,.type "int",true,Z,Z,.of (.int i),(NY K).1,true,Z,Cg (xq1 Z ⟨_,_,_,.type "int",false,Z,Z,.of (.int i),(NY K).2,false,Z,k⟩)⟩)⟩
inductive SpIS(vs:List V)(H:Hp)(Q:VK):Prop
|mk (i:Int) (_:vs=[.int i]) (_:0<=i) (_:i<8) (_:Q (.bl true) H):SpIS vs H Q
def ZD:Sp:=λvs H Q _=>SpIS vs H Q
theorem ok_is(F:Fun K "is_state" "is_state" LJ f fd)(T:Top K mg a)(c:Cal P w K mg base CX0 1 "is_whole" UY UE):AN P w K mg base CX0 2 f fd UY ZD:=by
 refine F.ok Ti D_9 λd A b s H vs Q E j h=>?_
 obtain⟨i,rfl,e,g,k⟩:=h;refine⟨_,(Af (Au (JD (Aq c (rm j) Z Am (Aa (pv 0) Ac)) (LR (pe_chain JL GN Ae (pv 0) (BT Z T.k_STATES)))))),?_⟩
 try dsimp only[cxK]
 refine xq1 Z ⟨i,Z,true,Z,Cg (xwb Z Z Z (xq1 Z ?_))⟩;rw[Z5 e];refine Cg (xq2 Z Z ?_);show Q (.bl (decide (i<8))) H;rw[Z5 g];exact k
inductive SpKept(a:Ad)(vs:List V)(H:Hp)(Q:VK):Prop
|mk (g:GA) (G:Gv) (t:R_) (ps:I_) (l:Int) (_:vs=[.ref g.p,.ref t,.int l]) (_:AM a H g G) (_:H t=some (.tup (ps.map V.int))) (_:(∀q∈G,q.parts≠ps)) (_:G.length<9000000) (_:∀H',Fr g H H'->AM a H' g (G++[⟨ps,l⟩])->Q (.int (G.length:Int)) H'):SpKept a vs H Q
def RE(a:Ad):Sp:=λvs H Q _=>SpKept a vs H Q
theorem ok_kept(F:Fun K "kept" "Grove.kept" IS f fd)(T:Top K mg a):AN P w K mg base CX0 1 f fd FC (RE a):=by
 refine F.ok Lz D_9 λaa A Y s H vs Q E hr h=>?_
 obtain⟨g,G,t,j,l,rfl,hg,ht,new,few,k⟩:=h;obtain⟨d,r,⟨S,O,h4⟩,y,U⟩:=hg;have lt:S.length=G.length:=K5 h4;refine⟨_,(Ab (Ao (i:=3) Lz.nd Z O_9 (AJ BD Z T.b_len K8 (Aa (AB (pv 0) Z) Ac))) (Ab (Fz (DV hr) (AB (pv 0) Z) (pv 1) (pv 3) Z) (Ab (BC (Fe K2 K3 K4 Cc (AB (pv 0) Z) (Aa (pv 2) Ac))) (Ab (BC (Fe K2 K3 K4 Cc (AB (pv 0) Z) (Aa (pv 1) Ac))) (Af (Au (pv 3))))))),?_⟩
 try dsimp only[cxK]
 refine xwf Z Z d T.cl_Grove T.na_Grove_levels (EL g) ⟨g.lv,(xq1 Z ⟨.inl (SqL.of r),?_⟩)⟩;rw[B6];have ne1:g.p≠g.nm:=AE d y A3;have m:g.lv≠g.nm:=AE r y A3;have I:g.pt≠g.nm:=AE O y A3;have L:g.p≠g.lv:=AE d r A3;have X:g.p≠g.pt:=AE d O A3;have vn:Bo (JS 0 G) (kOf j)=none:=by
  rcases Sl j G 0 with ⟨i,q,e1,e2,_⟩|⟨e,_⟩
  .exact absurd e2 (new q (D5 e1))
  .exact e
 refine xw2 Z Z (xq5 d T.cl_Grove T.na_Grove_numbers (fl6_nm g) (xq1 Z ⟨g.nm,(xq1 Z ⟨Mb.t (k:=kOf j) y (by rw[kOf_v];exact ht) (by rw[TW];exact Dv A0),?_⟩)⟩));rw[Iz _ vn];have e5:JS 0 G++[(kOf j,V.int (G.length:Int))]=JS 0 (G++[⟨j,l⟩]):=by rw[Re,M8]
 rw[e5];generalize B:upd H g.nm (.dT (JS 0 (G++[⟨j,l⟩])))=M;have u:∀b o,H b=some o->b≠g.nm->M b=some o:=λb o e n=>by rw[<-B,As n];exact e
 have n1:M g.nm=some (.dT (JS 0 (G++[⟨j,l⟩]))):=by rw[<-B];exact Ag
 refine xwf Z Z (u _ _ d ne1) T.cl_Grove T.na_Grove_levels (EL g) ⟨.inl ⟨Z,_,SqL.of (u _ _ r m)⟩,(xq1 Z ⟨g.lv,(xq2 Z Z ⟨u _ _ r m,by rw[B6];exact Dv A0,?_⟩)⟩)⟩;generalize C:upd M g.lv (.lst ((G.map λq=>V.int q.lev)++[.int l]))=N;have R:∀b o,M b=some o->b≠g.lv->N b=some o:=λb o e n=>by rw[<-C,As n];exact e
 have n2:N g.lv=some (.lst ((G++[(⟨j,l⟩:Sq)]).map λq=>V.int q.lev)):=by rw[<-C,Ag,C6];rfl
 have x:=R _ _ (u _ _ O I) (X5 U);refine xwf Z Z (R _ _ (u _ _ d ne1) L) T.cl_Grove T.na_Grove_parts (BX g) ⟨.inl ⟨Z,_,SqL.of x⟩,(xq1 Z ⟨g.pt,(xq2 Z Z ⟨x,by rw[B6,lt];exact Dv A0,?_⟩)⟩)⟩;generalize D:upd N g.pt (.lst (S.map V.ref++[.ref t]))=v;have W:∀b o,N b=some o->b≠g.pt->v b=some o:=λb o e n=>by rw[<-D,As n];exact e
 have n3:v g.pt=some (.lst ((S++[t]).map V.ref)):=by rw[<-D,Ag,C6];rfl
 have fr:Fr g H v:=λb o e m1 m2 m3=>W _ _ (R _ _ (u _ _ e m3) m1) m2;have tp:∀(c:R_)(xs:List V),H c=some (.tup xs)->v c=some (.tup xs):=λc xs e=>fr _ _ e (AE e r A3) (AE e O A3) (AE e y A3);refine xq1 Z (k v fr ⟨fr _ _ d L X ne1,W _ _ n2 U,⟨S++[t],n3,A2b (PairedM.imp (λc q z=>tp c _ z) h4) (tp t _ ht)⟩,W _ _ (R _ _ n1 (X5 m)) (X5 I),U⟩)
structure AG(G G':Gv)(n:Nat):Prop where
ok:GOk G'
pre:∃r,G'=G++r
few:G'.length<=G.length+n
theorem AG.refl{G:Gv}(h:GOk G):AG G G 0:=⟨h,⟨[],by simp⟩,C0 _⟩
theorem AG.trans{G d b:Gv}{n m:Nat}(h:AG G d n)(c:AG d b m):AG G b (n+m):=by
 obtain⟨r,e⟩:=h.pre;obtain⟨t,f⟩:=c.pre;have g:=h.few;have i:=c.few;exact⟨c.ok,⟨r++t,by rw[f,e,Q4]⟩,by lia⟩
theorem AG.get{G b:Gv}{n x:Nat}{q:Sq}(h:AG G b n)(e:G[x]?=some q):b[x]?=some q:=by
 obtain⟨r,c⟩:=h.pre;rw[c];exact ML e
theorem AG.lev{G b:Gv}{n x:Nat}{l:Int}(h:AG G b n)(e:Ak G x l):Ak b x l:=by
 obtain⟨q,e,z⟩:=e;exact⟨q,h.get e,z⟩
inductive Vy(a:Ad)(vs:List V)(H:Hp)(Q:VK):Prop
|mk (g:GA) (G:Gv) (t:R_) (x y z w:Nat) (l:Int) (_:vs=[.ref g.p,.ref t]) (_:AM a H g G) (_:GOk G) (_:H t=some (.tup [.int x,.int y,.int z,.int w])) (_:(Ak G x l/\Ak G y l/\Ak G z l/\Ak G w l)) (_:l<=47) (_:G.length<9000000) (_:∀(n:Nat)(G':Gv)(H':Hp),Fr g H H'->AM a H' g G'->AG G G' 1->G'[n]?=some ⟨[(x:Int),(y:Int),(z:Int),(w:Int)],l+1⟩->Q (.int n) H'):Vy a vs H Q
def DI(a:Ad):Sp:=λvs H Q _=>Vy a vs H Q
theorem ok_link(F:Fun K "linked" "Grove.linked" Ga f fd)(T:Top K mg a)(R:BJ P w K mg base CX0 1 a.c_Grove "kept" FC (RE a)):AN P w K mg base CX0 2 f fd AU (DI a):=by
 refine F.ok Jp D_9 λS A v s H vs Q E I h=>?_
 obtain⟨g,G,t,x,y,z,w,l,rfl,D,ok,r,⟨u,hy,hz,Y⟩,o,few,k⟩:=h;have d:=D;obtain⟨n,W,⟨ts,h3,h4⟩,C,h6⟩:=D;refine⟨_,(Ab (Ao (i:=2) Jp.nd Z O_9 (JC (DV I) (AB (pv 0) Z) (pv 1) ⟨Z,Z,Z,Z⟩)) (Ab (AQ (Az Je (pv 2) DK (AD _)) (Af (Au (AC (pv 0) R (rm I) Am (Aa (pv 1) (Br AZ (Ai Aw (AB (pv 0) Z) (Ai Al (pv 1) Ae R_9) R_9) Ae Ac))))) Ax) (Af (Au (pv 2))))),?_⟩
 try dsimp only[cxK]
 refine xwf Z Z n T.cl_Grove T.na_Grove_numbers (fl6_nm g) ⟨g.nm,Z,.inr ⟨_,.inl C⟩,(xq1 Z ⟨_,Jm.t (k:=kOf [(x:Int),(y:Int),(z:Int),(w:Int)]) C (by rw[kOf_v];exact r),?_⟩)⟩;rcases Sl [(x:Int),(y:Int),(z:Int),(w:Int)] G 0 with ⟨i,q,c,b,U⟩|⟨e,new⟩
 .rw[U];refine xq1 Z ⟨Z,(xq1 Z (AX (xq1 Z ?_)))⟩;rw[M8];refine k i G H (Fr.refl g H) d ⟨ok,⟨[],by simp⟩,by lia⟩ ?_;have X:8<=i:=by
   refine P6 λM=>?_;rw[ok.leaf i M]at c;cases c;cases b
  obtain⟨x',y',M,w',p1,⟨L,_⟩,_⟩:=ok.node i q c X;have m:x'=x:=by
   rw[p1]at b;injection b with b _
   exact Z9 b
  rw[m]at L;obtain⟨qa,O,a2⟩:=L;obtain⟨qb,B,b2⟩:=u;rw[O]at B;cases B;have V:q.lev=l+1:=by lia
  rw[c];cases q with
  |mk pp ll=>cases b;cases V;rfl
 .rw[e];refine xq1 Z ⟨Z,(xq1 Z (Cg ?_))⟩;obtain⟨q,c,b⟩:=id u;refine xwn Z Z n (RS g) Z (xwf Z Z n T.cl_Grove T.na_Grove_levels (EL g) (xwi Z Z Z (SqT.of r) (Ah (j:=0) Z) (xq4 Z Z (SqL.of W) (Ah (by rw[B8,c];rfl)) (xq2 Z Z ?_))));refine⟨g,G,t,[(x:Int),(y:Int),(z:Int),(w:Int)],l+1,by rw[<-b];rfl,d,r,new,few,λN fr p=>?_⟩;refine k G.length _ N fr p ⟨ok.snoc u hy hz Y o new,⟨_,Z⟩,by rw[C3];exact C0 _⟩ ?_;rw[F8 (C0 _),V6];rfl
inductive SpChk(a:Ad)(vs:List V)(H:Hp)(Q:VK):Prop
|mk (g:GA) (G:Gv) (i:Nat) (_:vs=[.ref g.p,.int i]) (_:AM a H g G) (_:i<G.length) (_:Q .non H):SpChk a vs H Q
def Td(a:Ad):Sp:=λvs H Q _=>SpChk a vs H Q
theorem ok_chk(F:Fun K "check_square" "Grove.check_square" Da f fd)(T:Top K mg a)(d:Cal P w K mg base CX0 1 "is_whole" UY UE):AN P w K mg base CX0 2 f fd JP (Td a):=by
 refine F.ok Jr D_9 λe A b s H vs Q E j h=>?_
 obtain⟨g,G,i,rfl,c,l,k⟩:=h;refine⟨_,(Af (AQ (PW.pt (Gd (BU (BI (Aq d (rm j) Z Am (Aa (pv 1) Ac)))) (El (BU (Pl JL GN Ae (pv 1) (AJ BD Z T.b_len K8 (Aa (AB (pv 0) Z) Ac))))))) (Af AY) Ax)),?_⟩
 try dsimp only[cxK]
 refine⟨_,Z,_,Z,true,Z,AX ⟨_,Z,_,_,Z,Z,_,Z,?_⟩⟩;rw[Z5 (by lia:(0:Int)<=(i:Int))];refine Cg (xwf Z Z c.hp T.cl_Grove T.na_Grove_levels (EL g) ⟨g.lv,(xq1 Z ⟨.inl (SqL.of c.lv),(xq2 Z Z (xq1 Z ?_))⟩)⟩);rw[B6,Z5 (by lia:(i:Int)<(G.length:Int))];exact AX k
inductive SpLeaf(a:Ad)(vs:List V)(H:Hp)(Q:VK):Prop
|mk (p:R_) (i:Int) (_:vs=[.ref p,.int i]) (_:0<=i) (_:i<8) (_:Q (.int i) H):SpLeaf a vs H Q
def OR(a:Ad):Sp:=λvs H Q _=>SpLeaf a vs H Q
theorem ok_leaf(F:Fun K "leaf" "Grove.leaf" IR f fd)(T:Top K mg a)(c:Cal P w K mg base CX0 2 "is_state" UY ZD):AN P w K mg base CX0 3 f fd Sf (OR a):=by
 refine F.ok QA D_9 λd A b s H vs Q E l h=>?_
 obtain⟨g,i,rfl,e,j,k⟩:=h;exact⟨_,(Ab (AQ (BU (BI (Aq c (rm l) Z Am (Aa (pv 1) Ac)))) (Af AY) Ax) (Af (Au (pv 1)))),(xq1 Z ⟨i,Z,e,j,true,Z,AX (xq1 Z k)⟩)⟩
inductive SpLev(a:Ad)(vs:List V)(H:Hp)(Q:VK):Prop
|mk (g:GA) (G:Gv) (i:Nat) (q:Sq) (_:vs=[.ref g.p,.int i]) (_:AM a H g G) (_:G[i]?=some q) (_:Q (.int q.lev) H):SpLev a vs H Q
def Mi(a:Ad):Sp:=λvs H Q _=>SpLev a vs H Q
theorem ok_lev(F:Fun K "level_of" "Grove.level_of" EE f fd)(T:Top K mg a)(e:BJ P w K mg base CX0 2 a.c_Grove "check_square" JP (Td a)):AN P w K mg base CX0 3 f fd JP (Mi a):=by
 refine F.ok Mr D_9 λj A c s H vs Q E l h=>?_
 obtain⟨g,G,i,q,rfl,b,d,k⟩:=h;refine⟨_,(Ab (BC (AC (pv 0) e (rm l) Am (Aa (pv 1) Ac))) (Af (Au (Ai Aw (AB (pv 0) Z) (pv 1) R_9)))),?_⟩
 try dsimp only[cxK]
 refine xwn Z Z b.hp (Px g) Z ⟨g,G,i,Z,b,(B7.mp d).1,?_⟩;exact xwf Z Z b.hp T.cl_Grove T.na_Grove_levels (EL g) (xwi Z Z Z (SqL.of b.lv) (Ah (by rw[B8,d];rfl)) k)
inductive SpSta(a:Ad)(vs:List V)(H:Hp)(Q:VK):Prop
|mk (g:GA) (G:Gv) (i:Nat) (q:Sq) (_:vs=[.ref g.p,.int i]) (_:AM a H g G) (_:G[i]?=some q) (_:q.lev=0) (_:Q (.int i) H):SpSta a vs H Q
def VQ(a:Ad):Sp:=λvs H Q _=>SpSta a vs H Q
theorem ok_sta(F:Fun K "state_of" "Grove.state_of" ED f fd)(T:Top K mg a)(d:BJ P w K mg base CX0 3 a.c_Grove "level_of" JP (Mi a)):AN P w K mg base CX0 4 f fd JP (VQ a):=by
 refine F.ok Mq D_9 λe A b s H vs Q E m h=>?_
 obtain⟨g,G,i,q,rfl,c,l,j,k⟩:=h;refine⟨_,(Ab (AQ (Az JK (AC (pv 0) d (rm m) Am (Aa (pv 1) Ac)) Ae (AD _)) (Af AY) Ax) (Af (Au (pv 1)))),?_⟩
 try dsimp only[cxK]
 refine xwn Z Z c.hp (DP g) Z ⟨g,G,i,q,Z,c,l,Z,(xq1 Z ?_)⟩;rw[j];exact PZ Z (xq1 Z k)
end
def Sol(G:Gv)(s:Nat):Nat->Nat->Prop
|0,n=>n=s
|l+1,n=>∃m:Nat,Sol G s l m/\G[n]?=some ⟨[(m:Int),(m:Int),(m:Int),(m:Int)],(l:Int)+1⟩
theorem Sol.lev{G:Gv}(h:GOk G){s:Nat}(a:s<8):∀{l n:Nat},Sol G s l n->Ak G n l
|0,n,e=>by
 have e:n=s:=e;subst e;exact⟨_,h.leaf n a,Z⟩
|l+1,n,e=>by
 obtain⟨m,_,e⟩:=e;exact⟨_,e,Z⟩
theorem Sol.goes{G a:Gv}{k:Nat}(h:AG G a k){s:Nat}:∀{l n:Nat},Sol G s l n->Sol a s l n
|0,n,e=>e
|l+1,n,e=>by
 obtain⟨m,b,c⟩:=e;exact⟨m,Sol.goes h b,h.get c⟩
section
variable{P:N_}{w:Q_}{K:O_}{mg:C_}{base:T_}{a:Ad}
inductive WQ(a:Ad)(vs:List V)(H:Hp)(Q:VK):Prop
|mk (g:GA) (G:Gv) (l s:Nat) (_:vs=[.ref g.p,.int l,.int s]) (_:AM a H g G) (_:GOk G) (_:l<=48) (_:s<8) (_:G.length<8000000) (_:∀(n:Nat)(G':Gv)(H':Hp),Fr g H H'->AM a H' g G'->AG G G' l->Sol G' s l n->Q (.int n) H'):WQ a vs H Q
def Ov(a:Ad):Sp:=λvs H Q _=>WQ a vs H Q
theorem ok_solid(F:Fun K "solid" "Grove.solid" Ib f fd)(T:Top K mg a)(L:Cal P w K mg base CX0 1 "is_whole" UY UE)(M:BJ P w K mg base CX0 3 a.c_Grove "leaf" Sf (OR a))(I:BJ P w K mg base CX0 2 a.c_Grove "linked" AU (DI a)):AN P w K mg base CX0 4 f fd EX (Ov a):=by
 refine F.ok Eg D_9 λN A z s H vs Q E y h=>?_
 obtain⟨g,G,l,r,rfl,C,ok,O,R,few,k⟩:=h;refine⟨_,(Ab (AQ (PW.pt (Gd (BU (BI (Aq L (rm y) Z Am (Aa (pv 1) Ac)))) (El (BU (Pl JL JL Ae (pv 1) (BT Z T.k_TOP_LEVEL)))))) (Af AY) Ax) (Ab (Ao (i:=3) Eg.nd Z O_9 (AC (pv 0) M (rm y) Am (Aa (pv 2) Ac))) (Ab (CK X8 Z (EF Z T.b_range (Aa (pv 1) Ac)) (Bv (i:=4) Eg.nd Z O_9) (Af (Ao (i:=3) Eg.nd Z O_9 (AC (pv 0) I (rm y) Am (AV (Aa (pv 3) (Aa (pv 3) (Aa (pv 3) (Aa (pv 3) Ac)))) Ac))))) (Af (Au (pv 3)))))),?_⟩
 try dsimp only[cxK]
 refine⟨_,Z,_,Z,true,Z,AX ⟨_,Z,_,_,Z,Z,_,Z,?_⟩⟩;rw[Z5 (by lia:(0:Int)<=(l:Int))];refine Cg (xq2 Z Z (xq1 Z ?_));rw[Z5 (by lia:(l:Int)<=(48:Int))];refine AX (xwn Z Z C.hp (RQ g) Z ⟨g.p,(r:Int),Z,by lia,by lia,?_⟩);refine xw2 Z Z ⟨by lia,by lia,?_⟩;rw[F4];refine EK (n:=l) (λi σ d=>∃(c:Gv)(m:Nat)(B:Option V),σ=[some (.ref g.p),some (.int l),some (.int r),some (.int m),B]/\Fr g H d/\AM a d g c/\AG G c i/\Sol c r i m) ⟨G,r,none,Z,Fr.refl g H,C,AG.refl ok,Z⟩ ?_ ?_
 .rintro i σ d W ⟨c,m,B,rfl,fr,b,go,q⟩;have X:=go.few;have lm:=Sol.lev go.ok R q;refine xwn Z Z b.hp (BM g) Z (xw3 Z Z Z ⟨S_4,λt S=>?_⟩);have D:=AK (o:=.tup [.int m,.int m,.int m,.int m]) S;refine⟨g,c,t,m,m,m,m,(i:Int),Z,b.same D,go.ok,Ag,⟨lm,lm,lm,lm⟩,by lia,by lia,λn u U v x j e=>?_⟩;exact⟨u,n,(xq1 Z ⟨(fr.trans (Ay.fr D)).trans v,x,go.trans j,m,Sol.goes j q,e⟩)⟩
 .rintro σ d ⟨c,m,B,rfl,fr,b,go,q⟩;exact xq1 Z (k m c d fr b go q)
end
end J
namespace J
open PySem L2
noncomputable def bareN:Nat->Nat
|0=>0
|j+1=>8+j
noncomputable def DU(n:Nat):Gv:=(List.range n).map λ(s:Nat)=>(⟨[(s:Int)],0⟩:Sq)
noncomputable def Gy(n:Nat):Gv:=(List.range n).map λ(j:Nat)=>(⟨[(bareN j:Int),(bareN j:Int),(bareN j:Int),(bareN j:Int)],(j:Int)+1⟩:Sq)
noncomputable def G0:Gv:=DU 8++Gy 48
theorem Vi(n:Nat):DU (n+1)=DU n++[⟨[(n:Int)],0⟩]:=by unfold DU;rw[M5,C6];rfl
theorem Qn(n:Nat):Gy (n+1)=Gy n++[⟨[(bareN n:Int),(bareN n:Int),(bareN n:Int),(bareN n:Int)],(n:Int)+1⟩]:=by unfold Gy;rw[M5,C6];rfl
theorem FI(n:Nat):(DU n).length=n:=by unfold DU;rw[B6,F9]
theorem Rx(n:Nat):(Gy n).length=n:=by unfold Gy;rw[B6,F9]
theorem Zg{i j:Nat}(h:bareN i=bareN j):i=j:=by
 cases i<;>cases j
 .rfl
 .have:0=8+_:=h;lia
 .have:8+_=0:=h;lia
 .have:8+_=8+_:=h;lia
theorem YO(n:Nat):∀q∈DU n,q.parts≠[(n:Int)]:=λq a z=>by
 obtain⟨s,b,rfl⟩:=C8.mp a;have:=F1.mp b;injection z with z _
 have:s=n:=Z9 z;lia
theorem Rw(n:Nat):∀q∈DU 8++Gy n,q.parts≠[(bareN n:Int),(bareN n:Int),(bareN n:Int),(bareN n:Int)]:=λq a z=>by
 rcases D8.mp a with a|a
 .obtain⟨s,b,rfl⟩:=C8.mp a;cases z
 .obtain⟨s,b,rfl⟩:=C8.mp a;have:=F1.mp b;injection z with z _
  have:=Zg (Z9 z);lia
theorem LX:G0.length=56:=by unfold G0;rw[C3,FI,Rx]
theorem OH(j:Nat)(h:j<48):G0[8+j]?=some ⟨[(bareN j:Int),(bareN j:Int),(bareN j:Int),(bareN j:Int)],(j:Int)+1⟩:=by
 unfold G0;rw[F8 (by rw[FI];lia),FI,show 8+j-8=j by lia];unfold Gy;rw[B8,N7 h];rfl
theorem Su(s:Nat)(h:s<8):G0[s]?=some ⟨[(s:Int)],0⟩:=by
 unfold G0;rw[M4 (by rw[FI];exact h)];unfold DU;rw[B8,N7 h];rfl
theorem g0_lev(j:Nat)(h:j<=48):Ak G0 (bareN j) (j:Int):=by
 cases j with
 |zero=>exact⟨_,Su 0 A4,Z⟩
 |succ j=>exact⟨_,OH j A0,Z⟩
theorem g0_nd:∀n,((DU 8++Gy n).map Sq.parts).Nodup
|0=>by decide
|n+1=>by
 rw[Qn,<-Q4,C6,O8];refine⟨g0_nd n,by simp,λp b d a=>?_⟩;obtain⟨q,c,rfl⟩:=C8.mp b;rw[show d=[(bareN n:Int),(bareN n:Int),(bareN n:Int),(bareN n:Int)] by simpa using a];exact Rw n q c
theorem g0_ok:GOk G0 where
 leaf:=Su
 node:=λi q e a=>by
  have b:i<56:=by rw[<-LX];exact(B7.mp e).1
  obtain⟨j,rfl⟩:∃j,i=8+j:=⟨i-8,by lia⟩
  rw[OH j A0]at e;cases e;have:=g0_lev j A0;refine⟨bareN j,bareN j,bareN j,bareN j,Z,?_,?_,?_⟩
  .show Ak G0 _ ((j:Int)+1-1)/\Ak G0 _ ((j:Int)+1-1)/\Ak G0 _ ((j:Int)+1-1)/\Ak G0 _ ((j:Int)+1-1);rw[show(j:Int)+1-1=(j:Int) by lia];exact⟨this,this,this,this⟩
  .show 1<=(j:Int)+1;lia
  .show(j:Int)+1<=48;lia
 nd:=g0_nd 48
noncomputable def amK(n:Nat):List (Key×V):=(List.range n).map λ(s:Nat)=>(Sum.inl (s:Int),V.int (if(1:Int)<(s:Int)then 1 else(s:Int)))
theorem Us(n:Nat):amK (n+1)=amK n++[(Sum.inl (n:Int),V.int (if(1:Int)<(n:Int)then 1 else(n:Int)))]:=by unfold amK;rw[M5,C6];rfl
theorem amK_len(n:Nat):(amK n).length=n:=by unfold amK;rw[B6,F9]
theorem Rz{κ:Type}[DecidableEq κ]{k:κ}:∀{l m:List (κ×V)},Bo l k=none->Bo (l++m) k=Bo m k
|[],_,_=>rfl
|p::r,m,h=>by
 by_cases e:p.1=k
 .rw[BL e]at h;cases h
 .rw[Bn e]at h;show Bo (p::(r++m)) k=_;rw[Bn e];exact Rz h
theorem Ut(n:Nat):∀m,n<=m->Bo (amK n) (Sum.inl (m:Int))=none:=by
 induction n with
 |zero=>intro m _;rfl
 |succ n a =>
  intro m b;rw[Us,Rz (a m A0),Bn (by intro z;injection z with z;have:=Z9 z;lia)];rfl
noncomputable def Dh(n:Nat):List Int:=(List.range (n+1)).map λj=>((bareN j:Nat):Int)
theorem Qo(n:Nat):Dh (n+1)=Dh n++[((bareN (n+1):Nat):Int)]:=by unfold Dh;rw[M5,C6];rfl
theorem Vv(n:Nat):(Dh n).getLast?=some ((bareN n:Nat):Int):=by
 cases n with
 |zero=>rfl
 |succ n=>rw[Qo,List.getLast?_append];rfl
theorem at_lastV{xs:List V}{x:V}(h:xs.getLast?=some x):atI xs (-1)=some x:=by
 obtain⟨ys,rfl⟩:=List.getLast?_eq_some_iff.mp h;unfold atI ixN;rw[Z4 A4,Z7 (by rw[C3,R8];lia)];show(ys++[x])[((-1:Int)+((ys++[x]).length:Nat)).toNat]?=some x;rw[C3,R8,show((-1:Int)+((ys.length+1:Nat):Int)).toNat=ys.length by lia,F8 (C0 _),V6];rfl
seal L2.PA L2.PE L2.PS L2.PSs L2.PT L2.PW
structure Uy(a:Ad)(H H':Hp)(g:GA)(G:Gv)(B:I_)(am:List (Key×V)):Prop where
kp:∀b o,H b=some o->b≠g.p->H' b=some o
at':AM a H' g G
br:H' g.br=some (.lst (B.map V.int))
am:H' g.am=some (.dK am)
bx:H' g.bx=some (.dK [])
fresh:H g.lv=none/\H g.pt=none/\H g.nm=none/\H g.br=none/\H g.am=none/\H g.bx=none
n1:g.br≠g.lv
n2:g.br≠g.pt
n3:g.am≠g.bx
section
variable{P:N_}{w:Q_}{K:O_}{mg:C_}{base:T_}{a:Ad}
inductive WX(a:Ad)(vs:List V)(H:Hp)(Q:VK):Prop
|mk (p dx:R_) (_:vs=[.ref p]) (_:H p=some (.ins a.c_Grove dx [])) (_:∀(g:GA)(H':Hp),g.p=p->Uy a H H' g G0 (Dh 48) (amK 8)->Q .non H'):WX a vs H Q
def Oy(a:Ad):Sp:=λvs H Q _=>WX a vs H Q
theorem ok_ginit(F:Fun K "__init__" "Grove.__init__" IT f fd)(T:Top K mg a)(aT:BJ P w K mg base CX0 1 a.c_Grove "kept" FC (RE a)):AN P w K mg base CX0 2 f fd FD (Oy a):=by
 refine F.ok EN D_9 λav A as s H vs Q E hr h=>?_
 obtain⟨p,dx,rfl,hp,k⟩:=h;refine⟨_,(Ab (Cv (pv 0) (CL Ac) Z) (Ab (Cv (pv 0) (CL Ac) Z) (Ab (Cv (pv 0) Mv Z) (Ab (Cv (pv 0) (CL (AF Ac)) Z) (Ab (Cv (pv 0) Mw Z) (Ab (Cv (pv 0) Mw Z) (Ab (CK X8 Z (EF Z T.b_range (Aa (BT Z T.k_STATES) Ac)) (Bv (i:=1) EN.nd Z O_9) (Ab (BC (AC (pv 0) aT (rm hr) Am (AV (Aa (pv 1) Ac) (AF Ac)))) (Af (Fz (DV hr) (AB (pv 0) Z) (pv 1) (AJ (FK Z) Z T.b_min A0b (Aa (pv 1) (AF Ac))) Z)))) (Af (CK X8 Z (Nl Z T.b_range (AF (Br AZ (BT Z T.k_TOP_LEVEL) Ae Ac))) (Bv (i:=2) EN.nd Z O_9) (Ab (Ao (i:=3) EN.nd Z O_9 (Ai Aw (AB (pv 0) Z) (Fd CU Ae) R_9)) (Af (BC (Fe K2 K3 K4 Cc (AB (pv 0) Z) (Aa (AC (pv 0) aT (rm hr) Am (AV (Aa (pv 3) (Aa (pv 3) (Aa (pv 3) (Aa (pv 3) Ac)))) (Aa (pv 2) Ac))) Ac)))))))))))))),?_⟩
 try dsimp only[cxK]
 have stp:∀{u:Hp}{x:R_}{o:HO}{fs fs':List (Str×V)},u p=some (.ins a.c_Grove dx fs)->u x=none->(∀b v,u b=some v->b≠p->upd (upd u x o) p (.ins a.c_Grove dx fs') b=some v)/\upd (upd u x o) p (.ins a.c_Grove dx fs') x=some o/\upd (upd u x o) p (.ins a.c_Grove dx fs') p=some (.ins a.c_Grove dx fs')/\upd u x o p=some (.ins a.c_Grove dx fs):=λ{u x o fs fs'} e1 e2=>by
  have n:x≠p:=λz=>by rw[z,e1]at e2;cases e2
  exact⟨λb v e nb=>by rw[As nb,As (Av e e2)];exact e,by rw[As n];exact Ag,Ag,by rw[As (X5 n)];exact e1⟩
 refine Bf ?_;intro L M Y m G;refine⟨S_0,λD aa=>?_⟩;obtain⟨k1,x1,p1,q1⟩:=stp (o:=.lst []) (fs':=AW "levels" (.ref D) []) hp aa;refine xq1 Z ⟨p,_,dx,[],Z,q1,T.cl_Grove,T.na_Grove_levels,B2,?_⟩;show Y _ _;generalize upd (upd H D _) p _=H1 at k1 x1 p1⊢;refine m ?_;refine Bf ?_;intro L M Y m G;refine⟨S_0,λpt X=>?_⟩;obtain⟨k2,x2,p2,q2⟩:=stp (o:=.lst []) (fs':=AW "parts" (.ref pt) (AW "levels" (.ref D) [])) p1 X;refine xq1 Z ⟨p,_,dx,(xq1 Z ⟨q2,T.cl_Grove,T.na_Grove_parts,B3,?_⟩)⟩;show Y _ _;generalize upd (upd H1 pt _) p _=H2 at k2 x2 p2⊢;refine m ?_;refine Bf ?_;intro L M Y m G;intro nm ab;obtain⟨k3,x3,p3,q3⟩:=stp (o:=.dT []) (fs':=AW "numbers" (.ref nm) (AW "parts" (.ref pt) (AW "levels" (.ref D) []))) p2 ab;refine xq1 Z ⟨p,_,dx,(xq1 Z ⟨q3,T.cl_Grove,T.na_Grove_numbers,(by show 2<1000;decide),?_⟩)⟩;show Y _ _;generalize upd (upd H2 nm _) p _=H3 at k3 x3 p3⊢;refine m ?_;refine Bf ?_;intro L M Y m G;refine⟨S_1,λO l=>?_⟩;obtain⟨k4,x4,p4,q4⟩:=stp (o:=.lst [.int 0]) (fs':=AW "bares" (.ref O) (AW "numbers" (.ref nm) (AW "parts" (.ref pt) (AW "levels" (.ref D) [])))) p3 l;refine xq1 Z ⟨p,_,dx,(xq1 Z ⟨q4,T.cl_Grove,T.na_Grove_bares,(by show 3<1000;decide),?_⟩)⟩;show Y _ _;generalize upd (upd H3 O _) p _=H4 at k4 x4 p4⊢;refine m ?_;refine Bf ?_;intro L M Y m G;intro U I;obtain⟨k5,x5,p5,q5⟩:=stp (o:=.dK []) (fs':=AW "amounts" (.ref U) (AW "bares" (.ref O) (AW "numbers" (.ref nm) (AW "parts" (.ref pt) (AW "levels" (.ref D) []))))) p4 I;refine xq1 Z ⟨p,_,dx,(xq1 Z ⟨q5,T.cl_Grove,T.na_Grove_amounts,(by show 4<1000;decide),?_⟩)⟩;show Y _ _;generalize upd (upd H4 U _) p _=H5 at k5 x5 p5⊢;refine m ?_;refine Bf ?_;intro L M Y m G;intro bx C;obtain⟨k6,x6,p6,q6⟩:=stp (o:=.dK []) (fs':=fl6 ⟨p,dx,D,pt,nm,O,U,bx⟩) p5 C;refine xq1 Z ⟨p,_,dx,(xq1 Z ⟨q6,T.cl_Grove,T.na_Grove_boxes,(by show 5<1000;decide),?_⟩)⟩;show Y _ (upd (upd H5 bx (.dK [])) p (.ins a.c_Grove dx (fl6 ⟨p,dx,D,pt,nm,O,U,bx⟩)));generalize upd (upd H5 bx _) p _=H6 at k6 x6 p6⊢;refine m ?_;have aj:∀b v,H1 b=some v->b≠p->H6 b=some v:=λb v e n=>k6 _ _ (k5 _ _ (k4 _ _ (k3 _ _ (k2 _ _ e n) n) n) n) n;have ak:∀b v,H2 b=some v->b≠p->H6 b=some v:=λb v e n=>k6 _ _ (k5 _ _ (k4 _ _ (k3 _ _ e n) n) n) n;have al:∀b v,H3 b=some v->b≠p->H6 b=some v:=λb v e n=>k6 _ _ (k5 _ _ (k4 _ _ e n) n) n;have an:∀b v,H4 b=some v->b≠p->H6 b=some v:=λb v e n=>k6 _ _ (k5 _ _ e n) n;have np:∀{u:Hp}{x:R_}{fs:List (Str×V)},u p=some (.ins a.c_Grove dx fs)->u x=none->x≠p:=λ{u x fs} e1 e2 z=>by rw[z,e1]at e2;cases e2
 have no:∀{u Hm:Hp}{x y:R_}{v:HO},u x=some v->u y=none->x≠y:=λ{u Hm x y v} e1 e2=>Av e1 e2;have ac:=np hp aa;have ad:=np p1 X;have ah:=np p2 ab;have ag:=np p3 l;have af:=np p4 I;have aq:=np p5 C;have y1:=aj _ _ x1 ac;have y2:=ak _ _ x2 ad;have y3:=al _ _ x3 ah;have y4:=an _ _ x4 ag;have y5:=k6 _ _ x5 af;have B:∀{u:Hp}{x:R_},(∀b v,H b=some v->b≠p->u b=some v)->x≠p->u x=none->H x=none:=λ{u x} kp n e=>by
  cases h:H x with
  |none=>rfl
  |some v=>rw[kp _ _ h n]at e;cases e
 have c2:∀b v,H b=some v->b≠p->H2 b=some v:=λb v e n=>k2 _ _ (k1 _ _ e n) n;have c3:∀b v,H b=some v->b≠p->H3 b=some v:=λb v e n=>k3 _ _ (c2 _ _ e n) n;have c4:∀b v,H b=some v->b≠p->H4 b=some v:=λb v e n=>k4 _ _ (c3 _ _ e n) n;have c5:∀b v,H b=some v->b≠p->H5 b=some v:=λb v e n=>k5 _ _ (c4 _ _ e n) n;have c6:∀b v,H b=some v->b≠p->H6 b=some v:=λb v e n=>k6 _ _ (c5 _ _ e n) n;have d1:D≠pt:=Av x1 X;have d2:O≠D:=X5 (Av (k3 _ _ (k2 _ _ x1 ac) ac) l);have d3:O≠pt:=X5 (Av (k3 _ _ x2 ad) l);have d4:U≠bx:=Av x5 C;have N0:Uy a H H6 ⟨p,dx,D,pt,nm,O,U,bx⟩ (DU 0) (Dh 0) (amK 0):=⟨c6,⟨p6,y1,⟨[],y2,.nil⟩,y3,d1⟩,y4,y5,x6,⟨aa,B k1 ad X,B c2 ah ab,B c3 ag l,B c4 af I,B c5 aq C⟩,d2,d3,d4⟩
 have k':=k ⟨p,dx,D,pt,nm,O,U,bx⟩;have gp:(⟨p,dx,D,pt,nm,O,U,bx⟩:GA).p=p:=rfl;generalize (⟨p,dx,D,pt,nm,O,U,bx⟩:GA)=g at N0 k' gp;subst gp;clear k p6 q6 q5 q4 q3 q2 q1 y1 y2 y3 y4 y5 x6 c6 c5 c4 c3 c2 aj ak al an k1 k2 k3 k4 k5 k6 x1 x2 x3 x4 x5 p1 p2 p3 p4 p5 d1 d2 d3 d4 ac ad ah ag af aq C I l ab X aa B no np stp;refine⟨8,Z,by decide,by decide,?_⟩;refine EK (n:=8) (λi σ H7=>∃u1:Option V,σ=[some (.ref g.p),u1,none,none]/\Uy a H H7 g (DU i) (Dh 0) (amK i)) ⟨none,Z,N0⟩ ?_ ?_
 .rintro i σ H7 hi ⟨u1,rfl,N⟩;obtain⟨kp,at',l,I,C,fresh,n1,n2,n3⟩:=N;have cl:(i:Int)=0+(i:Int):=(T9 _).symm;refine xq1 Z ⟨g.p,g.dx,(xq1 Z ⟨at'.hp,RS g,(xq1 Z ⟨S_1,λt ht=>?_⟩)⟩)⟩;have s1:=AK (o:=.tup [.int (0+(i:Int))]) ht;refine⟨g,DU i,t,[0+(i:Int)],0,Z,at'.same s1,Ag,by rw[<-cl];exact YO i,by rw[FI];lia,λS fr r=>?_⟩;rw[<-cl,<-Vi]at r;have R:Fr g H7 S:=(Ay.fr s1).trans fr;obtain⟨ts,h3,h4⟩:=at'.pt;have kd:∀(b:R_)(kvs:List (Key×V)),H7 b=some (.dK kvs)->S b=some (.dK kvs):=λb kvs e=>R _ _ e (AE e at'.lv A3) (AE e h3 A3) (AE e at'.nm A3);have ae:=kd _ _ I;refine xq1 Z ⟨_,_,Z,(xwf Z Z r.hp T.cl_Grove T.na_Grove_amounts (Vr g) (xq1 Z ⟨g.am,(xq1 Z ⟨Mb.k (k:=Sum.inl (0+(i:Int))) ae (by rw[amK_len];exact Dv A0),?_⟩)⟩))⟩;rw[<-cl,Iz _ (Ut i i (C0 _)),<-Us];have d:∀{b:R_}{v:HO},S b=some v->b≠g.am->upd S g.am (.dK (amK (i+1))) b=some v:=λ{b v} e n=>by rw[As n];exact e
  have na:∀{b:R_}{v:HO},S b=some v->v≠.dK (amK i)->b≠g.am:=λ{b v} e n=>AE e ae n;obtain⟨au,ao,ar⟩:=r.pt;refine xq1 Z ⟨?_,⟨d r.hp (na r.hp A3),d r.lv (na r.lv A3),⟨au,d ao (na ao A3),PairedM.imp (λc q z=>d z (na z A3)) ar⟩,d r.nm (na r.nm A3),r.ne⟩,?_,Ag,?_,fresh,n1,n2,n3⟩
  .intro b v e nb;have e8:S b=some v:=R _ _ (kp _ _ e nb) (Av e fresh.1) (Av e fresh.2.1) (Av e fresh.2.2.1);exact d e8 (Av e fresh.2.2.2.2.1)
  .have e8:S g.br=_:=R _ _ l n1 n2 (AE l at'.nm A3);exact d e8 (na e8 A3)
  .exact d (kd _ _ C) (X5 n3)
 .rintro σ H7 ⟨u1,rfl,N⟩;refine xq2 Z Z ⟨1,49,Z,⟨by decide,by decide,by decide,by decide⟩,?_⟩;have N0:Uy a H H7 g (DU 8++Gy 0) (Dh 0) (amK 8):=by rw[show DU 8++Gy 0=DU 8 from P0 _];exact N
  clear N;refine EK (lo:=1) (n:=48) (λj σ S=>∃u2 u3:Option V,σ=[some (.ref g.p),u1,u2,u3]/\Uy a H S g (DU 8++Gy j) (Dh j) (amK 8)) ⟨none,none,Z,N0⟩ ?_ ?_
  .rintro j σ S hj ⟨u2,u3,rfl,N⟩;obtain⟨kp,at',l,I,C,fresh,n1,n2,n3⟩:=N;refine xwf Z Z at'.hp T.cl_Grove T.na_Grove_bares (Jh g) (xwi Z Z Z (SqL.of l) (at_lastV (by rw[List.getLast?_map,Vv];rfl)) ?_);refine xwf Z Z at'.hp T.cl_Grove T.na_Grove_bares (Jh g) ⟨.inl ⟨Z,_,SqL.of l⟩,(xq1 Z ⟨g.p,g.dx,(xq1 Z ⟨at'.hp,RS g,(xw3 Z Z Z (xq1 Z ⟨S_4,λt ht=>(xq1 Z ?_)⟩))⟩)⟩)⟩;have s1:=AK (o:=.tup [.int (bareN j:Int),.int (bareN j:Int),.int (bareN j:Int),.int (bareN j:Int)]) ht;have ln:(DU 8++Gy j).length=8+j:=by rw[C3,FI,Rx]
   refine⟨g,DU 8++Gy j,t,[(bareN j:Int),(bareN j:Int),(bareN j:Int),(bareN j:Int)],1+(j:Int),Z,at'.same s1,Ag,Rw j,by rw[ln];lia,λH9 fr ai=>?_⟩;rw[show(1:Int)+(j:Int)=(j:Int)+1 by lia,Q4,<-Qn]at ai;have R:Fr g S H9:=(Ay.fr s1).trans fr;obtain⟨ts,h3,h4⟩:=at'.pt;have kd:∀(b:R_)(kvs:List (Key×V)),S b=some (.dK kvs)->H9 b=some (.dK kvs):=λb kvs e=>R _ _ e (AE e at'.lv A3) (AE e h3 A3) (AE e at'.nm A3);have W:H9 g.br=_:=R _ _ l n1 n2 (AE l at'.nm A3);refine⟨g.br,(xq2 Z Z ⟨W,by rw[B6];unfold Dh;rw[B6,F9];exact Dv A0,?_⟩)⟩;have eb:(Dh j).map V.int++[V.int ((DU 8++Gy j).length:Int)]=(Dh (j+1)).map V.int:=by rw[Qo,C6,ln];rfl
   rw[eb];have d:∀{b:R_}{v:HO},H9 b=some v->v≠.lst ((Dh j).map V.int)->upd H9 g.br (.lst ((Dh (j+1)).map V.int)) b=some v:=λ{b v} e n=>by rw[As (AE e W n)];exact e
   refine⟨_,_,Z,?_,ai.put W n1 n2,Ag,d (kd _ _ I) A3,d (kd _ _ C) A3,fresh,n1,n2,n3⟩;intro b v e nb;rw[As (Av e fresh.2.2.2.1)];exact R _ _ (kp _ _ e nb) (Av e fresh.1) (Av e fresh.2.1) (Av e fresh.2.2.1)
  .rintro σ S ⟨u2,u3,rfl,N⟩;exact k' S Z N
end
end J
namespace J
open PySem L2
theorem Ak.uniq{G:Gv}{i:Nat}{l m:Int}(h:Ak G i l)(b:Ak G i m):l=m:=by
 obtain⟨q,e,z⟩:=h;obtain⟨p,a,c⟩:=b;rw[e]at a;cases a;exact z.symm.trans c
theorem leaf_of{G:Gv}(ok:GOk G){i:Nat}(h:Ak G i 0):i<8:=by
 obtain⟨q,e,z⟩:=h;refine T1 λn=>?_;obtain⟨_,_,_,_,_,_,a,_⟩:=ok.node i q e n;lia
structure DQ(G:Gv)(n i:Nat)(q:Sq)(x y z w:Nat):Prop where
g:G[i]?=some q
ps:q.parts=[(x:Int),(y:Int),(z:Int),(w:Int)]
lev:q.lev=(n:Int)+1
hx:Ak G x n
hy:Ak G y n
hz:Ak G z n
hw:Ak G w n
theorem Bk{G:Gv}(ok:GOk G){n i:Nat}(h:Ak G i ((n+1:Nat):Int)):∃q x y z w,DQ G n i q x y z w:=by
 obtain⟨q,e,f⟩:=h;have l:8<=i:=by
  refine P6 λk=>?_;rw[ok.leaf i k]at e;cases e;have:(0:Int)=((n+1:Nat):Int):=f;lia
 obtain⟨x,y,z,w,j,⟨b,c,d,a⟩,_,_⟩:=ok.node i q e l;have g:q.lev-1=(n:Int):=by lia
 rw[g]at b c d a;exact⟨q,x,y,z,w,e,j,by lia,b,c,d,a⟩
theorem DQ.app{G a:Gv}{k n i:Nat}{q:Sq}{x y z w:Nat}(go:AG G a k)(h:DQ G n i q x y z w):DQ a n i q x y z w:=⟨go.get h.g,h.ps,h.lev,go.lev h.hx,go.lev h.hy,go.lev h.hz,go.lev h.hw⟩
noncomputable def BW(G:Gv):Nat->Nat->Int
|0,i=>if i=0 then 0 else 1
|n+1,i=>match G[i]? with
 |some q=>(q.parts.map λp=>BW G n p.toNat).sum
 |none=>0
theorem FJ{G:Gv}{n i:Nat}{q:Sq}{x y z w:Nat}(h:DQ G n i q x y z w):BW G (n+1) i=([x,y,z,w].map λk=>BW G n k).sum:=by
 rw[show BW G (n+1) i=(match G[i]? with|some q=>(q.parts.map λ(p:Int)=>BW G n p.toNat).sum|none=>0)from rfl,h.g];show(q.parts.map λ(p:Int)=>BW G n p.toNat).sum=_;rw[h.ps];rfl
theorem JV{G a:Gv}{k:Nat}(ok:GOk G)(go:AG G a k):∀(n i:Nat),Ak G i (n:Int)->BW a n i=BW G n i
|0,i,_=>rfl
|n+1,i,h=>by
 obtain⟨q,x,y,z,w,nd⟩:=Bk ok h;rw[FJ nd,FJ (nd.app go)];show BW a n x+(BW a n y+(BW a n z+(BW a n w+0)))=_;rw[JV ok go n x nd.hx,JV ok go n y nd.hy,JV ok go n z nd.hz,JV ok go n w nd.hw];rfl
theorem EZ(G:Gv):∀(n i:Nat),0<=BW G n i
|0,i=>by
 show 0<=if i=0 then(0:Int)else 1;split<;>lia
|n+1,i=>by
 unfold BW;split
 .rename_i q _;have:∀l:List Int,0<=(l.map λp=>BW G n p.toNat).sum:=by
   intro l;induction l with
   |nil=>exact Q5 0
   |cons p r a=>rw[D9,P4];have:=EZ G n p.toNat;lia
  exact this _
 .exact Q5 0
theorem Lj:∀(n:Nat)(l:J_),l.Nodup->(∀x∈l,x<n)->l.length<=n
|0,l,_,h=>by
 cases l with
 |nil=>exact C0 0
 |cons x r=>exact absurd (h x C2) (L8 _)
|n+1,l,nd,h=>by
 by_cases c:n∈l
 .have:=Lj n (l.erase n) (nd.erase n) λx a=>by
   have b:=(nd.mem_erase_iff).mp a;have:=h x b.2;have:=b.1;lia
  rw[List.length_erase_of_mem c]at this;lia
 .have:=Lj n l nd λx a=>by
   have:=h x a;have:x≠n:=λz=>c (z▸a);lia
  lia
structure Iw(G:Gv)(ks:List (Key×V)):Prop where
nd:(ks.map Prod.fst).Nodup
lt:∀k∈ks.map Prod.fst,∃i:Nat,i<G.length/\k=Sum.inl (i:Int)
theorem Iw.len{G:Gv}{ks:List (Key×V)}(h:Iw G ks):ks.length<=G.length:=by
 let f:Key->Nat:=λk=>match k with|.inl i=>i.toNat|.inr _=>0
 have:=Lj G.length ((ks.map Prod.fst).map f) (by
  rw[F7,N4];refine A1f (λ{a b} d e c z=>c ?_) (F7.mp h.nd);obtain⟨i,_,rfl⟩:=h.lt a d;obtain⟨j,_,rfl⟩:=h.lt b e;have:(i:Int).toNat=(j:Int).toNat:=z;rw[F4,F4]at this;rw[this]) (λx m=>by
  obtain⟨k,l,rfl⟩:=C8.mp m;obtain⟨i,g,rfl⟩:=h.lt k l;show(i:Int).toNat<_;rw[F4];exact g)
 rw[B6,B6]at this;exact this
theorem Iw.app{G a:Gv}{ks:List (Key×V)}(le:G.length<=a.length)(h:Iw G ks):Iw a ks:=⟨h.nd,λk b=>by
 obtain⟨i,c,e⟩:=h.lt k b;exact⟨i,by lia,e⟩⟩
theorem Iw.put{G:Gv}{ks:List (Key×V)}(h:Iw G ks){i:Nat}(j:i<G.length)(v:V):Iw G (Do ks (Sum.inl (i:Int)) v):=by
 unfold Do;by_cases a:(ks.any λb=>decide (b.1=Sum.inl (i:Int)))=true
 .rw[Z7 a];have e:(ks.map λb=>if b.1=Sum.inl (i:Int)then(b.1,v)else b).map Prod.fst=ks.map Prod.fst:=by
   rw[L9];refine List.map_congr_left λb _=>?_;show(if b.1=Sum.inl (i:Int)then(b.1,v)else b).1=b.1;split<;>rfl
  exact⟨by rw[e];exact h.nd,by rw[e];exact h.lt⟩
 .rw[Z4 a];refine⟨?_,λk c=>?_⟩
  .rw[C6,O8];refine⟨h.nd,by simp,λk c l d z=>a ?_⟩;have:l=Sum.inl (i:Int):=by simpa using d
   subst this;subst z;obtain⟨b,f,g⟩:=C8.mp c;exact S2.mpr ⟨b,f,Z5 g⟩
  .rw[C6]at c;rcases D8.mp c with z|z
   .exact h.lt k z
   .exact⟨i,j,by simpa using z⟩
structure SN(G:Gv)(ks:List (Key×V)):Prop where
keys:Iw G ks
leaf:∀s:Nat,s<8->∃v,Bo ks (Sum.inl (s:Int))=some v
val:∀(i:Nat) v,Bo ks (Sum.inl (i:Int))=some v->∃l:Nat,Ak G i l/\v=.int (BW G l i)
theorem SN.app{G a:Gv}{k:Nat}{ks:List (Key×V)}(ok:GOk G)(go:AG G a k)(h:SN G ks):SN a ks:=⟨h.keys.app (by obtain⟨r,e⟩:=go.pre;rw[e,C3];lia),h.leaf,λi v e=>by
 obtain⟨l,b,c⟩:=h.val i v e;exact⟨l,go.lev b,by rw[JV ok go l i b];exact c⟩⟩
theorem SN.put{G:Gv}{ks:List (Key×V)}(h:SN G ks){i l:Nat}(a:Ak G i l):SN G (Do ks (Sum.inl (i:Int)) (.int (BW G l i))):=⟨h.keys.put a.lt _,λs b=>by
 rw[FN];split
 .exact⟨_,Z⟩
 .exact h.leaf s b,λj v e=>by
 rw[FN]at e;split at e
 .rename_i z;injection z with z
  have:j=i:=Z9 z;subst this;cases e;exact⟨l,a,Z⟩
 .exact h.val j v e⟩
theorem am0:SN G0 (amK 8) where
 keys:=⟨by decide +kernel,λk c=>by
  obtain⟨p,d,rfl⟩:=C8.mp c;obtain⟨s,a,rfl⟩:=C8.mp d;have:=F1.mp a;exact⟨s,by rw[LX];lia,Z⟩⟩
 leaf:=λs a=>by
  match s,a with
  |0,_=>exact⟨_,Z⟩
  |1,_=>exact⟨_,Z⟩
  |2,_=>exact⟨_,Z⟩
  |3,_=>exact⟨_,Z⟩
  |4,_=>exact⟨_,Z⟩
  |5,_=>exact⟨_,Z⟩
  |6,_=>exact⟨_,Z⟩
  |7,_=>exact⟨_,Z⟩
 val:=λi v e=>by
  have b:i<8:=by
   refine T1 λz=>?_;rw[Ut 8 i z]at e;cases e
  refine⟨0,⟨_,Su i b,Z⟩,?_⟩
  match i,b with
  |0,_=>cases e;rfl
  |1,_=>cases e;rfl
  |2,_=>cases e;rfl
  |3,_=>cases e;rfl
  |4,_=>cases e;rfl
  |5,_=>cases e;rfl
  |6,_=>cases e;rfl
  |7,_=>cases e;rfl
structure Bx where
l:Int
t:Int
w:Int
h:Int
noncomputable def Bx.ns(b:Bx):List Int:=[b.l,b.t,b.w,b.h]
noncomputable def shB(half:Int)(k:Nat)(b:Bx):Bx:=⟨b.l+half*((k:Int)%2),b.t+half*((k:Int)/2),b.w,b.h⟩
noncomputable def DY(half:Int):Nat->List (Option Bx)->List Bx
|_,[]=>[]
|k,none::r=>DY half (k+1) r
|k,some b::r=>shB half k b::DY half (k+1) r
noncomputable def mnL(l:I_):Int:=l.min?.getD 0
noncomputable def mxL(l:I_):Int:=l.max?.getD 0
noncomputable def PV(bs:List Bx):Bx:=⟨mnL (bs.map (·.l)),mnL (bs.map (·.t)),mxL (bs.map λb=>b.l+b.w)-mnL (bs.map (·.l)),mxL (bs.map λb=>b.t+b.h)-mnL (bs.map (·.t))⟩
noncomputable def QB(half:Int)(obs:List (Option Bx)):Option Bx:=match DY half 0 obs with
|[]=>none
|b::r=>some (PV (b::r))
noncomputable def BY(G:Gv):Nat->Nat->Option Bx
|0,i=>if i=0 then none else some ⟨0,0,1,1⟩
|n+1,i=>match G[i]? with
 |some q=>QB (2^n) (q.parts.map λ(p:Int)=>BY G n p.toNat)
 |none=>none
theorem mnL_of{l:I_}{m:Int}(h:m∈l)(a:∀x∈l,m<=x):m=mnL l:=by
 unfold mnL;rw[List.min?_eq_some_iff.mpr ⟨h,a⟩];rfl
theorem mxL_of{l:I_}{m:Int}(h:m∈l)(a:∀x∈l,x<=m):m=mxL l:=by
 unfold mxL;rw[List.max?_eq_some_iff.mpr ⟨h,a⟩];rfl
theorem FL{G:Gv}{n i:Nat}{q:Sq}{x y z w:Nat}(h:DQ G n i q x y z w):BY G (n+1) i=QB (2^n) [BY G n x,BY G n y,BY G n z,BY G n w]:=by
 rw[show BY G (n+1) i=(match G[i]? with|some q=>QB (2^n) (q.parts.map λ(p:Int)=>BY G n p.toNat)|none=>none)from rfl,h.g];show QB (2^n) (q.parts.map λ(p:Int)=>BY G n p.toNat)=_;rw[h.ps];rfl
theorem IE{G a:Gv}{k:Nat}(ok:GOk G)(go:AG G a k):∀(n i:Nat),Ak G i (n:Int)->BY a n i=BY G n i
|0,i,_=>rfl
|n+1,i,h=>by
 obtain⟨q,x,y,z,w,nd⟩:=Bk ok h;rw[FL nd,FL (nd.app go),IE ok go n x nd.hx,IE ok go n y nd.hy,IE ok go n z nd.hz,IE ok go n w nd.hw]
theorem QX{half:Int}:∀{a:List (Option Bx)},QB half a=none ↔ ∀o∈a,o=none:=by
 intro a;have g:∀(a:List (Option Bx))(k:Nat),DY half k a=[] ↔ ∀o∈a,o=none:=by
  intro a;induction a with
  |nil=>intro k;exact⟨λ_ o c=>by simp at c,λ_=>Z⟩
  |cons o r d =>
   intro k;cases o with
   |none =>
    rw[show DY half k (none::r)=DY half (k+1) r from rfl,d (k+1)];exact⟨λh o c=>by rcases C1.mp c with z|z;exact z;exact h o z,λh o c=>h o (C4 _ c)⟩
   |some b=>exact⟨λh=>(by cases h),λh=>(by cases h (some b) C2)⟩
 rw[<-g a 0];unfold QB;constructor
 .intro h;split at h
  .assumption
  .cases h
 .intro h;rw[h]
theorem MQ{G:Gv}(ok:GOk G):∀(n i:Nat),Ak G i (n:Int)->(BY G n i=none↔BW G n i=0)
|0,i,_=>by
 show(if i=0 then none else some (⟨0,0,1,1⟩:Bx))=none↔(if i=0 then(0:Int)else 1)=0;split
 .exact⟨λ_=>Z,λ_=>Z⟩
 .exact⟨λh=>(by cases h),λh=>A0⟩
|n+1,i,h=>by
 obtain⟨q,x,y,z,w,nd⟩:=Bk ok h;rw[FL nd,FJ nd,QX];show _↔BW G n x+(BW G n y+(BW G n z+(BW G n w+0)))=0;have b:=MQ ok n x nd.hx;have c:=MQ ok n y nd.hy;have d:=MQ ok n z nd.hz;have a:=MQ ok n w nd.hw;have f:=EZ G n x;have g:=EZ G n y;have j:=EZ G n z;have nw:=EZ G n w;constructor
 .intro h;rw[b.mp (h _ A6),c.mp (h _ A6),d.mp (h _ A6),a.mp (h _ A6)];rfl
 .intro h o e;simp only[C1,D7,K6]at e;rcases e with rfl|rfl|rfl|rfl
  .exact b.mpr A0
  .exact c.mpr A0
  .exact d.mpr A0
  .exact a.mpr A0
theorem Ss{G r:Gv}(e:G=G0++r)(j:Nat)(h:j<48):G[8+j]?=some ⟨[(bareN j:Int),(bareN j:Int),(bareN j:Int),(bareN j:Int)],(j:Int)+1⟩:=by
 rw[e];exact ML (OH j h)
theorem JY{G:Gv}(ok:GOk G){r:Gv}(e:G=G0++r):∀(n i:Nat),n<=48->Ak G i (n:Int)->(BY G n i=none↔i=bareN n)
|0,i,_,_=>by
 show(if i=0 then none else some (⟨0,0,1,1⟩:Bx))=none↔i=0;split
 .rename_i z;exact⟨λ_=>z,λ_=>Z⟩
 .rename_i z;exact⟨λh=>(by cases h),λh=>absurd h z⟩
|n+1,i,hn,h=>by
 obtain⟨q,x,y,z,w,nd⟩:=Bk ok h;rw[FL nd,QX];have b:=JY ok e n x A0 nd.hx;have c:=JY ok e n y A0 nd.hy;have d:=JY ok e n z A0 nd.hz;have a:=JY ok e n w A0 nd.hw;have f:=Ss e n A0;constructor
 .intro h;have l:=b.mp (h _ A6);have m:=c.mp (h _ A6);have s:=d.mp (h _ A6);have k:=a.mp (h _ A6);show i=8+n;refine ok.one nd.g f ?_;rw[nd.ps,l,m,s,k]
 .intro h;have h:i=8+n:=h;have g:=nd.g;rw[h,f]at g;cases g;have p:=nd.ps;have p:[(bareN n:Int),(bareN n:Int),(bareN n:Int),(bareN n:Int)]=[(x:Int),(y:Int),(z:Int),(w:Int)]:=p;injection p with p1 p
  injection p with p2 p
  injection p with p3 p
  injection p with p4 p
  intro o j;simp only[C1,D7,K6]at j;rcases j with rfl|rfl|rfl|rfl
  .exact b.mpr (Z9 p1).symm
  .exact c.mpr (Z9 p2).symm
  .exact d.mpr (Z9 p3).symm
  .exact a.mpr (Z9 p4).symm
structure BxOk(G:Gv)(H:Hp)(ks:List (Key×V)):Prop where
keys:Iw G ks
val:∀(i:Nat) v,Bo ks (Sum.inl (i:Int))=some v->∃(l:Nat)(b:Bx)(t:R_),Ak G i l/\BY G l i=some b/\v=.ref t/\H t=some (.tup (b.ns.map V.int))
structure AS(a:Ad)(H:Hp)(g:GA)(G:Gv):Prop where
at':AM a H g G
ok:GOk G
g0:∃r,G=G0++r
br:H g.br=some (.lst ((Dh 48).map V.int))
am:∃ks,H g.am=some (.dK ks)/\SN G ks
bx:∃ks,H g.bx=some (.dK ks)/\BxOk G H ks
n1:g.br≠g.lv
n2:g.br≠g.pt
n3:g.am≠g.bx
theorem AS.new{a:Ad}{H b:Hp}{g:GA}(h:Uy a H b g G0 (Dh 48) (amK 8)):AS a b g G0:=⟨h.at',g0_ok,⟨[],by simp⟩,h.br,⟨_,h.am,am0⟩,⟨_,h.bx,⟨by simp,λk c=>by simp at c⟩,λi v e=>by cases e⟩,h.n1,h.n2,h.n3⟩
theorem AS.ne_am{a:Ad}{H:Hp}{g:GA}{G:Gv}(h:AS a H g G){b:R_}{o:HO}(e:H b=some o)(n:∀ks,o≠.dK ks):b≠g.am/\b≠g.bx:=by
 obtain⟨ks,c,_⟩:=h.am;obtain⟨f,d,_⟩:=h.bx;exact⟨AE e c (n _),AE e d (n _)⟩
theorem AS.same{a:Ad}{H d:Hp}{g:GA}{G:Gv}(s:Ay H d)(h:AS a H g G):AS a d g G:=by
 obtain⟨at',ok,p,j,⟨ks,q,r⟩,⟨c,u,f⟩,w,x,y⟩:=h;refine⟨at'.same s,ok,p,s _ _ j,⟨ks,s _ _ q,r⟩,⟨c,s _ _ u,f.keys,λi v e=>?_⟩,w,x,y⟩;obtain⟨l,b,t,k,m,n,o⟩:=f.val i v e;exact⟨l,b,t,k,m,n,s _ _ o⟩
theorem AG.le{G a:Gv}{k:Nat}(go:AG G a k):G.length<=a.length:=by
 obtain⟨r,e⟩:=go.pre;rw[e,C3];lia
theorem AS.fr{a:Ad}{H c:Hp}{g:GA}{G d:Gv}{m:Nat}(h:AS a H g G)(f:Fr g H c)(j:AM a c g d)(go:AG G d m):AS a c g d:=by
 obtain⟨at',ok,⟨r,C⟩,n,⟨ks,D,E⟩,⟨k,F,q⟩,s,u,K⟩:=h;obtain⟨us,I,_⟩:=at'.pt;have keep:∀{b:R_}{o:HO},H b=some o->(∀l,o≠.lst l)->(∀l,o≠.dT l)->c b=some o:=λ{b o} e w L=>f _ _ e (AE e at'.lv (w _)) (AE e I (w _)) (AE e at'.nm (L _));obtain⟨t,B⟩:=go.pre;refine⟨j,go.ok,⟨r++t,by rw[B,C,Q4]⟩,f _ _ n s u (AE n at'.nm A3),⟨ks,keep D (by intro l z;cases z) (by intro l z;cases z),E.app ok go⟩,⟨k,keep F (by intro l z;cases z) (by intro l z;cases z),q.keys.app go.le,λi v e=>?_⟩,s,u,K⟩;obtain⟨l,b,t,p,x,y,A⟩:=q.val i v e;exact⟨l,b,t,go.lev p,by rw[IE ok go l i p];exact x,y,keep A (by intro l z;cases z) (by intro l z;cases z)⟩
theorem AS.put{a:Ad}{H:Hp}{g:GA}{G:Gv}{l:R_}{xs:List V}{o:HO}(h:AS a H g G)(k:H l=some (.lst xs))(y:l≠g.lv)(z:l≠g.pt)(A:l≠g.br):AS a (upd H l o) g G:=by
 obtain⟨at',ok,s,f,⟨ks,u,w⟩,⟨d,x,j⟩,B,C,D⟩:=h;have c:∀{b v},H b=some v->v≠.lst xs->upd H l o b=some v:=λ{b v} e n=>by rw[As (AE e k n)];exact e
 refine⟨at'.put k y z,ok,s,by rw[As (X5 A)];exact f,⟨ks,c u A3,w⟩,⟨d,c x A3,j.keys,λi v e=>?_⟩,B,C,D⟩;obtain⟨l,b,t,m,p,q,r⟩:=j.val i v e;exact⟨l,b,t,m,p,q,c r A3⟩
def FrQ(g:GA)(H H':Hp):Prop:=∀b o,H b=some o->b≠g.am->b≠g.bx->H' b=some o
theorem FrQ.refl(g:GA)(H:Hp):FrQ g H H:=λ_ _ e _ _=>e
theorem FrQ.trans{g:GA}{a c d:Hp}(h:FrQ g a c)(j:FrQ g c d):FrQ g a d:=λb o e f i=>j b o (h b o e f i) f i
theorem Ay.frq{g:GA}{a c:Hp}(h:Ay a c):FrQ g a c:=λb o e _ _=>h b o e
theorem AM.dict{a:Ad}{H:Hp}{g:GA}{G:Gv}{d:R_}{ks:List (Key×V)}{o:HO}(p:H d=some (.dK ks))(h:AM a H g G):AM a (upd H d o) g G:=by
 obtain⟨f,i,⟨r,j,k⟩,l,m⟩:=h;have c:∀{b v},H b=some v->v≠.dK ks->upd H d o b=some v:=λ{b v} e n=>by rw[As (AE e p n)];exact e
 exact⟨c f A3,c i A3,⟨r,c j A3,PairedM.imp (λt q z=>c z A3) k⟩,c l A3,m⟩
theorem AS.am_put{a:Ad}{H:Hp}{g:GA}{G:Gv}{ks ks2:List (Key×V)}(h:AS a H g G)(e:H g.am=some (.dK ks))(w:SN G ks2):AS a (upd H g.am (.dK ks2)) g G/\FrQ g H (upd H g.am (.dK ks2)):=by
 obtain⟨at',ok,u,m,⟨_,_,_⟩,⟨f,x,j⟩,z,A,k⟩:=h;have c:∀{b v},H b=some v->v≠.dK ks->upd H g.am (.dK ks2) b=some v:=λ{b v} d n=>by rw[As (AE d e n)];exact d
 refine⟨⟨at'.dict e,ok,u,c m A3,⟨_,Ag,w⟩,⟨f,by rw[As (X5 k)];exact x,j.keys,λi v e=>?_⟩,z,A,k⟩,λb o d y _=>by rw[As y];exact d⟩;obtain⟨l,b,t,p,q,r,s⟩:=j.val i v e;exact⟨l,b,t,p,q,r,c s A3⟩
theorem AS.bx_put{a:Ad}{H:Hp}{g:GA}{G:Gv}{ks ks2:List (Key×V)}(h:AS a H g G)(e:H g.bx=some (.dK ks))(j:BxOk G H ks2):AS a (upd H g.bx (.dK ks2)) g G/\FrQ g H (upd H g.bx (.dK ks2)):=by
 obtain⟨at',ok,u,m,⟨f,w,x⟩,⟨_,_,_⟩,z,A,k⟩:=h;have c:∀{b v},H b=some v->v≠.dK ks->upd H g.bx (.dK ks2) b=some v:=λ{b v} d n=>by rw[As (AE d e n)];exact d
 refine⟨⟨at'.dict e,ok,u,c m A3,⟨f,by rw[As k];exact w,x⟩,⟨_,Ag,j.keys,λi v e=>?_⟩,z,A,k⟩,λb o d _ y=>by rw[As y];exact d⟩;obtain⟨l,b,t,p,q,r,s⟩:=j.val i v e;exact⟨l,b,t,p,q,r,c s A3⟩
theorem Pw(g:GA):(fl6 g).lookup ("counted" : Str)=none:=Fs g A1 A1 A1 A1 A1 A1
theorem Yx(g:GA):(fl6 g).lookup ("living" : Str)=none:=Fs g A1 A1 A1 A1 A1 A1
theorem TB(g:GA):(fl6 g).lookup ("boxed" : Str)=none:=Fs g A1 A1 A1 A1 A1 A1
theorem Tz(g:GA):(fl6 g).lookup ("measured" : Str)=none:=Fs g A1 A1 A1 A1 A1 A1
theorem no_span(g:GA):(fl6 g).lookup ("span" : Str)=none:=Fs g A1 A1 A1 A1 A1 A1
seal L2.PA L2.PE L2.PS L2.PSs L2.PT L2.PW
theorem DQ.mem{G:Gv}{n i:Nat}{q:Sq}{x y z w:Nat}(h:DQ G n i q x y z w){j:Nat}{v:V}(e:(q.parts.map V.int)[j]?=some v):∃k:Nat,v=.int k/\Ak G k n/\q.parts[j]?=some (k:Int):=by
 rw[B8]at e;obtain⟨p,a,rfl⟩:=D6.mp e;have b:=D5 a;rw[h.ps]at b;simp only[C1,D7,K6]at b;rcases b with rfl|rfl|rfl|rfl
 .exact⟨x,Z,h.hx,a⟩
 .exact⟨y,Z,h.hy,a⟩
 .exact⟨z,Z,h.hz,a⟩
 .exact⟨w,Z,h.hw,a⟩
section
variable{P:N_}{w:Q_}{K:O_}{mg:C_}{base:T_}{a:Ad}
inductive SpCnt(a:Ad)(n:Nat)(vs:List V)(H:Hp)(Q:VK):Prop
|mk (g:GA) (G:Gv) (i l:Nat) (_:vs=[.ref g.p,.int i]) (_:AS a H g G) (_:Ak G i l) (_:l<n) (_:G.length<9000000) (_:∀H',FrQ g H H'->AS a H' g G->Q (.int (BW G l i)) H'):SpCnt a n vs H Q
def VY(a:Ad)(n:Nat):Sp:=λvs H Q _=>SpCnt a n vs H Q
theorem ok_cnt(F:Fun K "counted" "Grove.counted" DD f fd)(T:Top K mg a)(Me:Qr K a.c_Grove "counted" f)(Bi:Ci K fd JP []):∀n,AN P w K mg base CX0 (n+1) f fd JP (VY a n)
|0=>by
 refine F.ok Di (λvs H Q E h=>?_) (λU A C s H vs Q E S h=>?_)
 .obtain⟨g,G,i,l,rfl,_,_,h0,_⟩:=h;exact absurd h0 (L8 _)
 .obtain⟨g,G,i,l,rfl,_,_,h0,_⟩:=h;exact absurd h0 (L8 _)
|n+1=>by
 have aW:BJ P w K mg base CX0 (n+1) a.c_Grove "counted" JP (VY a n):=⟨⟨f,fd,ok_cnt F T Me Bi n,Me,Bi⟩,T.cl_Grove⟩
 refine F.ok Di (λvs H Q E h=>?_) (λU A C s H vs Q E S h=>?_)
 .obtain⟨g,G,i,l,rfl,_⟩:=h;rfl
 .obtain⟨g,G,i,l,rfl,d,R,ln,few,k⟩:=h;obtain⟨ks,L,I⟩:=d.am;refine⟨_,(Ab (Ao (i:=2) Di.nd Z O_9 (JC (DV S) (AB (pv 0) Z) (pv 1) ⟨Z,Z,Z,Z⟩)) (Ab (AQ (Az Je (pv 2) DK (AD _)) (Ab (Ao (i:=2) Di.nd Z O_9 (AJ (call_sum Z) Z T.b_sum PyProof.Rows.boot_sum (Aa (Ck Z (BK.of (So:=Aj DD) (No:=Jq) (N:=["quarter","self"]) (k:=1) (cs:=[0]) Z Z A1) (Po (Ai Aw (AB (pv 0) Z) (pv 1) R_9)) (λ_ _ _=>(Bj (i:=0) A1 Z Z)) (λ_ _ _=>BP) (λ_ _ _=>(AC (pv 1) aW (rm S) Am (Aa (pv 0) Ac)))) Ac))) (Af (Fz (DV S) (AB (pv 0) Z) (pv 1) (pv 2) Z))) Ax) (Af (Au (pv 2))))),?_⟩
  try dsimp only[cxK]
  refine xwf Z Z d.at'.hp T.cl_Grove T.na_Grove_amounts (Vr g) ⟨g.am,Z,.inl ⟨_,.inl L⟩,(xq1 Z ⟨_,Jm.k (k:=Sum.inl (i:Int)) L,?_⟩)⟩;cases e:Bo ks (Sum.inl (i:Int))with
  |some v =>
   obtain⟨l',aa,rfl⟩:=I.val i v e;have el:l'=l:=Z9 (aa.uniq R);subst el;exact xq1 Z ⟨Z,(xq1 Z (AX (xq1 Z (k H (FrQ.refl g H) d))))⟩
  |none =>
   refine xq1 Z ⟨Z,(xq1 Z (Cg ?_))⟩;cases l with
   |zero =>
    obtain⟨v,O⟩:=I.leaf i (leaf_of d.ok R);rw[e]at O;cases O
   |succ m =>
    obtain⟨q,x,y,z,w,nd⟩:=Bk d.ok R;obtain⟨ts,h3,h4⟩:=d.at'.pt;obtain⟨t,et,M⟩:=PairedM.get h4 nd.g;have M:H t=some (.tup (q.parts.map V.int)):=M;have nt:=d.ne_am M (by intro l z;cases z);refine xwf Z Z d.at'.hp T.cl_Grove T.na_Grove_parts (BX g) (xwi Z Z Z (SqL.of h3) (Ah (by rw[B8,et];rfl)) ⟨t,Z,⟨_,SqT.of M⟩,?_⟩);refine OL (xs:=q.parts.map V.int) (λj c D=>FrQ g H D/\AS a D g G/\c=((q.parts.take j).map λ(p:Int)=>BW G m p.toNat).map V.int) ⟨FrQ.refl g H,d,Z⟩ (λj c D _ z=>SqT.of (z.1 _ _ M nt.1 nt.2)) ?_ ?_
    .rintro j v c D O ⟨fr,r,rfl⟩;obtain⟨k',rfl,hk,ek⟩:=nd.mem O;refine⟨⟨[some (.int k')],Z,Z⟩,by rw[B6,B6,L7,nd.ps];exact Dv (by show min j 4<10000000;lia),GO (xq1 Z ⟨g.p,g.dx,(xq1 Z ⟨r.at'.hp,Pw g,(xq1 Z ⟨g,G,k',m,Z,r,hk,by lia,few,λH3 W b=>⟨fr.trans W,b,?_⟩⟩)⟩)⟩)⟩;rw[J3,ek,C6,C6];rfl
    .rintro c D ⟨fr,r,rfl⟩ qd hq;rw[B6,L6]at *
     have s3:=AK (o:=.lst ((q.parts.map λ(p:Int)=>BW G m p.toNat).map V.int)) hq;have b:=r.same s3;refine⟨qd,q.parts.map λ(p:Int)=>BW G m p.toNat,Z,SqL.of Ag,?_⟩;generalize upd D qd (.lst ((q.parts.map λ(p:Int)=>BW G m p.toNat).map V.int))=H3 at s3 b⊢;obtain⟨ab,B,u⟩:=b.am;have lk:=u.keys.len;have es:(q.parts.map λ(p:Int)=>BW G m p.toNat).sum=BW G (m+1) i:=by
      rw[FJ nd,nd.ps];rfl
     rw[es];obtain⟨Y,X⟩:=b.am_put B (u.put (l:=m+1) R);exact xw2 Z Z (xq5 b.at'.hp T.cl_Grove T.na_Grove_amounts (Vr g) (xq1 Z ⟨g.am,(xq1 Z ⟨Mb.k (k:=Sum.inl (i:Int)) B (Dv A0),(xq1 Z (k _ ((fr.trans (Ay.frq s3)).trans X) Y))⟩)⟩))
inductive SpLiv(a:Ad)(vs:List V)(H:Hp)(Q:VK):Prop
|mk (g:GA) (G:Gv) (i l:Nat) (_:vs=[.ref g.p,.int i]) (_:AS a H g G) (_:Ak G i l) (_:G.length<9000000) (_:∀H',FrQ g H H'->AS a H' g G->Q (.int (BW G l i)) H'):SpLiv a vs H Q
def ZC(a:Ad):Sp:=λvs H Q _=>SpLiv a vs H Q
theorem ok_liv(F:Fun K "living" "Grove.living" FZ f fd)(T:Top K mg a)(n:BJ P w K mg base CX0 2 a.c_Grove "check_square" JP (Td a))(o:BJ P w K mg base CX0 50 a.c_Grove "counted" JP (VY a 49)):AN P w K mg base CX0 51 f fd JP (ZC a):=by
 refine F.ok Oe D_9 λr A j s H vs Q E m h=>?_
 obtain⟨g,G,i,l,rfl,b,c,few,k⟩:=h;refine⟨_,(Ab (BC (AC (pv 0) n (rm m) Am (Aa (pv 1) Ac))) (Af (Au (AC (pv 0) o (rm m) Am (Aa (pv 1) Ac))))),?_⟩
 try dsimp only[cxK]
 have d:l<49:=by
  obtain⟨q,e,t⟩:=id c;have:=(b.ok.lev e).2;lia
 refine xq1 Z ⟨g.p,g.dx,(xq1 Z ⟨b.at'.hp,Px g,(xq1 Z ⟨g,G,i,Z,b.at',c.lt,?_⟩)⟩)⟩;exact xq1 Z ⟨g.p,g.dx,(xq1 Z ⟨b.at'.hp,Pw g,(xq1 Z ⟨g,G,i,l,Z,b,c,d,few,k⟩)⟩)⟩
end
theorem Qa(half:Int):∀(l r:List (Option Bx))(k:Nat),DY half k (l++r)=DY half k l++DY half (k+l.length) r
|[],r,k=>rfl
|none::l,r,k=>by
 show DY half (k+1) (l++r)=DY half (k+1) l++DY half (k+(l.length+1)) r;rw[Qa half l r (k+1),show k+1+l.length=k+(l.length+1) by lia]
|some b::l,r,k=>by
 show shB half k b::DY half (k+1) (l++r)=shB half k b::(DY half (k+1) l++DY half (k+(l.length+1)) r);rw[Qa half l r (k+1),show k+1+l.length=k+(l.length+1) by lia]
theorem MN(half:Int):∀(l:List (Option Bx))(k:Nat),(DY half k l).length<=l.length
|[],k=>C0 _
|none::l,k=>C9 (MN half l (k+1)) (S0 _)
|some b::l,k=>Q8 (MN half l (k+1))
theorem PairedM.getL{α β:Type}{F:α->β->Prop}:∀{l:List α}{m:List β}{i:Nat}{x:α},Paired F l m->l[i]?=some x->∃y,m[i]?=some y/\F x y
|_,_,_,_,.nil,e=>by simp at e
|_,_,0,_,.cons r _,e=>by simp at e;subst e;exact⟨_,Z,r⟩
|_,_,i+1,x,.cons _ t,e=>by
 obtain⟨y,a,b⟩:=PairedM.getL (i:=i) (x:=x) t (by simpa using e);exact⟨y,by simpa using a,b⟩
def NP(H:Hp)(t:R_)(b:Bx):Prop:=H t=some (.tup (b.ns.map V.int))
theorem OM{β:Type}{K:O_}{k:Nat}{cs:J_}{g:TG}{tc:TT}{l:TE}{σ:St}{H:Hp}{fin:List V->Hp->Prop}{D:Addr->β->Prop}{L:R_}{e:H_}{bs:List β}(c:β->Int)(o:H L=some (.lst (e.map V.ref)))(i:Paired D e bs)(few:e.length<1000)
  (q:∀t b a N,D t b->a.length<sizeLine->N (a++[.int (c b)]) H->Bt k cs g tc l σ (.ref t) a H N) (p:fin ((bs.map c).map V.int) H):GP k cs g tc l (Itl K L) σ H fin:=by
 have r:e.length=bs.length:=K5 i;refine Et (xs:=e.map V.ref) (λj a f=>H=f/\a=((bs.take j).map c).map V.int) ⟨Z,Z⟩ (λj a f _ z=>z.1▸SqL.of o) ?_ ?_
 .rintro j v a f h ⟨rfl,rfl⟩;rw[B8]at h;obtain⟨t,n,rfl⟩:=D6.mp h;obtain⟨b,m,d⟩:=PairedM.getL i n;refine q t b _ _ d (by rw[B6,B6,L7];exact Dv A0) ⟨Z,?_⟩;rw[J3,m,C6,C6];rfl
 .rintro a f ⟨rfl,rfl⟩;rw[B6,r,L6];exact p
section
variable{P:N_}{w:Q_}{K:O_}{mg:C_}{base:T_}{a:Ad}
inductive WR(vs:List V)(H:Hp)(Q:VK):Prop
|mk (t:R_) (b:Bx) (dx dy:Int) (_:vs=[.ref t,.int dx,.int dy]) (_:NP H t b) (_:∀t',H t'=none->Q (.ref t') (upd H t' (.tup [.int (b.l+dx),.int (b.t+dy),.int b.w,.int b.h]))):WR vs H Q
def Mh:Sp:=λvs H Q _=>WR vs H Q
theorem ok_shift(F:Fun K "shifted_box" "shifted_box" GT f fd)(T:Top K mg a):AN P w K mg base CX0 1 f fd QC Mh:=by
 refine F.ok OU D_9 λe A d s H vs Q E g h=>?_
 obtain⟨t,b,dx,dy,rfl,c,k⟩:=h;have c:H t=some (.tup [.int b.l,.int b.t,.int b.w,.int b.h]):=c;refine⟨_,(Af (Au (Dx (Br AZ (Ai Al (pv 0) Ae R_9) (pv 1) (Br AZ (Ai Al (pv 0) Ae R_9) (pv 2) (Aa (Ai Al (pv 0) Ae R_9) (Aa (Ai Al (pv 0) Ae R_9) Ac))))))),?_⟩
 try dsimp only[cxK]
 refine xwi Z Z Z (SqT.of c) (Ah (j:=0) Z) (xwb Z Z Z (xwi Z Z Z (SqT.of c) (Ah (j:=1) Z) (xwb Z Z Z (xwi Z Z Z (SqT.of c) (Ah (j:=2) Z) (xwi Z Z Z (SqT.of c) (Ah (j:=3) Z) ⟨S_4,λt' n=>k t' n⟩)))))
inductive WV(vs:List V)(H:Hp)(Q:VK):Prop
|mk (L:R_) (ts:H_) (bs:List Bx) (_:vs=[.ref L]) (_:H L=some (.lst (ts.map V.ref))) (_:Paired (NP H) ts bs) (_:bs≠[]) (_:ts.length<1000) (_:∀t' H',Ay H H'->NP H' t' (PV bs)->Q (.ref t') H'):WV vs H Q
def Ow:Sp:=λvs H Q _=>WV vs H Q
theorem ok_least(F:Fun K "least_box" "least_box" CY f fd)(T:Top K mg a):AN P w K mg base CX0 1 f fd GM Ow:=by
 refine F.ok Eb D_9 λaa A U s H vs Q E hr h=>?_
 obtain⟨L,ts,bs,rfl,p,v,ne,few,k⟩:=h;have c:∀n:Bx->Int,bs.map n≠[]:=λn z=>ne (S4.mp z);refine⟨_,(Ab (Ao (i:=1) Eb.nd Z O_9 (AJ (Rq Z) Z T.b_min A0b (Aa (Ck Z (BK.of (So:=Aj CY) (No:=Fj) (N:=["box"]) (k:=1) (cs:=[]) Z Z A1) (CO (pv 0)) (λ_ _ _=>(Bj (i:=0) A1 Z Z)) (λ_ _ _=>BP) (λ_ _ _=>(Ai (Li (K:=K) Z) (pv 0) Ae R_9))) Ac))) (Ab (Ao (i:=2) Eb.nd Z O_9 (AJ (Rq Z) Z T.b_min A0b (Aa (Ck Z (BK.of (So:=Aj CY) (No:=Fj) (N:=["box"]) (k:=1) (cs:=[]) Z Z A1) (CO (pv 0)) (λ_ _ _=>(Bj (i:=0) A1 Z Z)) (λ_ _ _=>BP) (λ_ _ _=>(Ai (Li (K:=K) Z) (pv 0) Ae R_9))) Ac))) (Ab (Ao (i:=3) Eb.nd Z O_9 (AJ (Rr Z) Z T.b_max A1d (Aa (Ck Z (BK.of (So:=Aj CY) (No:=Fj) (N:=["box"]) (k:=1) (cs:=[]) Z Z A1) (CO (pv 0)) (λ_ _ _=>(Bj (i:=0) A1 Z Z)) (λ_ _ _=>BP) (λ_ _ _=>(AA AZ (Ai (Li (K:=K) Z) (pv 0) Ae R_9) (Ai (Li (K:=K) Z) (pv 0) Ae R_9)))) Ac))) (Ab (Ao (i:=4) Eb.nd Z O_9 (AJ (Rr Z) Z T.b_max A1d (Aa (Ck Z (BK.of (So:=Aj CY) (No:=Fj) (N:=["box"]) (k:=1) (cs:=[]) Z Z A1) (CO (pv 0)) (λ_ _ _=>(Bj (i:=0) A1 Z Z)) (λ_ _ _=>BP) (λ_ _ _=>(AA AZ (Ai (Li (K:=K) Z) (pv 0) Ae R_9) (Ai (Li (K:=K) Z) (pv 0) Ae R_9)))) Ac))) (Af (Au (Dx (Aa (pv 1) (Aa (pv 2) (Br Bm (pv 3) (pv 1) (Br Bm (pv 4) (pv 2) Ac))))))))))),?_⟩
 try dsimp only[cxK]
 refine xq1 Z ⟨L,Z,⟨_,SqL.of p⟩,OM (·.l) p v few (λt b e N d g m=>⟨⟨[some (.ref t)],Z,Z⟩,g,GO (xwi Z Z Z (SqT.of d) (Ah (j:=0) Z) m)⟩) λq1 h1=>?_⟩;refine⟨q1,(xq1 Z ⟨SqL.of Ag,c _,λm1 C M=>?_⟩)⟩;obtain rfl:=mnL_of C M;have x:=AK (o:=.lst ((bs.map (·.l)).map V.int)) h1;generalize upd H q1 (.lst ((bs.map (·.l)).map V.int))=H1 at x⊢;have q:=x _ _ p;have W:Paired (NP H1) ts bs:=PairedM.imp (λt b z=>x _ _ z) v;refine xq1 Z ⟨L,Z,⟨_,SqL.of q⟩,OM (·.t) q W few (λt b e N d g m=>⟨⟨[some (.ref t)],Z,Z⟩,g,GO (xwi Z Z Z (SqT.of d) (Ah (j:=1) Z) m)⟩) λq2 h2=>?_⟩;refine⟨q2,(xq1 Z ⟨SqL.of Ag,c _,λm2 D O=>?_⟩)⟩;obtain rfl:=mnL_of D O;have y:=x.trans (AK (o:=.lst ((bs.map (·.t)).map V.int)) h2);generalize upd H1 q2 (.lst ((bs.map (·.t)).map V.int))=H2 at y⊢;have r:=y _ _ p;have X:Paired (NP H2) ts bs:=PairedM.imp (λt b z=>y _ _ z) v;refine xq1 Z ⟨L,Z,⟨_,SqL.of r⟩,OM (λb=>b.l+b.w) r X few (λt b e N d g m=>⟨⟨[some (.ref t)],Z,Z⟩,g,GO (xwi Z Z Z (SqT.of d) (Ah (j:=0) Z) (xwi Z Z Z (SqT.of d) (Ah (j:=2) Z) (xq2 Z Z m)))⟩) λq3 h3=>?_⟩;refine⟨q3,(xq1 Z ⟨SqL.of Ag,c _,λm3 G R=>?_⟩)⟩;obtain rfl:=mxL_of G R;have B:=y.trans (AK (o:=.lst ((bs.map λb=>b.l+b.w).map V.int)) h3);generalize upd H2 q3 (.lst ((bs.map λb=>b.l+b.w).map V.int))=H3 at B⊢;have u:=B _ _ p;have Y:Paired (NP H3) ts bs:=PairedM.imp (λt b z=>B _ _ z) v;refine xq1 Z ⟨L,Z,⟨_,SqL.of u⟩,OM (λb=>b.t+b.h) u Y few (λt b e N d g m=>⟨⟨[some (.ref t)],Z,Z⟩,g,GO (xwi Z Z Z (SqT.of d) (Ah (j:=1) Z) (xwi Z Z Z (SqT.of d) (Ah (j:=3) Z) (xq2 Z Z m)))⟩) λq4 h4=>?_⟩;refine⟨q4,(xq1 Z ⟨SqL.of Ag,c _,λm4 I S=>?_⟩)⟩;obtain rfl:=mxL_of I S;have s4:=B.trans (AK (o:=.lst ((bs.map λb=>b.t+b.h).map V.int)) h4);generalize upd H3 q4 (.lst ((bs.map λb=>b.t+b.h).map V.int))=H4 at s4⊢;exact xw3 Z Z Z (xwb Z Z Z (xw2 Z Z (xq2 Z Z ⟨S_4,λt5 h5=>k t5 _ (s4.trans (AK h5)) Ag⟩)))
inductive SpBox(a:Ad)(n:Nat)(vs:List V)(H:Hp)(Q:VK):Prop
|mk (g:GA) (G:Gv) (i l:Nat) (_:vs=[.ref g.p,.int i]) (_:AS a H g G) (_:Ak G i l) (_:l<n) (_:G.length<9000000) (_:(BY G l i=none->∀H',FrQ g H H'->AS a H' g G->Q .non H')) (_:∀b,BY G l i=some b->∀t H',FrQ g H H'->AS a H' g G->NP H' t b->Q (.ref t) H'):SpBox a n vs H Q
def Te(a:Ad)(n:Nat):Sp:=λvs H Q _=>SpBox a n vs H Q
inductive SpMea(a:Ad)(n:Nat)(vs:List V)(H:Hp)(Q:VK):Prop
|mk (g:GA) (G:Gv) (i l:Nat) (b:Bx) (_:vs=[.ref g.p,.int i]) (_:AS a H g G) (_:Ak G i l) (_:l<n) (_:G.length<9000000) (_:BY G l i=some b) (_:∀t H',FrQ g H H'->AS a H' g G->NP H' t b->Q (.ref t) H'):SpMea a n vs H Q
def spMea(a:Ad)(n:Nat):Sp:=λvs H Q _=>SpMea a n vs H Q
theorem RA(m:Nat){l:Int}(e:l=(m:Int)+1):(1:Int)*2^(l-1).toNat=2^m:=by
 rw[e,Int.one_mul,show((m:Int)+1-1).toNat=m by lia]
theorem ok_mea{n d:Nat}(F:Fun K "measured" "Grove.measured" Dl f fd)(T:Top K mg a)(hd:1<=d)(aM:Cal P w K mg base CX0 1 "shifted_box" QC Mh)(bD:Cal P w K mg base CX0 1 "least_box" GM Ow)(b9:BJ P w K mg base CX0 d a.c_Grove "boxed" JP (Te a n)):AN P w K mg base CX0 (d+1) f fd JP (spMea a (n+1)):=by
 refine F.ok BB (λvs H Q E h=>?_) (λan A am s H vs Q E hr h=>?_)
 .obtain⟨g,G,i,l,b,rfl,_⟩:=h;rfl
 .obtain⟨g,G,i,l,b,rfl,I,hl,ln,few,Y,k⟩:=h;obtain⟨q0,e0,l0⟩:=id hl;refine⟨_,(Ab (Ao (i:=2) BB.nd Z O_9 (Ai Aw (AB (pv 0) Z) (pv 1) R_9)) (Ab (AQ (Az De (pv 2) Ae (AD _)) (Af (Au (Dx (AF (AF (AF (AF Ac))))))) Ax) (Ab (Ao (i:=3) BB.nd Z O_9 (AA Jd Ae (AA Bm (pv 2) Ae))) (Ab (Ao (i:=4) BB.nd Z O_9 (CL Ac)) (Ab (CK X8 Z (Mu true Z T.b_enumerate (Aa (Ai Aw (AB (pv 0) Z) (pv 1) R_9) Ac)) (Nm Z (CA (Bv (i:=5) BB.nd Z O_9) (CA (Bv (i:=6) BB.nd Z O_9) Ld))) (Ab (Ao (i:=7) BB.nd Z O_9 (AC (pv 0) b9 (rm hr) Am (Aa (pv 6) Ac))) (Af (AQ (Az Wn (pv 7) DK (AD _)) (Af (BC (Fe K2 K3 K4 Cc (pv 4) (Aa (Aq aM (rm hr) Z Am (Aa (pv 7) (Br EJ (pv 3) (AA Bz (pv 5) Ae) (Br EJ (pv 3) (AA CQ (pv 5) Ae) Ac)))) Ac)))) Ax)))) (Af (Au (Aq bD (rm hr) Z Am (Aa (pv 4) Ac))))))))),?_⟩
  try dsimp only[cxK]
  refine⟨_,Z,g.p,_,g.dx,_,_,Z,I.at'.hp,T.cl_Grove,T.na_Grove_levels,EL g,_,Z,g.lv,_,(i:Int),.int q0.lev,Z,Z,SqL.of I.at'.lv,Ah (by rw[B8,e0];rfl),?_⟩;cases l with
  |zero =>
   rw[l0];refine xq1 Z ⟨Z,(xq1 Z (Cg ⟨S_4,λt X=>?_⟩))⟩;have e:b=⟨0,0,1,1⟩:=by
    have Y:(if i=0 then none else some (⟨0,0,1,1⟩:Bx))=some b:=Y;split at Y
    .cases Y
    .cases Y;rfl
   subst e;have sm:=AK (o:=.tup [.int 0,.int 0,.int 1,.int 1]) X;exact k t _ (Ay.frq sm) (I.same sm) Ag
  |succ m =>
   have al:q0.lev=(m:Int)+1:=by rw[l0];lia
   refine xq1 Z ⟨Z,(xq1 Z ?_)⟩;rw[Z8 (by intro z;injection z with z;lia)];obtain⟨q,x,y,z,w,nd⟩:=Bk I.ok hl;obtain⟨ts,h3,h4⟩:=I.at'.pt;obtain⟨t,et,X⟩:=PairedM.get h4 nd.g;have X:H t=some (.tup (q.parts.map V.int)):=X;have nt:=I.ne_am X (by intro l z;cases z);refine AX (xwb Z Z Z (xq2 Z Z ⟨⟨by lia,by have:=(I.ok.lev e0).2;lia,by decide⟩,?_⟩));rw[show(λ(i j:Int)=>V.int (i*2^j.toNat)) 1 (q0.lev-1)=V.int (2^m)from K0 V.int (RA m al)];refine⟨S_0,λL hL=>?_⟩;have m1:L≠g.lv:=X5 (Av I.at'.lv hL);have m2:L≠g.pt:=X5 (Av h3 hL);have m3:L≠g.br:=X5 (Av I.br hL);have s1:=AK (o:=.lst []) hL;have ad:upd H L (.lst []) L=some (.lst []):=Ag;generalize upd H L (.lst [])=H1 at s1 ad⊢;have ab:=I.same s1;have ai:=s1 _ _ h3;have aj:=s1 _ _ X;generalize B:[BY G m x,BY G m y,BY G m z,BY G m w]=r;have C:r.length=4:=by rw[<-B];rfl
   have aa:BY G (m+1) i=QB (2^m) r:=by rw[FL nd,B]
   have ac:∀(j k:Nat),q.parts[j]?=some (k:Int)->r[j]?=some (BY G m k):=by
    intro j k e;rw[nd.ps]at e;rw[<-B]
    match j,e with
    |0,e=>have e:some (x:Int)=some (k:Int):=e;rw[show x=k from Z9 (X4 e)];rfl
    |1,e=>have e:some (y:Int)=some (k:Int):=e;rw[show y=k from Z9 (X4 e)];rfl
    |2,e=>have e:some (z:Int)=some (k:Int):=e;rw[show z=k from Z9 (X4 e)];rfl
    |3,e=>have e:some (w:Int)=some (k:Int):=e;rw[show w=k from Z9 (X4 e)];rfl
    |j+4,e=>simp at e
   refine xwf Z Z ab.at'.hp T.cl_Grove T.na_Grove_parts (BX g) (xwi Z Z Z (SqL.of ai) (Ah (by rw[B8,et];rfl)) ⟨t,Z,⟨_,SqT.of aj⟩,?_⟩);refine JT (b:=true) (xs:=q.parts.map V.int) (λj σ O=>∃(us:H_)(u5 u6 u7:Option V),σ=[some (.ref g.p),some (.int i),some (.int q0.lev),some (.int (2^m)),some (.ref L),u5,u6,u7]/\FrQ g H O/\AS a O g G/\O L=some (.lst (us.map V.ref))/\Paired (NP O) us (DY (2^m) 0 (r.take j))) ⟨[],none,none,none,Z,Ay.frq s1,ab,ad,.nil⟩ (λj σ O _ ⟨_,_,_,_,_,fr,_⟩=>SqT.of (fr _ _ X nt.1 nt.2)) ?_ ?_
   .rintro j v σ O T' ev ⟨us,u5,u6,u7,rfl,fr,R,U,pr⟩ nT;obtain⟨k',rfl,hk,ek⟩:=nd.mem ev;have eo:=ac j k' ek;have hj:j<4:=by rw[<-C];exact(B7.mp eo).1
    have lu:us.length<=4:=by
     rw[K5 pr];have:=MN (2^m) (r.take j) 0;rw[L7]at this;lia
    have s2:=AK (o:=.tup [.int j,.int k']) nT;refine Rh Ag ?_;generalize upd O T' (.tup [.int j,.int k'])=H3 at s2⊢;have N:=R.same s2;have ge:DY (2^m) 0 (r.take (j+1))=DY (2^m) 0 (r.take j)++DY (2^m) j [BY G m k']:=by
     rw[J3,eo,P9,Qa,L7,C,M8,Nat.min_eq_left A0]
    have nL:∀{u:Hp},FrQ g H3 u->u L=some (.lst (us.map V.ref)):=λ{u} f4=>by
     have:=s2 _ _ U;have n:=N.ne_am this (by intro l z;cases z);exact f4 _ _ this n.1 n.2
    have nP:∀{u:Hp},FrQ g H3 u->Paired (NP u) us (DY (2^m) 0 (r.take j)):=λ{u} f4=>PairedM.imp (λt b z=>by
     have:=s2 _ _ z;have n:=N.ne_am this (by intro l z;cases z);exact f4 _ _ this n.1 n.2) pr
    refine xq1 Z ⟨g.p,g.dx,(xq1 Z ⟨N.at'.hp,TB g,(xq1 Z ⟨g,G,k',m,Z,N,hk,by lia,few,λen u f4 S=>?_,λb' ag t4 u f4 S ak=>?_⟩)⟩)⟩
    .refine xq1 Z ⟨Z,(xq1 Z (AX ⟨us,_,_,_,Z,(fr.trans (Ay.frq s2)).trans f4,S,nL f4,?_⟩))⟩;rw[ge,en];show Paired _ us (_++[]);rw[P0];exact nP f4
    .refine xq1 Z ⟨Z,(xq1 Z (Cg ?_))⟩;refine xq1 Z ⟨.inl ⟨Z,_,SqL.of (nL f4)⟩,(xw3 Z Z Z (xq2 Z Z ⟨B1,(xq2 Z Z ⟨.inr ⟨by lia,by lia⟩,(xw2 Z Z (xq2 Z Z ⟨⟨by decide,by decide⟩,(xq2 Z Z ⟨.inr ⟨by lia,by lia⟩,?_⟩)⟩))⟩)⟩))⟩;refine⟨t4,b',_,_,Z,ak,λt5 h5=>?_⟩;have s5:=AK (o:=.tup [.int (b'.l+2^m*((j:Int)%2)),.int (b'.t+2^m*((j:Int)/2)),.int b'.w,.int b'.h]) h5;have af:NP (upd u t5 (.tup [.int (b'.l+2^m*((j:Int)%2)),.int (b'.t+2^m*((j:Int)/2)),.int b'.w,.int b'.h])) t5 (shB (2^m) j b'):=Ag;generalize upd u t5 (.tup [.int (b'.l+2^m*((j:Int)%2)),.int (b'.t+2^m*((j:Int)/2)),.int b'.w,.int b'.h])=H5 at s5 af⊢;have W:=s5 _ _ (nL f4);have ah:=S.same s5;refine⟨L,(xq2 Z Z ⟨W,by rw[B6];exact Dv A0,?_⟩)⟩;have D:∀{c:R_}{l:List V},H5 c=some (.tup l)->upd H5 L (.lst (us.map V.ref++[.ref t5])) c=some (.tup l):=λ{c l} e=>by rw[As (AE e W A3)];exact e
     refine⟨us++[t5],_,_,_,Z,?_,ah.put W m1 m2 m3,by rw[Ag,C6];rfl,?_⟩
     .intro c o e n1 n2;have e5:=s5 _ _ (((fr.trans (Ay.frq s2)).trans f4) _ _ e n1 n2);rw[As (Av e hL)];exact e5
     .rw[ge,ag];exact A2b (PairedM.imp (λc b z=>D (s5 _ _ z)) (nP f4)) (D af)
   .rintro σ O ⟨us,u5,u6,u7,rfl,fr,R,U,pr⟩;rw[B6,show q.parts.length=r.length by rw[nd.ps,C];rfl,L6]at pr;have M:QB (2^m) r=some b:=by rw[<-aa];exact Y
    have lu:us.length<=4:=by
     rw[K5 pr];have:=MN (2^m) r 0;lia
    have e3:DY (2^m) 0 r≠[]/\PV (DY (2^m) 0 r)=b:=by
     unfold QB at M;split at M
     .cases M
     .rename_i b1 r1 eg;rw[eg];exact⟨A3,X4 M⟩
    refine xq1 Z ⟨L,us,_,Z,U,pr,e3.1,by lia,λt' H' s' ae=>?_⟩;rw[e3.2]at ae;exact k t' H' (fr.trans (Ay.frq s')) (R.same s') ae
theorem bareL_at{l:Nat}(h:l<=48):((Dh 48).map V.int)[l]?=some (.int (bareN l:Int)):=by
 unfold Dh;rw[B8,B8,N7 A0];rfl
theorem ok_boxS{n d:Nat}(F:Fun K "boxed" "Grove.boxed" ES f fd)(T:Top K mg a)(Y:BJ P w K mg base CX0 d a.c_Grove "measured" JP (spMea a n)):AN P w K mg base CX0 (d+1) f fd JP (Te a n):=by
 refine F.ok Eh D_9 λaa A S s H vs Q E R h=>?_
 obtain⟨g,G,i,l,rfl,c,x,ln,few,k1,X⟩:=h;obtain⟨q0,V,l0⟩:=id x;have I:l<=48:=by have:=(c.ok.lev V).2;lia
 obtain⟨ks,D,y⟩:=c.bx;have lk:=y.keys.len;obtain⟨r,eg⟩:=c.g0;have U:=JY c.ok eg l i I x;refine⟨_,(Ab (AQ (Az De (pv 1) (Ai Aw (AB (pv 0) Z) (Ai Aw (AB (pv 0) Z) (pv 1) R_9) R_9) (AD _)) (Af (Au DK)) Ax) (Ab (Ao (i:=2) Eh.nd Z O_9 (JC (DV R) (AB (pv 0) Z) (pv 1) ⟨Z,Z,Z,Z⟩)) (Ab (AQ (Az Je (pv 2) DK (AD _)) (Ab (Ao (i:=2) Eh.nd Z O_9 (AC (pv 0) Y (rm R) Am (Aa (pv 1) Ac))) (Af (Fz (DV R) (AB (pv 0) Z) (pv 1) (pv 2) Z))) Ax) (Af (Au (pv 2)))))),?_⟩
 try dsimp only[cxK]
 refine xw2 Z Z (xq5 c.at'.hp T.cl_Grove T.na_Grove_bares (Jh g) (xwf Z Z c.at'.hp T.cl_Grove T.na_Grove_levels (EL g) (xwi Z Z Z (SqL.of c.at'.lv) (Ah (by rw[B8,V];rfl)) (xq4 Z Z (SqL.of c.br) (by rw[l0];exact Ah (bareL_at I)) ⟨Z,(xq1 Z ?_)⟩))));refine GD (λN=>?_) (λN=>?_)
 .have ei:i=bareN l:=by
   have:=X7 N;injection this with this
   exact Z9 this
  exact k1 (U.mpr ei) H (FrQ.refl g H) c
 .have ne:¬i=bareN l:=λz=>N (by rw[z];exact Z5 Z);obtain⟨b,B⟩:∃b,BY G l i=some b:=by
   cases e:BY G l i with
   |none=>exact absurd (U.mp e) ne
   |some b=>exact⟨b,Z⟩
  refine xwf Z Z c.at'.hp T.cl_Grove T.na_Grove_boxes (fl6_bx g) ⟨g.bx,Z,.inl ⟨_,.inl D⟩,(xq1 Z ⟨_,Jm.k (k:=Sum.inl (i:Int)) D,?_⟩)⟩;cases e:Bo ks (Sum.inl (i:Int))with
  |some v =>
   obtain⟨l',b',t,O,C,rfl,ht⟩:=y.val i v e;have el:l'=l:=Z9 (O.uniq x);subst el;rw[B]at C;cases C;exact xq1 Z ⟨Z,(xq1 Z (AX (xq1 Z (X b B t H (FrQ.refl g H) c ht))))⟩
  |none =>
   refine xq1 Z ⟨Z,(xq1 Z (Cg (xq1 Z ⟨g.p,g.dx,(xq1 Z ⟨c.at'.hp,Tz g,(xq1 Z ⟨g,G,i,l,b,Z,c,x,ln,few,B,λt H2 f2 o u=>?_⟩)⟩)⟩)))⟩;obtain⟨ks2,q,m⟩:=o.bx;have ab:=m.keys.len;obtain⟨M,W⟩:=o.bx_put q (ks2:=Do ks2 (Sum.inl (i:Int)) (.ref t)) ⟨m.keys.put x.lt _,λj v L=>by
    rw[FN]at L;split at L
    .rename_i z;injection z with z
     have:j=i:=Z9 z;subst this;cases L;exact⟨l,b,t,x,B,Z,u⟩
    .exact m.val j v L⟩
   have nt:=o.ne_am u (by intro l z;cases z);exact xw2 Z Z (xq5 o.at'.hp T.cl_Grove T.na_Grove_boxes (fl6_bx g) (xq1 Z ⟨g.bx,(xq1 Z ⟨Mb.k (k:=Sum.inl (i:Int)) q (Dv A0),(xq1 Z (X b B t _ (f2.trans W) M (W _ _ u nt.1 nt.2)))⟩)⟩))
theorem ok_box{f:R_}{j:E_}{k:R_}{b:E_}(F:Fun K "boxed" "Grove.boxed" ES f j)(q:Fun K "measured" "Grove.measured" Dl k b)(T:Top K mg a)(r:Qr K a.c_Grove "boxed" f)(p:Ci K j JP [])(e:Qr K a.c_Grove "measured" k)(c:Ci K b JP [])
 (t:Cal P w K mg base CX0 1 "shifted_box" QC Mh) (u:Cal P w K mg base CX0 1 "least_box" GM Ow):∀n,AN P w K mg base CX0 (2*n+2) f j JP (Te a n)
|0=>by
 refine F.ok Eh (λvs H Q E h=>?_) (λv A o s H vs Q E x h=>?_)
 .obtain⟨g,G,i,l,rfl,_,_,m,_⟩:=h;exact absurd m (L8 _)
 .obtain⟨g,G,i,l,rfl,_,_,m,_⟩:=h;exact absurd m (L8 _)
|n+1=>ok_boxS F T ⟨⟨k,b,ok_mea (d:=2*n+2) q T A0 t u ⟨⟨f,j,ok_box F q T r p e c t u n,r,p⟩,T.cl_Grove⟩,e,c⟩,T.cl_Grove⟩
inductive SpSpan(a:Ad)(vs:List V)(H:Hp)(Q:VK):Prop
|mk (g:GA) (G:Gv) (i l:Nat) (_:vs=[.ref g.p,.int i]) (_:AS a H g G) (_:Ak G i l) (_:G.length<9000000) (_:(BY G l i=none->∀H',FrQ g H H'->AS a H' g G->Q .non H')) (_:∀b,BY G l i=some b->∀t H',FrQ g H H'->AS a H' g G->NP H' t b->Q (.ref t) H'):SpSpan a vs H Q
def UB(a:Ad):Sp:=λvs H Q _=>SpSpan a vs H Q
theorem ok_span(F:Fun K "span" "Grove.span" IQ f fd)(T:Top K mg a)(m:BJ P w K mg base CX0 2 a.c_Grove "check_square" JP (Td a))(n:BJ P w K mg base CX0 100 a.c_Grove "boxed" JP (Te a 49)):AN P w K mg base CX0 101 f fd JP (UB a):=by
 refine F.ok Qz D_9 λo A j s H vs Q E k h=>?_
 obtain⟨g,G,i,l,rfl,b,c,few,r,t⟩:=h;refine⟨_,(Ab (BC (AC (pv 0) m (rm k) Am (Aa (pv 1) Ac))) (Af (Au (AC (pv 0) n (rm k) Am (Aa (pv 1) Ac))))),?_⟩
 try dsimp only[cxK]
 have d:l<49:=by
  obtain⟨q,e,u⟩:=id c;have:=(b.ok.lev e).2;lia
 refine xq1 Z ⟨g.p,g.dx,(xq1 Z ⟨b.at'.hp,Px g,(xq1 Z ⟨g,G,i,Z,b.at',c.lt,?_⟩)⟩)⟩;exact xq1 Z ⟨g.p,g.dx,(xq1 Z ⟨b.at'.hp,TB g,(xq1 Z ⟨g,G,i,l,Z,b,c,d,few,r,t⟩)⟩)⟩
end
noncomputable def atN(ns:I_)(k:Int):Int:=ns.getD k.toNat 0
section
variable{P:N_}{w:Q_}{K:O_}{mg:C_}{base:T_}{a:Ad}
inductive SpAt(K:O_)(vs:List V)(H:Hp)(Q:VK):Prop
|mk (l:R_) (ns:I_) (k:Int) (_:vs=[.ref l,.int k]) (_:SqL K H l (ns.map V.int)) (_:0<=k) (_:Q (.int (atN ns k)) H):SpAt K vs H Q
def Yi(K:O_):Sp:=λvs H Q _=>SpAt K vs H Q
theorem ok_at(F:Fun K "_law_at" "_law_at" Nj f fd)(T:Top K mg a):AN P w K mg base CX0 1 f fd YI (Yi K):=by
 refine F.ok UM D_9 λi A d s H vs Q E m h=>?_
 obtain⟨l,ns,k,rfl,g,j,q⟩:=h;refine⟨_,(Ab (AQ (Az GN (pv 1) (AJ BD Z T.b_len K8 (Aa (pv 0) Ac)) (AD _)) (Af (Au (Ai Aw (pv 0) (pv 1) R_9))) Ax) (Af (Au Ae))),?_⟩
 try dsimp only[cxK]
 refine⟨_,Z,_,Z,l,_,Z,.inl g,_,_,Z,Z,_,Z,?_⟩;obtain⟨n,rfl⟩:=F5 j;refine GD (λc=>?_) (λc=>?_)
 .have b:n<ns.length:=by
   have:=X7 c;rw[B6]at this;lia
  refine⟨_,Z,_,Z,l,_,n,.int ns[n],Z,Z,g,Ah (by rw[B8,C5 b];rfl),?_⟩;have e:atN ns (n:Int)=ns[n]:=by
   unfold atN;rw[F4,C7,C5 b];rfl
  rw[e]at q;exact q
 .have b:ns.length<=n:=by
   have:¬(n:Int)<((ns.map V.int).length:Int):=λz=>c (Z5 z);rw[B6]at this;lia
  have e:atN ns (n:Int)=0:=by
   unfold atN;rw[F4,C7,R9 b];rfl
  rw[e]at q;exact q
end
inductive SpLaw(K:O_)(vs:List V)(H:Hp)(Q:VK):Prop
|mk (a:R_) (ns:I_) (_:vs=[.ref a]) (_:SqL K H a (ns.map V.int)) (_:ns.length<=63) (_:∀H',Q (.bl true) H'):SpLaw K vs H Q
def VV(K:O_):Sp:=λvs H Q _=>SpLaw K vs H Q
end J
namespace J
open PySem L2
def Ap(g:GA)(x:R_):Prop:=x≠g.lv/\x≠g.pt/\x≠g.nm
theorem Ap.new{a:Ad}{H:Hp}{g:GA}{G:Gv}(h:AM a H g G){x:R_}(n:H x=none):Ap g x:=by
 obtain⟨c,b,_⟩:=h.pt;exact⟨X5 (Av h.lv n),X5 (Av b n),X5 (Av h.nm n)⟩
theorem Fr.get{g:GA}{H a:Hp}{x:R_}{o:HO}(f:Fr g H a)(p:Ap g x)(e:H x=some o):a x=some o:=f _ _ e p.1 p.2.1 p.2.2
theorem Fr.tup{a:Ad}{g:GA}{G:Gv}{H b:Hp}{x:R_}{l:List V}(f:Fr g H b)(h:AM a H g G)(e:H x=some (.tup l)):b x=some (.tup l):=by
 obtain⟨us,c,_⟩:=h.pt;exact f _ _ e (AE e h.lv A3) (AE e c A3) (AE e h.nm A3)
theorem AG.mono{G a:Gv}{n m:Nat}(h:AG G a n)(e:n<=m):AG G a m:=⟨h.ok,h.pre,C9 h.few A0⟩
theorem GJ(l:Nat):(0:Int)<2^l:=Int.pow_pos A4
theorem Wk{l:Nat}(h:l<64):(2:Int)^l<2^64:=by
 have:(2:Nat)^l<2^64:=W3 A4 h
 exact_mod_cast this
theorem La{d:Int}(a:0<=d)(b:d<=9):d.natAbs.log2<1920:=by
 obtain⟨m,rfl⟩:=F5 a;exact(show ∀m:Nat,m<10->(m:Int).natAbs.log2<1920 by decide +kernel) m (by omega)
theorem Jg{n:Nat}(h:n<=100000):n<=sizeLine:=C9 h A4
seal L2.PA L2.PE L2.PS L2.PSs L2.PT L2.PW
theorem Ay.noneN{H a:Hp}(s:Ay H a){x:R_}(n:a x=none):H x=none:=by
 cases e:H x with
 |none=>rfl
 |some o=>rw[s _ _ e]at n;cases n
theorem MG{T:St->Hp->Prop}{C:Prop}(P:St->Hp->Prop)(h:(∀σ H,P σ H->T σ H)->C)(k:∀σ H,P σ H->T σ H):C:=h k
structure MA where
tp:Addr
l:Addr
kc:Addr
ds:List Addr
noncomputable def jf2(gp mem:R_):List (Str×V):=AW "memories" (.ref mem) (AW "grove" (.ref gp) [])
noncomputable def jf5(gp mem pr l kc:R_):List (Str×V):=AW "known_cells" (.ref kc) (AW "known_squares" (.ref l) (AW "rule" (.ref pr) (jf2 gp mem)))
theorem jf2_mem(a mem:R_):(jf2 a mem).lookup ("memories" : Str)=some (V.ref mem):=by
 unfold jf2;rw[An,Z7 rfl]
theorem jf2_no(a mem:R_){m:Str}(b:¬m=("memories" : Str))(c:¬m=("grove" : Str)):(jf2 a mem).lookup m=none:=by
 unfold jf2;rw[An,Z4 b,An,Z4 c];rfl
section
variable(gp mem pr l kc:R_)
theorem jf5_kc:(jf5 gp mem pr l kc).lookup ("known_cells" : Str)=some (V.ref kc):=by
 unfold jf5;rw[An,Z7 rfl]
theorem jf5_ks:(jf5 gp mem pr l kc).lookup ("known_squares" : Str)=some (V.ref l):=by
 unfold jf5;rw[An,Z4 A1,An,Z7 rfl]
theorem jf5_ru:(jf5 gp mem pr l kc).lookup ("rule" : Str)=some (V.ref pr):=by
 unfold jf5;rw[An,Z4 A1,An,Z4 A1,An,Z7 rfl]
theorem Es:(jf5 gp mem pr l kc).lookup ("grove" : Str)=some (V.ref gp):=by
 unfold jf5 jf2;rw[An,Z4 A1,An,Z4 A1,An,Z4 A1,An,Z4 A1,An,Z7 rfl]
theorem LW{m:Str}(a:¬m=("known_cells" : Str))(b:¬m=("known_squares" : Str))(c:¬m=("rule" : Str))(d:¬m=("memories" : Str))(e:¬m=("grove" : Str)):(jf5 gp mem pr l kc).lookup m=none:=by
 unfold jf5;rw[An,Z4 a,An,Z4 b,An,Z4 c,jf2_no _ _ d e]
theorem YA:(jf5 gp mem pr l kc).lookup ("after" : Str)=none:=LW _ _ _ _ _ A1 A1 A1 A1 A1
theorem Yz:(jf5 gp mem pr l kc).lookup ("check_jump" : Str)=none:=LW _ _ _ _ _ A1 A1 A1 A1 A1
theorem MB:(jf5 gp mem pr l kc).lookup ("reckoned" : Str)=none:=LW _ _ _ _ _ A1 A1 A1 A1 A1
theorem Yy:(jf5 gp mem pr l kc).lookup ("fresh" : Str)=none:=LW _ _ _ _ _ A1 A1 A1 A1 A1
theorem noJ_half:(jf5 gp mem pr l kc).lookup ("four_halfway" : Str)=none:=LW _ _ _ _ _ A1 A1 A1 A1 A1
theorem noJ_mid:(jf5 gp mem pr l kc).lookup ("middle_after" : Str)=none:=LW _ _ _ _ _ A1 A1 A1 A1 A1
theorem noJ_cell:(jf5 gp mem pr l kc).lookup ("cell_after" : Str)=none:=LW _ _ _ _ _ A1 A1 A1 A1 A1
end
inductive Nv:HO->Prop
|tup {xs:List V}:Nv (.tup xs)
|ins {C dx:R_} {fs:List (Str×V)} (h1:1<=fs.length) (h2:fs.length<=3):Nv (.ins C dx fs)
theorem OC(f:Str)(v:V):∀fs:List (Str×V),1<=(AW f v fs).length
|[]=>C0 1
| (g,x)::r=>by
 unfold AW;split
 .rw[F0];lia
 .rw[F0];lia
theorem Dy.kp{a:Ad}{H e:Hp}{p:R_}{c:BF}(k:∀b o,H b=some o->Nv o->e b=some o)(h:Dy a H p c):Dy a e p c:=by
 cases h with
 |am h d=>exact .am (k _ _ h (.ins (OC _ _ _) (C9 (BH _ _ _) (Q8 (C9 (BH _ _ _) (by show 0+1<=2;decide)))))) (k _ _ d .tup)
 |pl h d=>exact .pl (k _ _ h (.ins (OC _ _ _) (C9 (BH _ _ _) (by show 0+1<=3;decide)))) (k _ _ d .tup)
theorem BZ.kp{a:Ad}{H d:Hp}{p:R_}{c:Be}(k:∀b o,H b=some o->Nv o->d b=some o)(h:BZ a H p c):BZ a d p c:=by
 obtain⟨dx,t,cs,e,f,g⟩:=h.ex;exact⟨dx,t,cs,k _ _ e (.ins (OC _ _ _) (C9 (BH _ _ _) (Q8 (C9 (BH _ _ _) (Q8 (C9 (BH _ _ _) (by show 0+1<=1;decide))))))),k _ _ f .tup,Paired.imp (λ_ _ z=>z.kp k) g⟩
theorem Cy.kp{a:Ad}{H c:Hp}{p:R_}{x:Str}{r:AI}(k:∀b o,H b=some o->Nv o->c b=some o)(h:Cy a H p x r):Cy a c p x r:=by
 obtain⟨dx,t,cs,d,e,f⟩:=h.ex;exact⟨dx,t,cs,k _ _ d (.ins (OC _ _ _) (C9 (BH _ _ _) (Q8 (C9 (BH _ _ _) (by show 0+1<=2;decide))))),k _ _ e .tup,Paired.imp (λ_ _ z=>z.kp k) f⟩
noncomputable def mK(ms:List (Str×MA)):List (Key×V):=ms.map λe=>(Sum.inr e.1,V.ref e.2.tp)
theorem Wu(t:Str):∀a:List (Str×MA),(∃m,(t,m)∈a/\Bo (mK a) (Sum.inr t)=some (.ref m.tp))\/(Bo (mK a) (Sum.inr t)=none/\∀e∈a,e.1≠t)
|[]=>.inr ⟨Z,λe d=>nomatch d⟩
|e::r=>by
 by_cases h:e.1=t
 .refine .inl ⟨e.2,?_,?_⟩
  .rw[<-h];exact C2
  .exact BL (p:=(Sum.inr e.1,V.ref e.2.tp)) (r:=mK r) (by rw[h])
 .have n:Bo (mK (e::r)) (Sum.inr t)=Bo (mK r) (Sum.inr t):=Bn (p:=(Sum.inr e.1,V.ref e.2.tp)) (r:=mK r) λz=>h (Sum.inr.inj z);rcases Wu t r with ⟨m,b,c⟩|⟨b,c⟩
  .exact .inl ⟨m,C4 _ b,n.trans c⟩
  .refine .inr ⟨n.trans b,λx f=>?_⟩;rcases C1.mp f with z|z
   .rw[z];exact h
   .exact c x z
inductive ChgR(H H':Hp)(t:Str)(ms ms':List (Str×MA))(m:MA):Prop
|old (_:(t,m)∈ms) (_:ms'=ms):ChgR H H' t ms ms' m
|new (_:ms'=ms++[(t,m)]) (_:∀e∈ms,e.1≠t) (_:H m.tp=none/\H m.l=none/\H m.kc=none/\∀d∈m.ds,H d=none) (_:H' m.tp=some (.tup [.ref m.l,.ref m.kc])) (_:H' m.l=some (.lst (m.ds.map V.ref))) (_:H' m.kc=some (.dT [])) (_:∀d∈m.ds,H' d=some (.dK [])) (_:m.ds.length=47) (_:m.ds.Nodup):ChgR H H' t ms ms' m
section
variable{P:N_}{w:Q_}{K:O_}{mg:C_}{base:T_}{a:Ad}
inductive SpShow(a:Ad)(vs:List V)(H:Hp)(Q:VK):Prop
|mk (p:R_) (t:Str) (r:AI) (_:vs=[.ref p]) (_:Cy a H p t r) (_:Q (.str t) H):SpShow a vs H Q
def UC(a:Ad):Sp:=λvs H Q _=>SpShow a vs H Q
theorem ok_show(F:Fun K "shown_rule" "shown_rule" IJ f fd)(T:Top K mg a):AN P w K mg base CX0 1 f fd RX (UC a):=by
 refine F.ok Qv D_9 λc A b s H vs Q E j h=>?_
 obtain⟨p,t,r,rfl,e,k⟩:=h;obtain⟨dx,l,cs,d,g,i⟩:=e.ex;refine⟨_,(Af (Au (AB (pv 0) Z))),?_⟩
 try dsimp only[cxK]
 exact xwf Z Z d T.cl_Rule T.na_Rule_text (fl2_1 A1) k
inductive SpChg(a:Ad)(vs:List V)(H:Hp)(Q:VK):Prop
|mk (p dx mem pr:R_) (fs:List (Str×V)) (t:Str) (r:AI) (ms:List (Str×MA)) (_:vs=[.ref p,.ref pr]) (_:H p=some (.ins a.c_Jumps dx fs)) (_:fs.lookup ("memories" : Str)=some (.ref mem)) (_:fs.length<=10) (_:H mem=some (.dK (mK ms))) (_:ms.length<=1000) (_:∀e∈ms,H e.2.tp=some (.tup [.ref e.2.l,.ref e.2.kc])) (_:Cy a H pr t r) (_:∀(H':Hp)(m:MA)(ms':List (Str×MA)),(∀b o,H b=some o->b≠p->b≠mem->H' b=some o)->H' p=some (.ins a.c_Jumps dx (AW "known_cells" (.ref m.kc) (AW "known_squares" (.ref m.l) (AW "rule" (.ref pr) fs))))->H' mem=some (.dK (mK ms'))->ChgR H H' t ms ms' m->Q .non H'):SpChg a vs H Q
def ZH(a:Ad):Sp:=λvs H Q _=>SpChg a vs H Q
theorem ok_chg(F:Fun K "change" "Jumps.change" Ek f fd)(T:Top K mg a)(cB:Cal P w K mg base CX0 1 "shown_rule" RX (UC a)):AN P w K mg base CX0 2 f fd Go (ZH a):=by
 refine F.ok Jo D_9 λa0 A az s H vs Q E hr h=>?_
 obtain⟨p,dx,mem,C,fs,t,r,L,rfl,hp,D,a1,hm,few,ad,hR,k⟩:=h;refine⟨_,(Ab (Ao (i:=2) Jo.nd Z O_9 (Aq cB (rm hr) Z Am (Aa (pv 1) Ac))) (Ab (AQ (pt_cmp (Yo (DV hr) (pv 2) (AB (pv 0) Z))) (Af (Fz (DV hr) (AB (pv 0) Z) (pv 2) (Dx (Aa (Ck Z (BK.of (So:=Aj Ek) (No:=JO) (N:=["e"]) (k:=1) (cs:=[]) Z Z A1) (EF Z T.b_range (Br Bm (BT Z T.k_TOP_LEVEL) Ae Ac)) (λ_ _ _=>(Bj (i:=0) A1 Z Z)) (λ_ _ _=>BP) (λ_ _ _=>Mw)) (Aa Mv Ac))) Z)) Ax) (Ab (Cv (pv 0) (pv 1) Z) (Ab (Cv (pv 0) (Ai Al (Mx (DV hr) (AB (pv 0) Z) (pv 2) R_9) Ae R_9) Z) (Af (Cv (pv 0) (Ai Al (Mx (DV hr) (AB (pv 0) Z) (pv 2) R_9) Ae R_9) Z)))))),?_⟩
 try dsimp only[cxK]
 have R:p≠mem:=AE hp hm A3;refine xq1 Z ⟨C,t,r,Z,hR,?_⟩;apply MG (fun σ U=>σ=[some (.ref p),some (.ref C),some (.str t)]/\∃(m:MA)(I:List (Str×MA)),(∀b o,H b=some o->b≠mem->U b=some o)/\U mem=some (.dK (mK I))/\Bo (mK I) (Sum.inr t)=some (.ref m.tp)/\U m.tp=some (.tup [.ref m.l,.ref m.kc])/\ChgR H U t L I m/\m.tp≠p/\(H m.tp=none->m.l≠p/\m.kc≠p/\∀d∈m.ds,d≠p))
 .intro S;refine xw2 Z Z (xq5 hp T.cl_Jumps T.na_Jumps_memories D ⟨mem,(xq1 Z ⟨Jm.k (k:=Sum.inr t) hm,(xq1 Z ?_)⟩)⟩);rcases Wu t L with ⟨m,m1,m2⟩|⟨no,nk⟩
  .rw[m2];refine AX (S _ _ ⟨Z,m,L,λb o e _=>e,hm,m2,ad _ m1,.old m1 Z,AE (ad _ m1) hp A3,λz=>?_⟩);rw[ad _ m1]at z;cases z
  .rw[no];refine Cg ?_;refine xq2 Z Z (xq1 Z ⟨by decide,by decide,?_⟩);refine NM (n:=47) (λi X W=>Ay H W/\∃g:List Addr,X=g.map V.ref/\g.length=i/\(∀d∈g,W d=some (.dK []))/\(∀d∈g,H d=none)/\g.Nodup) ⟨Ay.refl H,[],Z,Z,λd c=>(nomatch c),λd c=>(nomatch c),.nil⟩ ?_ ?_
   .rintro i X W hi ⟨sm,g,rfl,ln,c1,c2,nd⟩;refine⟨⟨[some (.int (0+(i:Int)))],Z,Z⟩,?_,GO λd c=>⟨sm.trans (AH c),g++[d],by rw[C6];rfl,by rw[C3,ln];rfl,λx hx=>?_,λx hx=>?_,?_⟩⟩
    .rw[B6,ln];exact F3 hi A4
    .rcases D8.mp hx with z|z
     .exact AH c _ _ (c1 x z)
     .rw[D1.mp z];exact Ag
    .rcases D8.mp hx with z|z
     .exact c2 x z
     .rw[D1.mp z];exact Ay.noneN sm c
    .rw[O8];refine⟨nd,by simp,λx hx y hy z=>?_⟩;rw[D1.mp hy]at z;rw[<-z,c1 x hx]at c;cases c
   .rintro X W ⟨sm,g,rfl,ln,c1,c2,nd⟩ l hl;generalize ae:upd W l _=H3;obtain⟨s3,as⟩:=alc hl ae;intro B ag;generalize af:upd H3 B _=H4;obtain⟨s4,ar⟩:=alc ag af;refine⟨S_2,λq an=>?_⟩;show ∃_,_;generalize dP:upd H4 q _=H5;obtain⟨s5,am⟩:=alc an dP;have n1:H l=none:=Ay.noneN sm hl;have n2:H B=none:=Ay.noneN (sm.trans s3) ag;have n3:H q=none:=Ay.noneN ((sm.trans s3).trans s4) an;have ac:=((sm.trans s3).trans s4).trans s5;have av:=ac _ _ hm;refine xwf Z Z (ac _ _ hp) T.cl_Jumps T.na_Jumps_memories D (xq1 Z ⟨mem,(xq1 Z ⟨Mb.k (k:=Sum.inr t) av ?_,?_⟩)⟩)
    .unfold mK;rw[B6];exact J8 few A4
    .rw[Iz _ no];have e6:mK L++[(Sum.inr t,V.ref q)]=mK (L++[(t,⟨q,l,B,g⟩)]):=by unfold mK;rw[C6];rfl
     rw[e6];have Y:∀b o,H5 b=some o->b≠mem->upd H5 mem (.dK (mK (L++[(t,⟨q,l,B,g⟩)]))) b=some o:=λb o e n=>by rw[As n];exact e
     have aj:upd H5 mem (.dK (mK (L++[(t,⟨q,l,B,g⟩)]))) mem=some (.dK (mK (L++[(t,⟨q,l,B,g⟩)]))):=Ag;generalize upd H5 mem (.dK (mK (L++[(t,⟨q,l,B,g⟩)])))=H6 at Y aj⊢;have nm:∀{x:R_},H x=none->x≠mem:=λz y=>by rw[y,hm]at z;cases z
     have np:∀{x:R_},H x=none->x≠p:=λz y=>by rw[y,hp]at z;cases z
     refine S _ _ ⟨Z,⟨q,l,B,g⟩,L++[(t,⟨q,l,B,g⟩)],λb o e n=>Y _ _ (ac _ _ e) n,aj,?_,Y _ _ am (nm n3),.new Z nk ⟨n3,n1,n2,c2⟩ (Y _ _ am (nm n3)) (Y _ _ (s5 _ _ (s4 _ _ as)) (nm n1)) (Y _ _ (s5 _ _ ar) (nm n2)) (λd c=>Y _ _ (s5 _ _ (s4 _ _ (s3 _ _ (c1 d c)))) (nm (c2 d c))) ln nd,np n3,λ_=>⟨np n1,np n2,λd c=>np (c2 d c)⟩⟩;rw[<-e6];rw[Rz no];exact BL Z
 rintro σ U ⟨rfl,m,I,k1,ah,vv,ax,aq,ab,ao⟩;have ak:=k1 _ _ hp R;have lf:fs.length<1000:=by lia
 have put:∀{Hk:Hp}{fs':List (Str×V)}(u:List (Str×V)),Hk p=some (.ins a.c_Jumps dx fs')->(∀b o,Hk b=some o->b≠p->upd Hk p (.ins a.c_Jumps dx u) b=some o)/\upd Hk p (.ins a.c_Jumps dx u) p=some (.ins a.c_Jumps dx u):=λ{Hk fs'} u e=>⟨λb o e n=>by rw[As n];exact e,Ag⟩
 refine xw2 Z Z ⟨p,_,dx,fs,Z,ak,T.cl_Jumps,T.na_Jumps_rule,lf,?_⟩;obtain⟨k2,M⟩:=put (AW "rule" (.ref C) fs) ak;generalize upd U p (.ins a.c_Jumps dx (AW "rule" (.ref C) fs))=W at k2 M⊢;have l2:=BH ("rule" : Str) (.ref C) fs;have G:(AW "rule" (.ref C) fs).lookup ("memories" : Str)=some (.ref mem):=by rw[An,Z4 A1];exact D
 have ai:=k2 _ _ ah (X5 R);have al:=k2 _ _ ax ab;refine xwf Z Z M T.cl_Jumps T.na_Jumps_memories G (xq1 Z ⟨mem,.ref m.tp,Z,vv▸Jm.k (k:=Sum.inr t) ai,(xq4 Z Z (SqT.of al) (Ah (j:=0) Z) (xq1 Z ⟨p,_,dx,(xq1 Z ⟨M,T.cl_Jumps,T.na_Jumps_known_squares,by lia,?_⟩)⟩))⟩);obtain⟨k3,O⟩:=put (AW "known_squares" (.ref m.l) (AW "rule" (.ref C) fs)) M;generalize upd W p (.ins a.c_Jumps dx (AW "known_squares" (.ref m.l) (AW "rule" (.ref C) fs)))=H3 at k3 O⊢;have l3:=BH ("known_squares" : Str) (.ref m.l) (AW "rule" (.ref C) fs);have aa:(AW "known_squares" (.ref m.l) (AW "rule" (.ref C) fs)).lookup ("memories" : Str)=some (.ref mem):=by rw[An,Z4 A1];exact G
 have au:=k3 _ _ ai (X5 R);have ay:=k3 _ _ al ab;refine xwf Z Z O T.cl_Jumps T.na_Jumps_memories aa (xq1 Z ⟨mem,.ref m.tp,Z,vv▸Jm.k (k:=Sum.inr t) au,(xq4 Z Z (SqT.of ay) (Ah (j:=1) Z) (xq1 Z ⟨p,_,dx,(xq1 Z ⟨O,T.cl_Jumps,T.na_Jumps_known_cells,by lia,?_⟩)⟩))⟩);obtain⟨k4,aw⟩:=put (AW "known_cells" (.ref m.kc) (AW "known_squares" (.ref m.l) (AW "rule" (.ref C) fs))) O;have v:∀b o,U b=some o->b≠p->upd H3 p (.ins a.c_Jumps dx (AW "known_cells" (.ref m.kc) (AW "known_squares" (.ref m.l) (AW "rule" (.ref C) fs)))) b=some o:=λb o e n=>k4 _ _ (k3 _ _ (k2 _ _ e n) n) n;refine k _ m I (λb o e n1 n2=>v _ _ (k1 _ _ e n2) n1) aw (v _ _ ah (X5 R)) ?_;cases aq with
 |old h1 h2=>exact .old h1 h2
 |new h1 h2 h3 h4 h5 h6 h7 h8 h9 =>
  obtain⟨y1,y2,y3⟩:=ao h3.1;exact .new h1 h2 h3 (v _ _ h4 ab) (v _ _ h5 y1) (v _ _ h6 y2) (λd c=>v _ _ (h7 d c) (y3 d c)) h8 h9
inductive SK(a:Ad)(vs:List V)(H:Hp)(Q:VK):Prop
|mk (p dx gp pr:R_) (t:Str) (r:AI) (_:vs=[.ref p,.ref gp,.ref pr]) (_:H p=some (.ins a.c_Jumps dx [])) (_:Cy a H pr t r) (_:∀(H':Hp)(mem:R_)(m:MA),(∀b o,H b=some o->b≠p->H' b=some o)->H mem=none->H' p=some (.ins a.c_Jumps dx (jf5 gp mem pr m.l m.kc))->H' mem=some (.dK (mK [(t,m)]))->(H m.tp=none/\H m.l=none/\H m.kc=none/\∀d∈m.ds,H d=none)->H' m.tp=some (.tup [.ref m.l,.ref m.kc])->H' m.l=some (.lst (m.ds.map V.ref))->H' m.kc=some (.dT [])->(∀d∈m.ds,H' d=some (.dK []))->m.ds.length=47->m.ds.Nodup->(∀d∈m.ds,d≠mem)->Q .non H'):SK a vs H Q
def Ox(a:Ad):Sp:=λvs H Q _=>SK a vs H Q
theorem ok_jinit(F:Fun K "__init__" "Jumps.__init__" IP f fd)(T:Top K mg a)(bL:BJ P w K mg base CX0 2 a.c_Jumps "change" Go (ZH a)):AN P w K mg base CX0 3 f fd Sd (Ox a):=by
 refine F.ok Qy D_9 λaa A R s H vs Q E hr h=>?_
 obtain⟨p,dx,g,Y,t,r,rfl,W,hR,k⟩:=h;refine⟨_,(Ab (Cv (pv 0) (pv 1) Z) (Ab (Cv (pv 0) Mw Z) (Af (BC (AC (pv 0) bL (rm hr) Am (Aa (pv 2) Ac)))))),?_⟩
 try dsimp only[cxK]
 refine xw2 Z Z ⟨p,_,dx,[],Z,W,T.cl_Jumps,T.na_Jumps_grove,B2,?_⟩;have X:∀b o,H b=some o->b≠p->upd H p (.ins a.c_Jumps dx (AW "grove" (.ref g) [])) b=some o:=λb o e n=>by rw[As n];exact e
 have j:upd H p (.ins a.c_Jumps dx (AW "grove" (.ref g) [])) p=some (.ins a.c_Jumps dx (AW "grove" (.ref g) [])):=Ag;have C:∀b,upd H p (.ins a.c_Jumps dx (AW "grove" (.ref g) [])) b=none->H b=none:=λb e=>by
  by_cases z:b=p
  .rw[z,j]at e;cases e
  .rw[As z]at e;exact e
 generalize upd H p (.ins a.c_Jumps dx (AW "grove" (.ref g) []))=H1 at X j C⊢;intro mem c;generalize dY:upd H1 mem _=q;obtain⟨S,L⟩:=alc c dY;have O:mem≠p:=λz=>by rw[z,j]at c;cases c
 refine xq1 Z ⟨p,_,dx,(xq1 Z ⟨S _ _ j,T.cl_Jumps,T.na_Jumps_memories,B3,?_⟩)⟩;have N:∀b o,q b=some o->b≠p->upd q p (.ins a.c_Jumps dx (jf2 g mem)) b=some o:=λb o e n=>by rw[As n];exact e
 have l:upd q p (.ins a.c_Jumps dx (jf2 g mem)) p=some (.ins a.c_Jumps dx (jf2 g mem)):=Ag;have i:∀b,upd q p (.ins a.c_Jumps dx (jf2 g mem)) b=none->H b=none:=λb e=>by
  by_cases z:b=p
  .rw[z,l]at e;cases e
  .rw[As z]at e;exact C _ (Ay.noneN S e)
 rw[show AW ("memories" : Str) (V.ref mem) (AW ("grove" : Str) (V.ref g) [])=jf2 g mem from rfl];generalize upd q p (.ins a.c_Jumps dx (jf2 g mem))=U at N l i⊢;have B:∀b o,H b=some o->b≠p->U b=some o:=λb o e n=>N _ _ (S _ _ (X _ _ e n)) n;have y:=N _ _ L O;have G:Cy a U Y t r:=by
  refine hR.kp λb o e n=>B _ _ e λz=>?_;rw[z,W]at e;cases e;cases n with
  |ins u _=>cases u
 refine xwn Z Z l (jf2_no _ _ A1 A1) Z ⟨p,dx,mem,Y,jf2 g mem,t,r,[],Z,l,jf2_mem _ _,by rw[show(jf2 g mem).length=2 from rfl];decide,y,J0 _,λe he=>(nomatch he),G,λH' m ab fr M x D=>?_⟩;cases D with
 |old u _=>cases u
 |new u h2 v h4 h5 h6 h7 h8 h9 =>
  rw[u]at x;refine k H' mem m (λb o e n=>fr _ _ (B _ _ e n) n ?_) (C _ c) M x ⟨i _ v.1,i _ v.2.1,i _ v.2.2.1,λd I=>i _ (v.2.2.2 d I)⟩ h4 h5 h6 h7 h8 h9 λd I z=>?_
  .intro z;rw[z]at e;rw[C _ c]at e;cases e
  .have:=v.2.2.2 d I;rw[z,y]at this;cases this
end
noncomputable def qO(G:Gv)(n k:Nat):Nat:=match G[n]? with
|some q=>(q.parts.getD k 0).toNat
|none=>0
noncomputable def cel(G:Gv):Nat->Nat->Nat->Nat->Nat
|0,n,_,_=>n
|l+1,n,x,y=>cel G l (qO G n ((x/2^l)%2+2*((y/2^l)%2))) x y
noncomputable def stp(r:AI)(c:Nat->Nat->Int):Nat->Nat->Int:=λx y=>Du r (c x y) [c (x-1) (y-1),c x (y-1),c (x+1) (y-1),c (x-1) y,c (x+1) y,c (x-1) (y+1),c x (y+1),c (x+1) (y+1)]
noncomputable def Bp(r:AI):Nat->(Nat->Nat->Int)->Nat->Nat->Int
|0,c=>c
|n+1,c=>stp r (Bp r n c)
noncomputable def Cr(G:Gv)(l n:Nat):Nat->Nat->Int:=λx y=>(cel G l n x y:Int)
def JR(r:AI)(G:Gv)(e n m:Nat):Prop:=∃l:Nat,Ak G n ((l+2:Nat):Int)/\e<=l/\Ak G m ((l+1:Nat):Int)/\∀x y,x<2^(l+1)->y<2^(l+1)->Cr G (l+1) m x y=Bp r (2^e) (Cr G (l+2) n) (x+2^l) (y+2^l)
theorem GOk.four{G:Gv}(ok:GOk G){n l:Nat}(h:Ak G n ((l+1:Nat):Int)):∃x y z w:Nat,G[n]?=some ⟨[(x:Int),(y:Int),(z:Int),(w:Int)],((l+1:Nat):Int)⟩/\Ak G x (l:Int)/\Ak G y (l:Int)/\Ak G z (l:Int)/\Ak G w (l:Int):=by
 obtain⟨q,e,a⟩:=h;have i:8<=n:=by
  refine P6 λz=>?_;rw[ok.leaf n z]at e;cases e;have:(0:Int)=((l+1:Nat):Int):=a;lia
 obtain⟨x,y,z,w,p,⟨b,c,d,f⟩,_⟩:=ok.node n q e i;have g:q.lev-1=(l:Int):=by lia
 rw[g]at b c d f;refine⟨x,y,z,w,?_,b,c,d,f⟩;rw[e];cases q with
 |mk k j=>cases p;cases a;rfl
theorem GOk.cell{G:Gv}(ok:GOk G){n:Nat}(h:Ak G n 0):n<8:=by
 obtain⟨q,e,a⟩:=h;refine T1 λz=>?_;obtain⟨_,_,_,_,_,_,b,_⟩:=ok.node n q e z;lia
theorem Ey{G:Gv}{n x y z w:Nat}{l:Int}(e:G[n]?=some ⟨[(x:Int),(y:Int),(z:Int),(w:Int)],l⟩):qO G n 0=x/\qO G n 1=y/\qO G n 2=z/\qO G n 3=w:=by
 unfold qO;rw[e];exact⟨Z,Z,Z,Z⟩
theorem LO{G:Gv}(ok:GOk G){n l:Nat}(h:Ak G n ((l+1:Nat):Int)){k:Nat}(f:k<4):Ak G (qO G n k) (l:Int):=by
 obtain⟨x,y,z,w,e,a,b,c,d⟩:=ok.four h;obtain⟨g,i,j,m⟩:=Ey e
 match k,f with
 |0,_=>rw[g];exact a
 |1,_=>rw[i];exact b
 |2,_=>rw[j];exact c
 |3,_=>rw[m];exact d
theorem Uo{G a:Gv}{i:Nat}(ok:GOk G)(go:AG G a i):∀(l n:Nat),Ak G n (l:Int)->∀x y,cel a l n x y=cel G l n x y
|0,n,_,x,y=>rfl
|l+1,n,h,x,y=>by
 have e:∀k,qO a n k=qO G n k:=λk=>by
  obtain⟨q,e,_⟩:=h;unfold qO;rw[go.get e,e]
 show cel a l (qO a n _) x y=cel G l (qO G n _) x y;rw[e];exact Uo ok go l _ (LO ok h A0) x y
theorem CI{G a:Gv}{i:Nat}(ok:GOk G)(go:AG G a i){l n:Nat}(h:Ak G n (l:Int)):Cr a l n=Cr G l n:=by
 funext x y
 unfold Cr;rw[Uo ok go l n h]
theorem JR.goes{r:AI}{G a:Gv}{i e n m:Nat}(ok:GOk G)(go:AG G a i)(h:JR r G e n m):JR r a e n m:=by
 obtain⟨l,b,d,c,f⟩:=h;refine⟨l,go.lev b,d,go.lev c,λx y g j=>?_⟩;rw[CI ok go b,CI ok go c];exact f x y g j
def Bs(G:Gv):Prop:=∀j:Nat,j<48->G[8+j]?=some ⟨[(bareN j:Int),(bareN j:Int),(bareN j:Int),(bareN j:Int)],(j:Int)+1⟩
theorem Bs.goes{G a:Gv}{i:Nat}(h:Bs G)(go:AG G a i):Bs a:=λj b=>go.get (h j b)
theorem Bs.zero{G:Gv}(h:Bs G):∀(l:Nat),l<=48->∀x y,cel G l (bareN l) x y=0
|0,_,x,y=>rfl
|l+1,hl,x,y=>by
 obtain⟨b,c,d,f⟩:=Ey (h l A0);have e:∀k,k<4->qO G (8+l) k=bareN l:=λk a=>by
  match k,a with
  |0,_=>exact b
  |1,_=>exact c
  |2,_=>exact d
  |3,_=>exact f
 show cel G l (qO G (8+l) _) x y=0;rw[e _ A0];exact h.zero l A0 x y
theorem SU{r:AI}(h:Du r 0 CT=0):∀k,Bp r k (λ_ _=>0)=λ_ _=>0
|0=>rfl
|k+1=>by
 show stp r (Bp r k _)=_;rw[SU h k]
 funext x y
 exact h
theorem Bs.lev{G:Gv}(ok:GOk G)(h:Bs G):∀l:Nat,l<=48->Ak G (bareN l) (l:Int)
|0,_=>⟨_,ok.leaf 0 A4,Z⟩
|l+1,hl=>⟨_,h l A0,by show(l:Int)+1=((l+1:Nat):Int);lia⟩
theorem JR.bare{r:AI}{G:Gv}(ok:GOk G)(h:Bs G)(d:Du r 0 CT=0){l e:Nat}(a:l+2<=48)(b:e<=l):JR r G e (bareN (l+2)) (bareN (l+1)):=by
 refine⟨l,h.lev ok _ a,b,h.lev ok _ A0,λx y _ _=>?_⟩;have z:∀k,k<=48->Cr G k (bareN k)=λ_ _=>0:=λk c=>by
  funext x y
  unfold Cr;rw[h.zero k c x y];rfl
 rw[z _ a,z _ A0,SU d]
theorem bec_st{r:AI}(h:MS r){cell:Int}(f:LE cell)(a:I_):LE (Du r cell a):=by
 cases e:On r cell a with
 |none=>rw[Qm e];exact f
 |some i =>
  obtain⟨c,b,d⟩:=Ql e;rw[d];exact(h.ok c (D5 b)).makes
theorem eight_of:∀xs:List Int,xs.length=8->∃a b c d e f g h,xs=[a,b,c,d,e,f,g,h]
|[a,b,c,d,e,f,g,h],_=>⟨a,b,c,d,e,f,g,h,Z⟩
structure Js(H:Hp)(g:GA)(G:Gv)(N M:Nat)(r:AI)(m:MA):Prop where
tp:H m.tp=some (.tup [.ref m.l,.ref m.kc])
l:H m.l=some (.lst (m.ds.map V.ref))
ap:m.l≠g.lv/\m.l≠g.pt/\m.kc≠g.nm
len:m.ds.length=47
nd:m.ds.Nodup
sq:∀(e:Nat) d,m.ds[e]?=some d->∃kv,H d=some (.dK kv)/\kv.length<=N/\(∀p∈kv,∃i,p.1=Sum.inl i)/\∀(n:Nat) v,Bo kv (Sum.inl (n:Int))=some v->∃k:Nat,v=.int (k:Int)/\JR r G e n k
ce:∃kc,H m.kc=some (.dT kc)/\kc.length<=M/\∀(ks:I_) v,Bo kc (kOf ks)=some v->∃c ar,ks=c::ar/\v=.int (Du r c ar)
theorem Js.mono{H:Hp}{g:GA}{G:Gv}{N M i f:Nat}{r:AI}{m:MA}(h:Js H g G N M r m)(j:N<=i)(k:M<=f):Js H g G i f r m:=by
 refine⟨h.tp,h.l,h.ap,h.len,h.nd,λe d n=>?_,?_⟩
 .obtain⟨q,a,b,c,o⟩:=h.sq e d n;exact⟨q,a,C9 b j,c,o⟩
 .obtain⟨p,a,b,c⟩:=h.ce;exact⟨p,a,C9 b k,c⟩
theorem Js.kp{H p:Hp}{g:GA}{G j:Gv}{N M i:Nat}{r:AI}{m:MA}(h:Js H g G N M r m)(ok:GOk G)(go:AG G j i)(k:∀b o,H b=some o->b=m.tp\/b=m.l\/b∈m.ds\/b=m.kc->p b=some o):Js p g j N M r m:=by
 refine⟨k _ _ h.tp (.inl Z),k _ _ h.l (.inr (.inl Z)),h.ap,h.len,h.nd,λe d q=>?_,?_⟩
 .obtain⟨z,a,c,f,w⟩:=h.sq e d q;refine⟨z,k _ _ a (.inr (.inr (.inl (D5 q)))),c,f,λn v y=>?_⟩;obtain⟨x,t,u⟩:=w n v y;exact⟨x,t,u.goes ok go⟩
 .obtain⟨s,a,c,f⟩:=h.ce;exact⟨s,k _ _ a (.inr (.inr (.inr Z))),c,f⟩
structure JW(a:Ad)(H:Hp)(g:GA)(G:Gv)(N M:Nat)(p dx mem pr:R_)(r:AI)(m:MA):Prop where
gr:AM a H g G
ok:GOk G
bs:Bs G
br:H g.br=some (.lst ((Dh 48).map V.int))
nbr:g.br≠g.lv/\g.br≠g.pt
hp:H p=some (.ins a.c_Jumps dx (jf5 g.p mem pr m.l m.kc))
ru:Cy a H pr (DS r) r
rok:MS r
rest:Du r 0 CT=0
me:Js H g G N M r m
theorem JW.same{a:Ad}{H c:Hp}{g:GA}{G:Gv}{N M:Nat}{p dx mem d:R_}{r:AI}{m:MA}(s:Ay H c)(h:JW a H g G N M p dx mem d r m):JW a c g G N M p dx mem d r m :=
 ⟨h.gr.same s,h.ok,h.bs,s _ _ h.br,h.nbr,s _ _ h.hp,h.ru.same s,h.rok,h.rest,h.me.kp h.ok (AG.refl h.ok) λb o e _=>s _ _ e⟩
theorem JW.mono{a:Ad}{H:Hp}{g:GA}{G:Gv}{N M c b:Nat}{p dx mem d:R_}{r:AI}{m:MA}(h:JW a H g G N M p dx mem d r m)(e:N<=c)(f:M<=b):JW a H g G c b p dx mem d r m :=
 ⟨h.gr,h.ok,h.bs,h.br,h.nbr,h.hp,h.ru,h.rok,h.rest,h.me.mono e f⟩
theorem Js.fr{a:Ad}{H p:Hp}{g:GA}{G n:Gv}{N M i:Nat}{r:AI}{m:MA}(h:Js H g G N M r m)(d:AM a H g G)(ok:GOk G)(f:Fr g H p)(go:AG G n i):Js p g n N M r m:=by
 obtain⟨u,k,_⟩:=d.pt;refine h.kp ok go λb o e w=>?_;rcases w with z|z|z|z
 .have c:=h.tp;rw[<-z,e]at c;cases c;exact f _ _ e (AE e d.lv A3) (AE e k A3) (AE e d.nm A3)
 .have c:=h.l;rw[z]at e⊢;rw[e]at c;cases c;exact f _ _ e h.ap.1 h.ap.2.1 (AE e d.nm A3)
 .obtain⟨j,q⟩:=L5 z;obtain⟨t,c,_⟩:=h.sq j b q;rw[e]at c;cases c;exact f _ _ e (AE e d.lv A3) (AE e k A3) (AE e d.nm A3)
 .obtain⟨s,c,_⟩:=h.ce;rw[z]at e⊢;rw[e]at c;cases c;exact f _ _ e (AE e d.lv A3) (AE e k A3) h.ap.2.2
theorem Cy.fr{a:Ad}{H d:Hp}{g:GA}{G:Gv}{p:R_}{x:Str}{r:AI}(h:Cy a H p x r)(c:AM a H g G)(f:Fr g H d):Cy a d p x r:=by
 obtain⟨j,i,_⟩:=c.pt;exact h.kp λb o e n=>f _ _ e (AE e c.lv (by intro z;rw[z]at n;cases n)) (AE e i (by intro z;rw[z]at n;cases n)) (AE e c.nm (by intro z;rw[z]at n;cases n))
theorem JW.fr{a:Ad}{H c:Hp}{g:GA}{G b:Gv}{N M i:Nat}{p dx mem e:R_}{r:AI}{m:MA}(h:JW a H g G N M p dx mem e r m)(f:Fr g H c)(d:AM a c g b)(go:AG G b i):JW a c g b N M p dx mem e r m:=by
 obtain⟨k,j,_⟩:=h.gr.pt;refine⟨d,go.ok,h.bs.goes go,f _ _ h.br h.nbr.1 h.nbr.2 (AE h.br h.gr.nm A3),h.nbr,f _ _ h.hp (AE h.hp h.gr.lv A3) (AE h.hp j A3) (AE h.hp h.gr.nm A3),h.ru.fr h.gr f,h.rok,h.rest,h.me.fr h.gr h.ok f go⟩
def FrJ(g:GA)(m:MA)(H H':Hp):Prop:=∀b o,H b=some o->b≠g.lv->b≠g.pt->b≠g.nm->b≠m.kc->b∉m.ds->H' b=some o
theorem FrJ.trans{g:GA}{m:MA}{a c d:Hp}(h:FrJ g m a c)(k:FrJ g m c d):FrJ g m a d:=λb o e f i j l n=>k _ _ (h _ _ e f i j l n) f i j l n
theorem Fr.j{g:GA}{m:MA}{a c:Hp}(h:Fr g a c):FrJ g m a c:=λb o e d f i _ _=>h _ _ e d f i
theorem Ay.j{g:GA}{m:MA}{a c:Hp}(h:Ay a c):FrJ g m a c:=λb o e _ _ _ _ _=>h _ _ e
theorem JW.putC{a:Ad}{H:Hp}{g:GA}{G:Gv}{N M:Nat}{p dx mem s:R_}{r:AI}{m:MA}{i:List (List Key×V)}(h:JW a H g G N M p dx mem s r m)(len:i.length<=M+1)(j:∀(ks:I_) v,Bo i (kOf ks)=some v->∃c k,ks=c::k/\v=.int (Du r c k)):JW a (upd H m.kc (.dT i)) g G N (M+1) p dx mem s r m:=by
 obtain⟨A,y,_⟩:=h.me.ce;have f:∀{b v},H b=some v->(∀kk,v≠.dT kk)->upd H m.kc (.dT i) b=some v:=λ{b v} e n=>by rw[As (AE e y (n _))];exact e
 obtain⟨I,w,x⟩:=h.gr.pt;refine⟨⟨f h.gr.hp B0,f h.gr.lv B0,⟨I,f w B0,PairedM.imp (λt q z=>f z B0) x⟩,by rw[As (X5 h.me.ap.2.2)];exact h.gr.nm,h.gr.ne⟩,h.ok,h.bs,f h.br B0,h.nbr,f h.hp B0,h.ru.kp λb o e n=>f e λkk z=>(by rw[z]at n;cases n),h.rok,h.rest,⟨f h.me.tp B0,f h.me.l B0,h.me.ap,h.me.len,h.me.nd,λe d u=>?_,⟨i,Ag,len,j⟩⟩⟩;obtain⟨B,C,D,E,F⟩:=h.me.sq e d u;exact⟨B,f C B0,D,E,F⟩
theorem JW.putS{a:Ad}{H:Hp}{g:GA}{G:Gv}{N M:Nat}{p dx mem F:R_}{r:AI}{m:MA}{e:Nat}{d:R_}{u:List (Key×V)}{n k:Nat}(h:JW a H g G N M p dx mem F r m)(B:m.ds[e]?=some d)(D:H d=some (.dK u))(jr:JR r G e n k):JW a (upd H d (.dK (Do u (Sum.inl (n:Int)) (.int (k:Int))))) g G (N+1) M p dx mem F r m:=by
 have c:∀{b v},H b=some v->(∀kk,v≠.dK kk)->upd H d (.dK (Do u (Sum.inl (n:Int)) (.int (k:Int)))) b=some v:=λ{b v} e n=>by rw[As (AE e D (n _))];exact e
 obtain⟨U,Q,R⟩:=h.gr.pt;obtain⟨S,L,O,P⟩:=h.me.ce;refine⟨⟨c h.gr.hp B0,c h.gr.lv B0,⟨U,c Q B0,PairedM.imp (λt q z=>c z B0) R⟩,c h.gr.nm B0,h.gr.ne⟩,h.ok,h.bs,c h.br B0,h.nbr,c h.hp B0,h.ru.kp λb o e n=>c e λkk z=>(by rw[z]at n;cases n),h.rok,h.rest,⟨c h.me.tp B0,c h.me.l B0,h.me.ap,h.me.len,h.me.nd,λA d' f=>?_,⟨S,c L B0,O,P⟩⟩⟩;obtain⟨w,x,T,s,K⟩:=h.me.sq A d' f;by_cases z:A=e
 .rw[z,B]at f;cases f;rw[D]at x;cases x;subst z;refine⟨_,Ag,C9 (Fk _ _ _) A0,λq i=>?_,λE v j=>?_⟩
  .unfold Do at i;split at i
   .obtain⟨I,C,rfl⟩:=C8.mp i;split
    .exact s I C
    .exact s I C
   .rcases D8.mp i with y|y
    .exact s q y
    .rw[D1.mp y];exact⟨_,Z⟩
  .rw[FN]at j;split at j
   .rename_i y;have:E=n:=by have:=Sum.inl.inj y;lia
    rw[this];cases j;exact⟨k,Z,jr⟩
   .exact K E v j
 .have nd:d'≠d:=λy=>z (by
   rw[y]at f;exact(List.getElem?_inj (B7.mp f).1 h.me.nd).mp (f.trans B.symm))
  exact⟨w,by rw[As nd];exact x,C9 T A0,s,K⟩
section
variable{P:N_}{w:Q_}{K:O_}{mg:C_}{base:T_}{a:Ad}
inductive SpCel(a:Ad)(vs:List V)(H:Hp)(Q:VK):Prop
|mk (p dx mem pr t:R_) (g:GA) (G:Gv) (N M:Nat) (r:AI) (m:MA) (c:Int) (ar:I_) (_:vs=[.ref p,.ref t]) (_:JW a H g G N M p dx mem pr r m) (_:H t=some (.tup ((c::ar).map V.int))) (_:ar.length=8) (_:∀x∈c::ar,LE x) (_:M<9000000) (_:∀H',(∀b o,H b=some o->b≠m.kc->H' b=some o)->JW a H' g G N (M+1) p dx mem pr r m->Q (.int (Du r c ar)) H'):SpCel a vs H Q
def VZ(a:Ad):Sp:=λvs H Q _=>SpCel a vs H Q
theorem ok_cel(F:Fun K "cell_after" "Jumps.cell_after" Cu f fd)(T:Top K mg a)(aJ:BJ P w K mg base CX0 4 a.c_Grove "state_of" JP (VQ a))(aK:BJ P w K mg base CX0 3 a.c_Grove "leaf" Sf (OR a))(bK:Cal P w K mg base CX0 5 "becomes" LT (Wa a)):AN P w K mg base CX0 6 f fd DN (VZ a):=by
 refine F.ok Cj D_9 λae A ac s H vs Q E X h=>?_
 obtain⟨p,dx,mem,pr,t,g,G,N,M,r,m,c,d,rfl,q,ht,h8,sts,few,k⟩:=h;obtain⟨kc,c1,c2,c3⟩:=q.me.ce;have Y:H t=some (.tup ((kOf (c::d)).map kV)):=by rw[kOf_v];exact ht
 refine⟨_,(Ab (Ao (i:=2) Cj.nd Z O_9 (JC (DV X) (AB (pv 0) Z) (pv 1) ⟨Z,Z,Z,Z⟩)) (Ab (AQ (Az Je (pv 2) DK (AD _)) (Ab (Ge (i:=3) Z Cj.nd Z Z (BK.of (So:=Aj Cu) (No:=Gs) (N:=["one","self"]) (k:=1) (cs:=[0]) Z Z A1) (Po (pv 1)) (λ_ _ _=>(Bj (i:=0) A1 Z Z)) (λ_ _ _=>BP) (λ_ _ _=>(AC (RO (K:=K) Z (pv 1) Z) aJ (rm X) Am (Aa (pv 0) Ac)))) (Ab (Ao (i:=2) Cj.nd Z O_9 (AC (AB (pv 0) Z) aK (rm X) Am (Aa (Aq bK (rm X) Z Am (Aa (AB (pv 0) Z) (Aa (Ai Aw (pv 3) Ae R_9) (Aa (Tt Wc (pv 3) (RM Ae) po_none) Ac)))) Ac))) (Af (Fz (DV X) (AB (pv 0) Z) (pv 1) (pv 2) Z)))) Ax) (Af (Au (pv 2))))),?_⟩
 try dsimp only[cxK]
 refine xwf Z Z q.hp T.cl_Jumps T.na_Jumps_known_cells (jf5_kc _ _ _ _ _) ⟨m.kc,Z,.inr ⟨_,.inl c1⟩,(xq1 Z ⟨_,Jm.t (k:=kOf (c::d)) c1 Y,?_⟩)⟩;cases ev:Bo kc (kOf (c::d))with
 |some v =>
  obtain⟨c',ad,e1,e2⟩:=c3 _ v ev;cases e1;rw[e2];exact xq1 Z ⟨Z,(xq1 Z (AX (xq1 Z (k H (λb o e _=>e) (q.mono (C0 _) (S0 _))))))⟩
 |none =>
  refine xq1 Z ⟨Z,(xq1 Z (Cg ?_))⟩;refine xq1 Z ⟨t,Z,⟨_,SqT.of ht⟩,?_⟩;refine OL (xs:=(c::d).map V.int) (λi l D=>H=D/\l=((c::d).take i).map V.int) ⟨Z,Z⟩ (λi l D _ z=>z.1▸SqT.of ht) ?_ ?_
  .rintro i v l D S ⟨rfl,rfl⟩;rw[B8]at S;obtain⟨x,ex,rfl⟩:=D6.mp S;obtain⟨x0,x8⟩:=sts x (D5 ex);obtain⟨n,rfl⟩:=F5 x0;refine⟨⟨[some (.int (n:Int))],Z,Z⟩,?_,GO (xq1 Z (xq5 q.hp T.cl_Jumps T.na_Jumps_grove (Es _ _ _ _ _) (xq3 Z q.gr.hp (Pu g) (xq1 Z ⟨g,G,n,_,Z,q.gr,q.ok.leaf n A0,Z,Z,?_⟩))))⟩
   .rw[B6,L7];exact J8 (U8 _ _) (by rw[F0,h8];decide)
   .rw[J3,ex,P9,C6];rfl
  .rintro l D ⟨rfl,rfl⟩ L hL;rw[B6,L6];generalize O:upd H L _=H1;obtain⟨s1,U⟩:=alc hL O;have u:=q.same s1;refine xwf Z Z u.hp T.cl_Jumps T.na_Jumps_grove (Es _ _ _ _ _) (xq3 Z u.gr.hp (RQ g) (xwf Z Z u.hp T.cl_Jumps T.na_Jumps_rule (jf5_ru _ _ _ _ _) (xwi Z Z Z (SqL.of U) (Ah (j:=0) Z) ?_)));refine xq1 Z ⟨1,Z,L,(xq1 Z ⟨SqL.of U,λSL ab=>?_⟩)⟩;have R:Vs ((c::d).map V.int) (some 1) none=d.map V.int:=by
    obtain⟨x1,x2,x3,x4,x5,x6,x7,x8,rfl⟩:=eight_of d h8;rfl
   rw[R];generalize dY:upd H1 SL _=D;obtain⟨s2,aa⟩:=alc ab dY;have B:=u.same s2;refine⟨pr,SL,_,r,c,d,Z,B.ru,B.rok.rok,aa,λH3 s3=>?_⟩;have W:=B.same s3;have C:=(s1.trans s2).trans s3;have I:=bec_st q.rok (sts c C2) d;refine⟨g.p,_,Z,I.1,I.2,?_⟩;refine xq1 Z (xq1 Z (xq5 W.hp T.cl_Jumps T.na_Jumps_known_cells (jf5_kc _ _ _ _ _) (xq1 Z ⟨m.kc,(xq1 Z ⟨Mb.t (k:=kOf (c::d)) (C _ _ c1) (C _ _ Y) (J8 (show kc.length<=9000000 by lia) A4),?_⟩)⟩)));refine xq1 Z (k _ (λb o e n=>by rw[As n];exact C _ _ e) (W.putC (C9 (Fk _ _ _) A0) λks v hv=>?_));rw[FN]at hv;split at hv
   .rename_i y;rw[MJ y];cases hv;exact⟨c,d,Z,Z⟩
   .exact c3 ks v hv
end
def FrC(g:GA)(m:MA)(H H':Hp):Prop:=∀b o,H b=some o->b≠g.lv->b≠g.pt->b≠g.nm->b≠m.kc->H' b=some o
theorem FrC.trans{g:GA}{m:MA}{a c d:Hp}(h:FrC g m a c)(k:FrC g m c d):FrC g m a d:=λb o e f i j l=>k _ _ (h _ _ e f i j l) f i j l
theorem FrC.j{g:GA}{m:MA}{a c:Hp}(h:FrC g m a c):FrJ g m a c:=λb o e d f i k _=>h _ _ e d f i k
theorem Fr.c{g:GA}{m:MA}{a d:Hp}(h:Fr g a d):FrC g m a d:=λb o e f i j _=>h _ _ e f i j
def spNo:Sp:=λ_ _ _ _=>False
theorem AN.no{P:N_}{w:Q_}{K:O_}{c:C_}{a:T_}{CX:CXT}{k:Nat}{f:R_}{b:E_}{d:K_}:AN P w K c a CX k f b d spNo :=
 ⟨λ_ _ _ _ h=>h.elim,λ_ _ _ _ _ _ _ _ _ _ _ _ _ h=>h.elim⟩
theorem bareJ{l:Nat}(h:l<=48):((Dh 48).map V.int)[l]?=some (.int (bareN l:Int)):=by
 unfold Dh;rw[B8,B8,N7 A0];rfl
section
variable{P:N_}{w:Q_}{K:O_}{mg:C_}{base:T_}{a:Ad}
theorem tretl {c:TA} {D:MT} {σ:St} {H:Hp} (h:c σ H λxs b=>xs.length<=sizeLine/\∀p,b p=none->D.rt (.ref p) (upd b p (.lst xs))):tRet (tLst c) D σ H:=h
theorem GE {b:TE} {c:TA} {σ:St} {H:Hp} {Q:List V->Hp->Prop} (h:b σ H λx d=>c σ d λxs e=>Q (x::xs) e):CN b c σ H Q:=h
theorem ixt{K:O_}{σ:St}{i:Nat}{H:Hp}{t:R_}{xs:List V}{j:Int}{v:V}{Q:VK}(r:σ[i]?=some (some (.ref t)))(h:H t=some (.tup xs))(e:atI xs j=some v)(k:Q v H):tOp (GC K) (Fa i) (tC (V.int j)) σ H Q:=⟨_,r,t,xs,j,v,Z,Z,SqT.of h,e,k⟩
theorem ixp{K:O_}{H:Hp}{p t:R_}{b:H_}{n:Nat}{Q:VK}(h:H p=some (.lst (b.map V.ref)))(e:b[n]?=some t)(k:Q (.ref t) H):rIxL K (.ref p) (.int n) H Q:=⟨p,_,n,_,Z,Z,SqL.of h,Ah (by rw[B8,e];rfl),k⟩
structure Ln(a:Ad)(g:GA)(H0:Hp)(G0:Gv)(j:Nat)(H:Hp)(G:Gv):Prop where
fr:Fr g H0 H
kt:∀{b:R_}{xs:List V},H0 b=some (.tup xs)->H b=some (.tup xs)
gr:AM a H g G
go:AG G0 G j
theorem lnk{a:Ad}{r H:Hp}{g:GA}{G0 G:Gv}{j:Nat}{u:R_}{x y z w:Nat}{l:Int}{Q:VK}(s:Ln a g r G0 j H G)(A:H u=none)(d:Ak G0 x l/\Ak G0 y l/\Ak G0 z l/\Ak G0 w l)(o:l<=47)(few:G0.length+j<9000000)
  (k:∀(n:Nat)(c:Gv)(f:Hp),Ln a g r G0 (j+1) f c->AG G c 1->c[n]?=some ⟨[(x:Int),(y:Int),(z:Int),(w:Int)],l+1⟩->Q (.int n) f):Vy a [.ref g.p,.ref u] (upd H u (.tup [.int x,.int y,.int z,.int w])) Q:=by
 generalize m:upd H u _=C;obtain⟨q,t⟩:=alc A m;have i:=s.gr.same q;have D:=s.go.few;refine⟨g,G,u,x,y,z,w,l,Z,i,s.go.ok,t,⟨s.go.lev d.1,s.go.lev d.2.1,s.go.lev d.2.2.1,s.go.lev d.2.2.2⟩,o,by lia,λn c f fr v go e=>k n c f ⟨s.fr.trans ((Ay.fr q).trans fr),λ{b xs} e=>?_,v,s.go.trans go⟩ go e⟩;obtain⟨us,B,_⟩:=i.pt;have h:=q _ _ (s.kt e);exact fr _ _ h (AE h i.lv A3) (AE h B A3) (AE h i.nm A3)
theorem ttup {c:TA} {σ:St} {H:Hp} {Q:VK} (h:c σ H λxs b=>xs.length<=sizeLine/\∀p,b p=none->Q (.ref p) (upd b p (.tup xs))):Zq c σ H Q:=h
theorem al9{P:Int->Prop}{a b c d e f g h i:Int}(k:P a)(l:P b)(m:P c)(n:P d)(o:P e)(p:P f)(q:P g)(r:P h)(s:P i):∀x∈[a,b,c,d,e,f,g,h,i],P x:=by
 intro x j;simp only[C1,D7,K6]at j;rcases j with rfl|rfl|rfl|rfl|rfl|rfl|rfl|rfl|rfl<;>assumption
structure Lc(g:GA)(m:MA)(H0 H:Hp):Prop where
fr:FrC g m H0 H
kt:∀{b:R_}{xs:List V},H0 b=some (.tup xs)->H b=some (.tup xs)
theorem celT{a:Ad}{n H:Hp}{g:GA}{G:Gv}{N M:Nat}{p dx mem l u:R_}{r:AI}{m:MA}{c:Int}{d:I_}{Q:VK}(q:JW a H g G N M p dx mem l r m)(t:Lc g m n H)(A:H u=none)(sts:∀x∈c::d,LE x)(z:d.length=8)(y:M<9000000)
  (h:∀(k:Nat)(Y:Hp),Du r c d=k->k<8->Lc g m n Y->JW a Y g G N (M+1) p dx mem l r m->Q (.int k) Y):SpCel a [.ref p,.ref u] (upd H u (.tup ((c::d).map V.int))) Q:=by
 generalize f:upd H u _=X;obtain⟨s,B⟩:=alc A f;have i:=q.same s;refine⟨p,dx,mem,l,u,g,G,N,M,r,m,c,d,Z,i,B,z,sts,y,λY fr j=>?_⟩;obtain⟨D,F⟩:=bec_st q.rok (sts c (.head ..)) d;obtain⟨k,e⟩:=F5 D;rw[e];refine h k Y e A0 ⟨t.fr.trans λb o e _ _ _ C=>fr _ _ (s _ _ e) C,λ{b xs} e=>?_⟩ j;obtain⟨E,v,_⟩:=i.me.ce;have e:=s _ _ (t.kt e);exact fr _ _ e (AE e v A3)
theorem cel9{K:O_}{a:Ad}{b H:Hp}{g:GA}{G:Gv}{N M:Nat}{p dx mem pr:R_}{r:AI}{m:MA}{σ:St}{Q:VK}{F I L O R S T U X:Nat}{t1 t2 t3 t4 t5 t6 t7 t8 t9:R_}{f h i j l n o q s:List V}{j1 j2 j3 j4 j5 j6 j7 j8 j9 t u v y z A B C D:Int}(E:JW a H g G N M p dx mem pr r m)(c:Lc g m b H)(h1:b t1=some (.tup f))(h2:b t2=some (.tup h))(h3:b t3=some (.tup i))(h4:b t4=some (.tup j))(h5:b t5=some (.tup l))(h6:b t6=some (.tup n))(h7:b t7=some (.tup o))(h8:b t8=some (.tup q))(h9:b t9=some (.tup s))(sts:∀x∈[t,u,v,y,z,A,B,C,D],LE x)(hM:M<9000000)
  (k:∀(k:Nat)(Y:Hp),Du r t [u,v,y,z,A,B,C,D]=k->k<8->Lc g m b Y->JW a Y g G N (M+1) p dx mem pr r m->Q (.int k) Y) (e:σ[0]?=some (some (.ref p))/\(σ[F]?=some (some (.ref t1))/\atI f j1=some (.int t))/\(σ[I]?=some (some (.ref t2))/\atI h j2=some (.int u))/\(σ[L]?=some (some (.ref t3))/\atI i j3=some (.int v))/\(σ[O]?=some (some (.ref t4))/\atI j j4=some (.int y))/\(σ[R]?=some (some (.ref t5))/\atI l j5=some (.int z))/\(σ[S]?=some (some (.ref t6))/\atI n j6=some (.int A))/\(σ[T]?=some (some (.ref t7))/\atI o j7=some (.int B))/\(σ[U]?=some (some (.ref t8))/\atI q j8=some (.int C))/\(σ[X]?=some (some (.ref t9))/\atI s j9=some (.int D)):=by exact⟨Z,⟨Z,Z⟩,⟨Z,Z⟩,⟨Z,Z⟩,⟨Z,Z⟩,⟨Z,Z⟩,⟨Z,Z⟩,⟨Z,Z⟩,⟨Z,Z⟩,⟨Z,Z⟩⟩) :
  VI a.c_Jumps "cell_after" (VZ a) [] E0 (Fa 0) (CN (Zq (CN (tOp (GC K) (Fa F) (tC (V.int j1))) (CN (tOp (GC K) (Fa I) (tC (V.int j2))) (CN (tOp (GC K) (Fa L) (tC (V.int j3))) (CN (tOp (GC K) (Fa O) (tC (V.int j4))) (CN (tOp (GC K) (Fa R) (tC (V.int j5))) (CN (tOp (GC K) (Fa S) (tC (V.int j6))) (CN (tOp (GC K) (Fa T) (tC (V.int j7))) (CN (tOp (GC K) (Fa U) (tC (V.int j8))) (CN (tOp (GC K) (Fa X) (tC (V.int j9))) Qt)))))))))) Qt) σ H Q:=by
 apply AO;intro G_ d;obtain⟨r0,⟨r1,e1⟩,⟨r2,e2⟩,⟨r3,e3⟩,⟨r4,e4⟩,⟨r5,e5⟩,⟨r6,e6⟩,⟨r7,e7⟩,⟨r8,e8⟩,⟨r9,e9⟩⟩:=e;apply d;clear d G_;exact⟨_,r0,(xq3 Z E.hp (noJ_cell _ _ _ _ _) (ixt r1 (c.kt h1) e1 (ixt r2 (c.kt h2) e2 (ixt r3 (c.kt h3) e3 (ixt r4 (c.kt h4) e4 (ixt r5 (c.kt h5) e5 (ixt r6 (c.kt h6) e6 (ixt r7 (c.kt h7) e7 (ixt r8 (c.kt h8) e8 (ixt r9 (c.kt h9) e9 ⟨(by show 9<=sizeLine;decide),λ_ hu=>celT E c hu sts Z hM k⟩))))))))))⟩
inductive SpMid2(a:Ad)(vs:List V)(H:Hp)(Q:VK):Prop
|mk (p dx mem pr:R_) (g:GA) (G:Gv) (N M:Nat) (r:AI) (m:MA) (n:Nat) (_:vs=[.ref p,.int n]) (_:JW a H g G N M p dx mem pr r m) (_:Ak G n ((1+1:Nat):Int)) (_:M<8500000) (_:G.length<8000000) (_:∀(k:Nat)(G':Gv)(H':Hp),FrC g m H H'->JW a H' g G' N (M+4) p dx mem pr r m->AG G G' 1->JR r G' 0 n k->Q (.int k) H'):SpMid2 a vs H Q
def RD(a:Ad):Sp:=λvs H Q _=>SpMid2 a vs H Q
theorem ok_mid2(F:Fun K "middle_after" "Jumps.middle_after" CZ f fd)(T:Top K mg a)(a8:BJ P w K mg base CX0 2 a.c_Grove "linked" AU (DI a))(aI:BJ P w K mg base CX0 6 a.c_Jumps "cell_after" DN (VZ a)):AN P w K mg base CX0 7 f fd JP (RD a):=by
 refine F.ok Bl (λvs H Q E h=>?_) (λbh A av s H vs Q E S h=>?_)
 .apply AO;intro L y;obtain⟨p,dx,mem,pr,g,G,N,M,r,m,n,rfl,_⟩:=h;apply y;clear y L;rfl
 .apply AO;intro L y;obtain⟨p,dx,mem,pr,g,G,N,M,r,m,n,rfl,d,hl,a5,few,k⟩:=h;obtain⟨qa,qb,qc,qd,en,la,lb,lc,ld⟩:=d.ok.four hl;obtain⟨a0,a1,a2,a3,ea,aq,U,V,B⟩:=d.ok.four (l:=0) la;obtain⟨b0,b1,b2,b3,eb,W,ar,C,X⟩:=d.ok.four (l:=0) lb;obtain⟨c0,c1,c2,c3,ec,Y,D,as,aa⟩:=d.ok.four (l:=0) lc;obtain⟨d0,d1,d2,d3,ed,I,ab,ac,au⟩:=d.ok.four (l:=0) ld;obtain⟨ts,O,R⟩:=d.gr.pt;obtain⟨t,et,ht⟩:=PairedM.get R en;obtain⟨ta,ah,j⟩:=PairedM.get R ea;obtain⟨tb,ai,o⟩:=PairedM.get R eb;obtain⟨tc,aj,q⟩:=PairedM.get R ec;obtain⟨td,ak,v⟩:=PairedM.get R ed;apply y;clear y L;refine⟨_,(Ab (Ao (i:=2) Bl.nd Z O_9 (Ai Aw (AB (AB (pv 0) Z) Z) (pv 1) R_9)) (Ab (Ao (i:=3) Bl.nd Z O_9 (Ai Aw (AB (AB (pv 0) Z) Z) (Ai Al (pv 2) Ae R_9) R_9)) (Ab (Ao (i:=4) Bl.nd Z O_9 (Ai Aw (AB (AB (pv 0) Z) Z) (Ai Al (pv 2) Ae R_9) R_9)) (Ab (Ao (i:=5) Bl.nd Z O_9 (Ai Aw (AB (AB (pv 0) Z) Z) (Ai Al (pv 2) Ae R_9) R_9)) (Ab (Ao (i:=6) Bl.nd Z O_9 (Ai Aw (AB (AB (pv 0) Z) Z) (Ai Al (pv 2) Ae R_9) R_9)) (Af (Au (AC (AB (pv 0) Z) a8 (rm S) Am (AV (Aa (AC (pv 0) aI (rm S) Am (AV (Aa (Ai Al (pv 3) Ae R_9) (Aa (Ai Al (pv 3) Ae R_9) (Aa (Ai Al (pv 3) Ae R_9) (Aa (Ai Al (pv 4) Ae R_9) (Aa (Ai Al (pv 3) Ae R_9) (Aa (Ai Al (pv 4) Ae R_9) (Aa (Ai Al (pv 5) Ae R_9) (Aa (Ai Al (pv 5) Ae R_9) (Aa (Ai Al (pv 6) Ae R_9) Ac))))))))) Ac)) (Aa (AC (pv 0) aI (rm S) Am (AV (Aa (Ai Al (pv 4) Ae R_9) (Aa (Ai Al (pv 3) Ae R_9) (Aa (Ai Al (pv 4) Ae R_9) (Aa (Ai Al (pv 4) Ae R_9) (Aa (Ai Al (pv 3) Ae R_9) (Aa (Ai Al (pv 4) Ae R_9) (Aa (Ai Al (pv 5) Ae R_9) (Aa (Ai Al (pv 6) Ae R_9) (Aa (Ai Al (pv 6) Ae R_9) Ac))))))))) Ac)) (Aa (AC (pv 0) aI (rm S) Am (AV (Aa (Ai Al (pv 5) Ae R_9) (Aa (Ai Al (pv 3) Ae R_9) (Aa (Ai Al (pv 3) Ae R_9) (Aa (Ai Al (pv 4) Ae R_9) (Aa (Ai Al (pv 5) Ae R_9) (Aa (Ai Al (pv 6) Ae R_9) (Aa (Ai Al (pv 5) Ae R_9) (Aa (Ai Al (pv 5) Ae R_9) (Aa (Ai Al (pv 6) Ae R_9) Ac))))))))) Ac)) (Aa (AC (pv 0) aI (rm S) Am (AV (Aa (Ai Al (pv 6) Ae R_9) (Aa (Ai Al (pv 3) Ae R_9) (Aa (Ai Al (pv 4) Ae R_9) (Aa (Ai Al (pv 4) Ae R_9) (Aa (Ai Al (pv 5) Ae R_9) (Aa (Ai Al (pv 6) Ae R_9) (Aa (Ai Al (pv 5) Ae R_9) (Aa (Ai Al (pv 6) Ae R_9) (Aa (Ai Al (pv 6) Ae R_9) Ac))))))))) Ac)) Ac)))) Ac))))))))),?_⟩
  try dsimp only[cxK]
  refine Bf ?_;intro a6 bc k0 z aw;refine xwf Z Z d.hp T.cl_Jumps T.na_Jumps_grove (Es _ _ _ _ _) (xq5 d.gr.hp T.cl_Grove T.na_Grove_parts (BX g) (xq1 Z (ixp O et ?_)));refine z ?_;refine Bf ?_;intro a7 bd k1 z ax;refine xwf Z Z d.hp T.cl_Jumps T.na_Jumps_grove (Es _ _ _ _ _) (xq5 d.gr.hp T.cl_Grove T.na_Grove_parts (BX g) (ixt Z ht Z (ixp O ah ?_)));refine z ?_;refine Bf ?_;intro a9 be k2 z ay;refine xwf Z Z d.hp T.cl_Jumps T.na_Jumps_grove (Es _ _ _ _ _) (xq5 d.gr.hp T.cl_Grove T.na_Grove_parts (BX g) (ixt Z ht Z (ixp O ai ?_)));refine z ?_;refine Bf ?_;intro ba bf k3 z az;refine xwf Z Z d.hp T.cl_Jumps T.na_Jumps_grove (Es _ _ _ _ _) (xq5 d.gr.hp T.cl_Grove T.na_Grove_parts (BX g) (ixt Z ht Z (ixp O aj ?_)));refine z ?_;refine Bf ?_;intro bb bg k4 z a4;refine xwf Z Z d.hp T.cl_Jumps T.na_Jumps_grove (Es _ _ _ _ _) (xq5 d.gr.hp T.cl_Grove T.na_Grove_parts (BX g) (ixt Z ht Z (ixp O ak ?_)));refine z ?_;have b:∀{x:Nat},Ak G x ((0:Nat):Int)->LE (x:Int):=λ{x} h=>by
   have:=d.ok.cell h;exact⟨by lia,by lia⟩
  have c_:Lc g m H H:=⟨λ_ _ e _ _ _ _=>e,λe=>e⟩
  refine xwf Z Z d.hp T.cl_Jumps T.na_Jumps_grove (Es _ _ _ _ _) (xq3 Z d.gr.hp (BM g) ?_);refine GE (ttup (GE (cel9 d c_ j j j o j o q q v (al9 (b B) (b aq) (b U) (b W) (b V) (b C) (b Y) (b D) (b I)) A0 λk0 Y0 ad al x0 j0=>?_)));refine GE (cel9 j0 x0 o j o o j o q v v (al9 (b C) (b U) (b W) (b ar) (b B) (b X) (b D) (b I) (b ab)) A0 λk1 Y1 ae am x1 j1=>?_);refine GE (cel9 j1 x1 q j j o q v q q v (al9 (b D) (b V) (b B) (b C) (b Y) (b I) (b as) (b aa) (b ac)) A0 λk2 Y2 af an x2 j2=>?_);refine GE (cel9 j2 x2 v j o o q v q v v (al9 (b I) (b B) (b C) (b X) (b D) (b ab) (b aa) (b ac) (b au)) A0 λk3 Y3 ag ao x3 j3=>?_);have lf:∀{k:Nat},k<8->Ak G k ((0:Nat):Int):=λ{k} h=>⟨_,d.ok.leaf k h,Z⟩
  refine⟨S_4,λu hu=>lnk (⟨.refl _ _,λe=>e,j3.gr,.refl d.ok⟩:Ln a g Y3 G 0 Y3 G) hu ⟨lf al,lf am,lf an,lf ao⟩ A4 A0 λx G' H' s go e=>?_⟩;refine k x G' H' (x3.fr.trans (Fr.c s.fr)) (j3.fr s.fr s.gr go) go ⟨0,go.lev hl,C0 0,⟨_,e,Z⟩,?_⟩;apply AO;intro L y;obtain⟨rfl,rfl,rfl,rfl⟩:=Ey (go.get ea);obtain⟨rfl,rfl,rfl,rfl⟩:=Ey (go.get eb);obtain⟨rfl,rfl,rfl,rfl⟩:=Ey (go.get ec);obtain⟨rfl,rfl,rfl,rfl⟩:=Ey (go.get ed);obtain⟨rfl,rfl,rfl,rfl⟩:=Ey (go.get en);obtain⟨rfl,rfl,rfl,rfl⟩:=Ey e;apply y;clear y L;intro x' y' hx hy
  match x',hx,y',hy with
  |0,_,0,_=>exact ad.symm
  |1,_,0,_=>exact ae.symm
  |0,_,1,_=>exact af.symm
  |1,_,1,_=>exact ag.symm
inductive SpCj(a:Ad)(vs:List V)(H:Hp)(Q:VK):Prop
|mk (p dx gp mem pr l kc:R_) (g:GA) (G:Gv) (n e:Nat) (q:Sq) (_:vs=[.ref p,.int n,.int e]) (_:H p=some (.ins a.c_Jumps dx (jf5 g.p mem pr l kc))) (_:AM a H g G) (_:G[n]?=some q) (_:2+(e:Int)<=q.lev) (_:Q .non H):SpCj a vs H Q
def spCj(a:Ad):Sp:=λvs H Q _=>SpCj a vs H Q
theorem ok_cj(F:Fun K "check_jump" "Jumps.check_jump" DJ f fd)(T:Top K mg a)(r:BJ P w K mg base CX0 3 a.c_Grove "level_of" JP (Mi a))(t:Cal P w K mg base CX0 1 "is_whole" UY UE):AN P w K mg base CX0 4 f fd QJ (spCj a):=by
 refine F.ok Fu (λvs H Q E h=>?_) (λu A d s H vs Q E o h=>?_)
 .apply AO;intro c b;obtain⟨p,dx,v,mem,y,l,x,g,G,n,e,q,rfl,_⟩:=h;apply b;clear b c;rfl
 .apply AO;intro c b;obtain⟨p,dx,v,mem,y,l,x,g,G,n,e,q,rfl,m,j,eq,z,k⟩:=h;apply b;clear b c;refine⟨_,(Ab (Ao (i:=3) Fu.nd Z O_9 (AC (AB (pv 0) Z) r (rm o) Am (Aa (pv 1) Ac))) (Ab (AQ (Az GN (pv 3) (BT Z T.k_LEAST_JUMPED) (AD _)) (Af AY) Ax) (Af (AQ (PW.pt (Gd (BU (BI (Aq t (rm o) Z Am (Aa (pv 2) Ac)))) (El (BU (Pl JL JL Ae (pv 2) (AA Bm (pv 3) (BT Z T.k_LEAST_JUMPED))))))) (Af AY) Ax)))),?_⟩
  try dsimp only[cxK]
  refine xwf Z Z m T.cl_Jumps T.na_Jumps_grove (Es _ _ _ _ _) (xq3 Z j.hp (DP g) (xq1 Z ⟨g,G,n,q,Z,j,eq,?_⟩));refine xwb Z Z Z (xq1 Z ?_);rw[Z8 (by lia:¬q.lev<2)];refine AX ?_;refine⟨_,Z,_,Z,true,Z,AX ⟨_,Z,_,_,Z,Z,_,Z,?_⟩⟩;rw[Z5 (by lia:(0:Int)<=(e:Int))];refine Cg (xwb Z Z Z (xq2 Z Z (xq1 Z ?_)));rw[Z5 (by lia:(e:Int)<=q.lev-2)];exact AX k
end
end J
namespace J
open PySem L2
theorem SB(G:Gv):∀(l n x y i j:Nat),cel G l n (x+2^l*i) (y+2^l*j)=cel G l n x y
|0,n,x,y,i,j=>rfl
|l+1,n,x,y,i,j=>by
 show cel G l (qO G n (((x+2^(l+1)*i)/2^l)%2+2*(((y+2^(l+1)*j)/2^l)%2))) (x+2^(l+1)*i) (y+2^(l+1)*j)=cel G l (qO G n ((x/2^l)%2+2*((y/2^l)%2))) x y;have p:0<2^l:=U1 A4;have e:∀i:Nat,2^(l+1)*i=2^l*(2*i):=λi=>by rw[F6,Nat.mul_assoc]
 rw[e i,e j,O4 _ _ p,O4 _ _ p,Q0,Q0];exact SB G l _ x y (2*i) (2*j)
theorem Qk(G:Gv)(l n:Nat){x y i j:Nat}(c:x<2^l)(d:y<2^l)(a:i<2)(b:j<2):Cr G (l+1) n (x+2^l*i) (y+2^l*j)=Cr G l (qO G n (i+2*j)) x y:=by
 unfold Cr;show((cel G l (qO G n (((x+2^l*i)/2^l)%2+2*(((y+2^l*j)/2^l)%2))) (x+2^l*i) (y+2^l*j):Nat):Int)=_;have p:0<2^l:=U1 A4;rw[O4 _ _ p,O4 _ _ p,N9 c,N9 d,M8,M8,P5 a,P5 b,SB]
theorem SW(r:AI)(c:Nat->Nat->Int)(n:Nat):∀m,Bp r (m+n) c=Bp r m (Bp r n c)
|0=>by rw[M8];rfl
|m+1=>by
 rw[show m+1+n=(m+n)+1 by lia];show stp r (Bp r (m+n) c)=stp r (Bp r m (Bp r n c));rw[SW r c n m]
theorem SV(r:AI){c d:Nat->Nat->Int}{X Y:Nat}:∀(k x y:Nat),k<=x->k<=y->(∀u v,x-k<=u->u<=x+k->y-k<=v->v<=y+k->c u v=d (u+X) (v+Y))->Bp r k c x y=Bp r k d (x+X) (y+Y)
|0,x,y,_,_,h=>h x y A0 A0 A0 A0
|k+1,x,y,hx,hy,h=>by
 have e:∀u v,x-1<=u->u<=x+1->y-1<=v->v<=y+1->Bp r k c u v=Bp r k d (u+X) (v+Y):=λu v f g i j=>SV r k u v A0 A0 λa b l m n o=>h a b A0 A0 A0 A0;show Du r (Bp r k c x y) [Bp r k c (x-1) (y-1),Bp r k c x (y-1),Bp r k c (x+1) (y-1),Bp r k c (x-1) y,Bp r k c (x+1) y,Bp r k c (x-1) (y+1),Bp r k c x (y+1),Bp r k c (x+1) (y+1)]=Du r (Bp r k d (x+X) (y+Y)) [Bp r k d (x+X-1) (y+Y-1),Bp r k d (x+X) (y+Y-1),Bp r k d (x+X+1) (y+Y-1),Bp r k d (x+X-1) (y+Y),Bp r k d (x+X+1) (y+Y),Bp r k d (x+X-1) (y+Y+1),Bp r k d (x+X) (y+Y+1),Bp r k d (x+X+1) (y+Y+1)];rw[e x y A0 A0 A0 A0,e (x-1) (y-1) A0 A0 A0 A0,e x (y-1) A0 A0 A0 A0,e (x+1) (y-1) A0 A0 A0 A0,e (x-1) y A0 A0 A0 A0,e (x+1) y A0 A0 A0 A0,e (x-1) (y+1) A0 A0 A0 A0,e x (y+1) A0 A0 A0 A0,e (x+1) (y+1) A0 A0 A0 A0];rw[show x-1+X=x+X-1 by lia,show y-1+Y=y+Y-1 by lia,show x+1+X=x+X+1 by lia,show y+1+Y=y+Y+1 by lia]
def Vw(G:Gv)(c:Nat->Nat->Int)(l m X Y:Nat):Prop:=∀x y,x<2^l->y<2^l->Cr G l m x y=c (x+X) (y+Y)
theorem Vw.q{G:Gv}{c:Nat->Nat->Int}{l m X Y i j:Nat}(h:Vw G c (l+1) m X Y)(a:i<2)(b:j<2):Vw G c l (qO G m (i+2*j)) (X+2^l*i) (Y+2^l*j):=λx y d e=>by
 rw[<-Qk G l m d e a b,h _ _ ?_ ?_]
 .rw[show x+2^l*i+X=x+(X+2^l*i) by lia,show y+2^l*j+Y=y+(Y+2^l*j) by lia]
 .rw[F6];have:2^l*i<=2^l*1:=N3 _ A0;lia
 .rw[F6];have:2^l*j<=2^l*1:=N3 _ A0;lia
theorem Vw.of{G:Gv}{c:Nat->Nat->Int}{l m X Y:Nat}(d:Vw G c l (qO G m 0) X Y)(e:Vw G c l (qO G m 1) (X+2^l) Y)(f:Vw G c l (qO G m 2) X (Y+2^l))(g:Vw G c l (qO G m 3) (X+2^l) (Y+2^l)):Vw G c (l+1) m X Y:=λx y h k=>by
 rw[F6]at h k;by_cases b:x<2^l
 .by_cases a:y<2^l
  .have:=Qk G l m b a (i:=0) (j:=0) A4 A4;rw[show x+2^l*0=x by lia,show y+2^l*0=y by lia]at this;rw[this];exact d x y b a
  .have:=Qk G l m b (y:=y-2^l) A0 (i:=0) (j:=1) A4 A4;rw[show x+2^l*0=x by lia,show y-2^l+2^l*1=y by lia]at this;rw[this,f x (y-2^l) b A0,show y-2^l+(Y+2^l)=y+Y by lia]
 .by_cases a:y<2^l
  .have:=Qk G l m (x:=x-2^l) A0 a (i:=1) (j:=0) A4 A4;rw[show y+2^l*0=y by lia,show x-2^l+2^l*1=x by lia]at this;rw[this,e (x-2^l) y A0 a,show x-2^l+(X+2^l)=x+X by lia]
  .have:=Qk G l m (x:=x-2^l) (y:=y-2^l) A0 A0 (i:=1) (j:=1) A4 A4;rw[show x-2^l+2^l*1=x by lia,show y-2^l+2^l*1=y by lia]at this;rw[this,g (x-2^l) (y-2^l) A0 A0,show x-2^l+(X+2^l)=x+X by lia,show y-2^l+(Y+2^l)=y+Y by lia]
theorem Vw.jump{G:Gv}{r:AI}{c:Nat->Nat->Int}{l e m k X Y:Nat}(h:Vw G c (l+2) m X Y)(a:e<=l)(j:∀x y,x<2^(l+1)->y<2^(l+1)->Cr G (l+1) k x y=Bp r (2^e) (Cr G (l+2) m) (x+2^l) (y+2^l)):Vw G (Bp r (2^e) c) (l+1) k (X+2^l) (Y+2^l):=λx y b d=>by
 have p:2^e<=2^l:=M7 A4 a;have o:2^(l+1)=2^l*2:=F6 ..;have q:2^(l+2)=2^l*2*2:=by rw[F6,F6]
 rw[j x y b d,SV r (X:=X) (Y:=Y) (2^e) (x+2^l) (y+2^l) A0 A0 λu v f g i n=>h u v A0 A0];rw[show x+2^l+X=x+(X+2^l) by lia,show y+2^l+Y=y+(Y+2^l) by lia]
seal L2.PA L2.PE L2.PS L2.PSs L2.PT L2.PW
theorem Vw.at'{G:Gv}{c:Nat->Nat->Int}{l m X Y X' Y':Nat}(h:Vw G c l m X Y)(a:X=X')(b:Y=Y'):Vw G c l m X' Y':=by
 subst a;subst b;exact h
theorem Vw.goes{G a:Gv}{c:Nat->Nat->Int}{l m X Y i:Nat}(h:Vw G c l m X Y)(ok:GOk G)(go:AG G a i)(e:Ak G m (l:Int)):Vw a c l m X Y:=λx y b d=>by
 rw[CI ok go e];exact h x y b d
section
variable{P:N_}{w:Q_}{K:O_}{mg:C_}{base:T_}{a:Ad}
inductive SpNine(a:Ad)(vs:List V)(H:Hp)(Q:VK):Prop
|mk (g:GA) (G:Gv) (n l:Nat) (_:vs=[.ref g.p,.int n]) (_:AM a H g G) (_:GOk G) (_:Ak G n ((l+1+1:Nat):Int)) (_:l<=46) (_:G.length<8000000) (_:∀(L:R_)(ks:J_)(G':Gv)(H':Hp),Fr g H H'->AM a H' g G'->AG G G' 5->H' L=some (.lst (ks.map λ(k:Nat)=>V.int (k:Int)))->ks.length=9->(∀i j,i<3->j<3->∃k,ks[i+3*j]?=some k/\Ak G' k ((l+1:Nat):Int)/\Vw G' (Cr G (l+2) n) (l+1) k (2^l*i) (2^l*j))->Q (.ref L) H'):SpNine a vs H Q
def OQ(a:Ad):Sp:=λvs H Q _=>SpNine a vs H Q
theorem lnk4{K:O_}{a:Ad}{b H:Hp}{g:GA}{G0 G:Gv}{j:Nat}{σ:St}{q t u v:Nat}{E F I L:R_}{d f h i:List V}{A B C D:Int}{x y z w:Nat}{l:Int}{Q:VK}(s:Ln a g b G0 j H G)(T:b E=some (.tup d))(U:b F=some (.tup f))(X:b I=some (.tup h))(Y:b L=some (.tup i))(lv:Ak G0 x l/\Ak G0 y l/\Ak G0 z l/\Ak G0 w l)(few:l<=47/\G0.length+j<9000000)
  (k:∀(n:Nat)(m:Gv)(o:Hp),Ln a g b G0 (j+1) o m->AG G m 1->m[n]?=some ⟨[(x:Int),(y:Int),(z:Int),(w:Int)],l+1⟩->Q (.int n) o) (e:(σ[0]?=some (some (.ref g.p))/\σ[q]?=some (some (.ref E))/\σ[t]?=some (some (.ref F))/\σ[u]?=some (some (.ref I))/\σ[v]?=some (some (.ref L)))/\atI d A=some (.int x)/\atI f B=some (.int y)/\atI h C=some (.int z)/\atI i D=some (.int w):=by exact⟨⟨Z,Z,Z,Z,Z⟩,Z,Z,Z,Z⟩):VI a.c_Grove "linked" (DI a) [] E0 (Fa 0) (CN (Zq (CN (tOp (GC K) (Fa q) (tC (V.int A))) (CN (tOp (GC K) (Fa t) (tC (V.int B))) (CN (tOp (GC K) (Fa u) (tC (V.int C))) (CN (tOp (GC K) (Fa v) (tC (V.int D))) Qt))))) Qt) σ H Q:=by
 apply AO;intro M c;obtain⟨⟨r,r1,r2,r3,r4⟩,N,O,R,S⟩:=e;apply c;clear c M;exact⟨_,r,(xq3 Z s.gr.hp (BM g) (ixt r1 (s.kt T) N (ixt r2 (s.kt U) O (ixt r3 (s.kt X) R (ixt r4 (s.kt Y) S ⟨S_4,λ_ hu=>lnk s hu lv few.1 few.2 k⟩)))))⟩
theorem vw4{G:Gv}{c:Nat->Nat->Int}{l m x y z w X Y:Nat}{j:Int}(e:G[m]?=some ⟨[(x:Int),(y:Int),(z:Int),(w:Int)],j⟩)(f:Vw G c l x (2^l*X) (2^l*Y))(g:Vw G c l y (2^l*(X+1)) (2^l*Y))(h:Vw G c l z (2^l*X) (2^l*(Y+1)))(i:Vw G c l w (2^l*(X+1)) (2^l*(Y+1))):Vw G c (l+1) m (2^l*X) (2^l*Y):=by
 apply AO;intro d b;obtain⟨rfl,rfl,rfl,rfl⟩:=Ey e;apply b;clear b d;exact .of f g h i
theorem vwQ{G:Gv}{c:Nat->Nat->Int}{l m x y z w X Y:Nat}{f:Int}(e:G[m]?=some ⟨[(x:Int),(y:Int),(z:Int),(w:Int)],f⟩)(v:Vw G c (l+1) m (2^l*X) (2^l*Y)):Vw G c l x (2^l*X) (2^l*Y)/\Vw G c l y (2^l*(X+1)) (2^l*Y)/\Vw G c l z (2^l*X) (2^l*(Y+1))/\Vw G c l w (2^l*(X+1)) (2^l*(Y+1)):=by
 apply AO;intro d b;obtain⟨rfl,rfl,rfl,rfl⟩:=Ey e;apply b;clear b d;exact⟨v.q (i:=0) (j:=0) A4 A4,(v.q (i:=1) (j:=0) A4 A4).at' A0 Z,(v.q (i:=0) (j:=1) A4 A4).at' Z A0,(v.q (i:=1) (j:=1) A4 A4).at' A0 A0⟩
theorem ok_nine(F:Fun K "nine_parts" "nine_parts" IL f fd)(T:Top K mg a)(W:BJ P w K mg base CX0 2 a.c_Grove "linked" AU (DI a)):AN P w K mg base CX0 3 f fd Lf (OQ a):=by
 refine F.ok CD (λvs H Q E h=>?_) (λbi A an s H vs Q E hr h=>?_)
 .apply AO;intro z b;obtain⟨g,G,n,l,rfl,_⟩:=h;apply b;clear b z;rfl
 .apply AO;intro z b;obtain⟨g,G,n,l,rfl,C,ok,hl,bl,few,k⟩:=h;obtain⟨qa,qb,qc,qd,en,la,lb,lc,ld⟩:=ok.four hl;obtain⟨a0,a1,a2,a3,ea,bm,af,ag,D⟩:=ok.four la;obtain⟨b0,b1,b2,b3,eb,ah,bn,I,ai⟩:=ok.four lb;obtain⟨c0,c1,c2,c3,ec,aj,M,bo,ak⟩:=ok.four lc;obtain⟨d0,d1,d2,d3,ed,N,al,am,bp⟩:=ok.four ld;obtain⟨ts,Y,h4⟩:=C.pt;obtain⟨t,et,v⟩:=PairedM.get h4 en;obtain⟨ta,aa,d⟩:=PairedM.get h4 ea;obtain⟨tb,ab,m⟩:=PairedM.get h4 eb;obtain⟨tc,ac,p⟩:=PairedM.get h4 ec;obtain⟨td,ad,q⟩:=PairedM.get h4 ed;apply b;clear b z;have s0:Ln a g H G 0 H G:=⟨.refl _ _,λe=>e,C,.refl ok⟩
  refine⟨_,(Ab (Ao (i:=2) CD.nd Z O_9 (Ai Aw (AB (pv 0) Z) (pv 1) R_9)) (Ab (Ao (i:=3) CD.nd Z O_9 (Ai Aw (AB (pv 0) Z) (Ai Al (pv 2) Ae R_9) R_9)) (Ab (Ao (i:=4) CD.nd Z O_9 (Ai Aw (AB (pv 0) Z) (Ai Al (pv 2) Ae R_9) R_9)) (Ab (Ao (i:=5) CD.nd Z O_9 (Ai Aw (AB (pv 0) Z) (Ai Al (pv 2) Ae R_9) R_9)) (Ab (Ao (i:=6) CD.nd Z O_9 (Ai Aw (AB (pv 0) Z) (Ai Al (pv 2) Ae R_9) R_9)) (Af (Au (CL (Aa (Ai Al (pv 2) Ae R_9) (Aa (AC (pv 0) W (rm hr) Am (AV (Aa (Ai Al (pv 3) Ae R_9) (Aa (Ai Al (pv 4) Ae R_9) (Aa (Ai Al (pv 3) Ae R_9) (Aa (Ai Al (pv 4) Ae R_9) Ac)))) Ac)) (Aa (Ai Al (pv 2) Ae R_9) (Aa (AC (pv 0) W (rm hr) Am (AV (Aa (Ai Al (pv 3) Ae R_9) (Aa (Ai Al (pv 3) Ae R_9) (Aa (Ai Al (pv 5) Ae R_9) (Aa (Ai Al (pv 5) Ae R_9) Ac)))) Ac)) (Aa (AC (pv 0) W (rm hr) Am (AV (Aa (Ai Al (pv 3) Ae R_9) (Aa (Ai Al (pv 4) Ae R_9) (Aa (Ai Al (pv 5) Ae R_9) (Aa (Ai Al (pv 6) Ae R_9) Ac)))) Ac)) (Aa (AC (pv 0) W (rm hr) Am (AV (Aa (Ai Al (pv 4) Ae R_9) (Aa (Ai Al (pv 4) Ae R_9) (Aa (Ai Al (pv 6) Ae R_9) (Aa (Ai Al (pv 6) Ae R_9) Ac)))) Ac)) (Aa (Ai Al (pv 2) Ae R_9) (Aa (AC (pv 0) W (rm hr) Am (AV (Aa (Ai Al (pv 5) Ae R_9) (Aa (Ai Al (pv 6) Ae R_9) (Aa (Ai Al (pv 5) Ae R_9) (Aa (Ai Al (pv 6) Ae R_9) Ac)))) Ac)) (Aa (Ai Al (pv 2) Ae R_9) Ac))))))))))))))))),?_⟩
  try dsimp only[cxK]
  refine Bf ?_;intro a7 bd k0 u ay;refine xwf Z Z C.hp T.cl_Grove T.na_Grove_parts (BX g) (xq1 Z (ixp Y et ?_));refine u ?_;refine Bf ?_;intro a9 be k1 u az;refine xwf Z Z C.hp T.cl_Grove T.na_Grove_parts (BX g) (ixt Z v Z (ixp Y aa ?_));refine u ?_;refine Bf ?_;intro ba bf k2 u a4;refine xwf Z Z C.hp T.cl_Grove T.na_Grove_parts (BX g) (ixt Z v Z (ixp Y ab ?_));refine u ?_;refine Bf ?_;intro bb bg k3 u a5;refine xwf Z Z C.hp T.cl_Grove T.na_Grove_parts (BX g) (ixt Z v Z (ixp Y ac ?_));refine u ?_;refine Bf ?_;intro bc bh k4 u a6;refine xwf Z Z C.hp T.cl_Grove T.na_Grove_parts (BX g) (ixt Z v Z (ixp Y ad ?_));refine u ?_;refine tretl (GE (ixt Z (s0.kt v) Z (GE (lnk4 s0 d m d m ⟨af,ah,D,I⟩ ⟨by lia,by lia⟩ λm1 G1 H1 s1 bj e1=>?_))));refine GE (ixt Z (s1.kt v) Z (GE (lnk4 s1 d d p p ⟨ag,D,aj,M⟩ ⟨by lia,by lia⟩ λm3 G3 H3 s3 ae e3=>?_)));refine GE (lnk4 s3 d m p q ⟨D,I,M,N⟩ ⟨by lia,by lia⟩ λm4 G4 H4 s4 X e4=>?_);refine GE (lnk4 s4 m m q q ⟨I,ai,N,al⟩ ⟨by lia,by lia⟩ λm5 G5 H5 s5 B e5=>?_);refine GE (ixt Z (s5.kt v) Z (GE (lnk4 s5 p q p q ⟨M,N,ak,am⟩ ⟨by lia,by lia⟩ λm7 G7 H7 s7 r e7=>?_)));refine GE (ixt Z (s7.kt v) Z ⟨(by show 9<=sizeLine;decide),λL hL=>?_⟩);have c:=s7.go;have sL:=AH (o:=.lst (([qa,m1,qb,m3,m4,m5,qc,m7,qd]:J_).map λ(k:Nat)=>V.int (k:Int))) hL;refine k L [qa,m1,qb,m3,m4,m5,qc,m7,qd] G7 _ (s7.fr.trans (Ay.fr sL)) (s7.gr.same sL) c Ag Z ?_;have v0:Vw G (Cr G (l+2) n) (l+1+1) n (2^(l+1)*0) (2^(l+1)*0):=λx y _ _=>Z;have p1:2^(l+1)=2^l*2:=F6 ..;apply AO;intro z b;obtain⟨va,vb,vc,vd⟩:=vwQ (c.get en) (v0.goes ok c hl);apply b;clear b z;have va:=va.at' (X':=2^l*0) (Y':=2^l*0) A0 A0;have vb:=vb.at' (X':=2^l*2) (Y':=2^l*0) A0 A0;have vc:=vc.at' (X':=2^l*0) (Y':=2^l*2) A0 A0;have vd:=vd.at' (X':=2^l*2) (Y':=2^l*2) A0 A0;apply AO;intro z b;obtain⟨bq,ao,aq,O⟩:=vwQ (c.get ea) va;obtain⟨ar,br,R,as⟩:=vwQ (c.get eb) vb;obtain⟨au,S,bt,av⟩:=vwQ (c.get ec) vc;obtain⟨U,aw,ax,bu⟩:=vwQ (c.get ed) vd;apply b;clear b z;have g5:=r.get e5;have g4:=r.get (B.get e4);have g3:=r.get (B.get (X.get e3));have g1:=r.get (B.get (X.get (ae.get e1)));intro i j hi hj
  match i,hi,j,hj with
  |0,_,0,_=>exact⟨qa,Z,c.lev la,va⟩
  |1,_,0,_=>exact⟨m1,Z,⟨_,g1,Z⟩,vw4 g1 ao ar O R⟩
  |2,_,0,_=>exact⟨qb,Z,c.lev lb,vb⟩
  |0,_,1,_=>exact⟨m3,Z,⟨_,g3,Z⟩,vw4 g3 aq O au S⟩
  |1,_,1,_=>exact⟨m4,Z,⟨_,g4,Z⟩,vw4 g4 O R S U⟩
  |2,_,1,_=>exact⟨m5,Z,⟨_,g5,Z⟩,vw4 g5 R as U aw⟩
  |0,_,2,_=>exact⟨qc,Z,c.lev lc,vc⟩
  |1,_,2,_=>exact⟨m7,Z,⟨_,e7,Z⟩,vw4 e7 S U av ax⟩
  |2,_,2,_=>exact⟨qd,Z,c.lev ld,vd⟩
inductive WY(vs:List V)(H:Hp)(Q:VK):Prop
|mk (L:R_) (k0 k1 k2 k3 k4 k5 k6 k7 k8:Nat) (_:vs=[.ref L]) (_:H L=some (.lst [.int k0,.int k1,.int k2,.int k3,.int k4,.int k5,.int k6,.int k7,.int k8])) (_:∀(M t0 t1 t2 t3:R_)(H':Hp),Ay H H'->H' M=some (.lst [.ref t0,.ref t1,.ref t2,.ref t3])->H' t0=some (.tup [.int k0,.int k1,.int k3,.int k4])->H' t1=some (.tup [.int k1,.int k2,.int k4,.int k5])->H' t2=some (.tup [.int k3,.int k4,.int k6,.int k7])->H' t3=some (.tup [.int k4,.int k5,.int k7,.int k8])->Q (.ref M) H'):WY vs H Q
def Mj:Sp:=λvs H Q _=>WY vs H Q
theorem ok_fours(F:Fun K "fours_of" "fours_of" LK f fd)(T:Top K mg a):AN P w K mg base CX0 1 f fd Va Mj:=by
 refine F.ok Tj (λvs H Q E h=>?_) (λaa A Y s H vs Q E hr h=>?_)
 .apply AO;intro S c;obtain⟨L,x,i,y,l,b,m,z,n,B,rfl,_⟩:=h;apply c;clear c S;rfl
 .apply AO;intro S c;obtain⟨L,x,i,y,l,b,m,z,n,B,rfl,q,k⟩:=h;apply c;clear c S;refine⟨_,(Af (Au (CL (AV (Aa (Ai Aw (pv 0) Ae R_9) (Aa (Ai Aw (pv 0) Ae R_9) (Aa (Ai Aw (pv 0) Ae R_9) (Aa (Ai Aw (pv 0) Ae R_9) Ac)))) (AV (Aa (Ai Aw (pv 0) Ae R_9) (Aa (Ai Aw (pv 0) Ae R_9) (Aa (Ai Aw (pv 0) Ae R_9) (Aa (Ai Aw (pv 0) Ae R_9) Ac)))) (AV (Aa (Ai Aw (pv 0) Ae R_9) (Aa (Ai Aw (pv 0) Ae R_9) (Aa (Ai Aw (pv 0) Ae R_9) (Aa (Ai Aw (pv 0) Ae R_9) Ac)))) (AV (Aa (Ai Aw (pv 0) Ae R_9) (Aa (Ai Aw (pv 0) Ae R_9) (Aa (Ai Aw (pv 0) Ae R_9) (Aa (Ai Aw (pv 0) Ae R_9) Ac)))) Ac))))))),?_⟩
  try dsimp only[cxK]
  refine xwi Z Z Z (SqL.of q) (Ah (j:=0) Z) (xwi Z Z Z (SqL.of q) (Ah (j:=1) Z) (xwi Z Z Z (SqL.of q) (Ah (j:=3) Z) (xwi Z Z Z (SqL.of q) (Ah (j:=4) Z) ⟨S_4,λG U=>?_⟩)));have s0:=AH (o:=.tup [.int (x:Int),.int (i:Int),.int (l:Int),.int (b:Int)]) U;have h0:upd H G (.tup [.int (x:Int),.int (i:Int),.int (l:Int),.int (b:Int)]) G=some (.tup [.int (x:Int),.int (i:Int),.int (l:Int),.int (b:Int)]):=Ag;generalize r:upd H G (.tup [.int (x:Int),.int (i:Int),.int (l:Int),.int (b:Int)])=X0 at s0 h0;have d:=s0 _ _ q
  first|rw[r]|(show ∃_,_;rw[r])|skip
  refine xwi Z Z Z (SqL.of d) (Ah (j:=1) Z) (xwi Z Z Z (SqL.of d) (Ah (j:=2) Z) (xwi Z Z Z (SqL.of d) (Ah (j:=4) Z) (xwi Z Z Z (SqL.of d) (Ah (j:=5) Z) ⟨S_4,λI V=>?_⟩)));have R:=AH (o:=.tup [.int (i:Int),.int (y:Int),.int (b:Int),.int (m:Int)]) V;have h1:upd X0 I (.tup [.int (i:Int),.int (y:Int),.int (b:Int),.int (m:Int)]) I=some (.tup [.int (i:Int),.int (y:Int),.int (b:Int),.int (m:Int)]):=Ag;generalize t:upd X0 I (.tup [.int (i:Int),.int (y:Int),.int (b:Int),.int (m:Int)])=X1 at R h1;have e:=R _ _ d
  first|rw[t]|(show ∃_,_;rw[t])|skip
  refine xwi Z Z Z (SqL.of e) (Ah (j:=3) Z) (xwi Z Z Z (SqL.of e) (Ah (j:=4) Z) (xwi Z Z Z (SqL.of e) (Ah (j:=6) Z) (xwi Z Z Z (SqL.of e) (Ah (j:=7) Z) ⟨S_4,λN W=>?_⟩)));have C:=AH (o:=.tup [.int (l:Int),.int (b:Int),.int (z:Int),.int (n:Int)]) W;have h2:upd X1 N (.tup [.int (l:Int),.int (b:Int),.int (z:Int),.int (n:Int)]) N=some (.tup [.int (l:Int),.int (b:Int),.int (z:Int),.int (n:Int)]):=Ag;generalize u:upd X1 N (.tup [.int (l:Int),.int (b:Int),.int (z:Int),.int (n:Int)])=X2 at C h2;have g:=C _ _ e
  first|rw[u]|(show ∃_,_;rw[u])|skip
  refine xwi Z Z Z (SqL.of g) (Ah (j:=4) Z) (xwi Z Z Z (SqL.of g) (Ah (j:=5) Z) (xwi Z Z Z (SqL.of g) (Ah (j:=7) Z) (xwi Z Z Z (SqL.of g) (Ah (j:=8) Z) ⟨S_4,λO X=>?_⟩)));have p:=AH (o:=.tup [.int (b:Int),.int (m:Int),.int (n:Int),.int (B:Int)]) X;have h3:upd X2 O (.tup [.int (b:Int),.int (m:Int),.int (n:Int),.int (B:Int)]) O=some (.tup [.int (b:Int),.int (m:Int),.int (n:Int),.int (B:Int)]):=Ag;generalize v:upd X2 O (.tup [.int (b:Int),.int (m:Int),.int (n:Int),.int (B:Int)])=X3 at p h3;have ab:=p _ _ g
  first|rw[v]|(show ∃_,_;rw[v])|skip
  refine⟨S_4,λM hM=>?_⟩;have D:=AH (o:=.lst [.ref G,.ref I,.ref N,.ref O]) hM;exact k M G I N O _ ((((s0.trans R).trans C).trans p).trans D) Ag (D _ _ (p _ _ (C _ _ (R _ _ h0)))) (D _ _ (p _ _ (C _ _ h1))) (D _ _ (p _ _ h2)) (D _ _ h3)
inductive SpMet(a:Ad)(vs:List V)(H:Hp)(Q:VK):Prop
|mk (g:GA) (G:Gv) (t:R_) (f0 f1 f2 f3 l:Nat) (_:vs=[.ref g.p,.ref t]) (_:AM a H g G) (_:GOk G) (_:H t=some (.tup [.int f0,.int f1,.int f2,.int f3])) (_:Ak G f0 ((l+1:Nat):Int)/\Ak G f1 ((l+1:Nat):Int)/\Ak G f2 ((l+1:Nat):Int)/\Ak G f3 ((l+1:Nat):Int)) (_:l<=47) (_:G.length<9000000) (_:∀(k:Nat)(G':Gv)(H':Hp),Fr g H H'->AM a H' g G'->AG G G' 1->G'[k]?=some ⟨[((qO G f0 3:Nat):Int),((qO G f1 2:Nat):Int),((qO G f2 1:Nat):Int),((qO G f3 0:Nat):Int)],(l:Int)+1⟩->Q (.int k) H'):SpMet a vs H Q
def VU(a:Ad):Sp:=λvs H Q _=>SpMet a vs H Q
theorem ok_met(F:Fun K "met_in_the_middle" "met_in_the_middle" Dw f fd)(T:Top K mg a)(a8:BJ P w K mg base CX0 2 a.c_Grove "linked" AU (DI a)):AN P w K mg base CX0 3 f fd Cm (VU a):=by
 refine F.ok Fb (λvs H Q E h=>?_) (λac A W s H vs Q E hr h=>?_)
 .apply AO;intro y b;obtain⟨g,G,t,f0,f1,f2,f3,l,rfl,_⟩:=h;apply b;clear b y;rfl
 .apply AO;intro y b;obtain⟨g,G,t,f0,f1,f2,f3,l,rfl,v,ok,x,⟨l0,l1,l2,l3⟩,ad,few,k⟩:=h;obtain⟨ts,q,r⟩:=v.pt;obtain⟨ar,as,au,c,e0,ae,af,ag,R⟩:=ok.four l0;obtain⟨u0,z,L⟩:=PairedM.get r e0;obtain⟨a4,a5,a6,X⟩:=Ey e0;obtain⟨av,aw,d,ax,e1,ah,ai,S,aj⟩:=ok.four l1;obtain⟨u1,B,M⟩:=PairedM.get r e1;obtain⟨a7,a9,Y,ba⟩:=Ey e1;obtain⟨ay,m,az,a0,e2,ak,U,al,am⟩:=ok.four l2;obtain⟨u2,C,N⟩:=PairedM.get r e2;obtain⟨bb,aa,bc,bd⟩:=Ey e2;obtain⟨p,a1,a2,a3,e3,V,an,ao,aq⟩:=ok.four l3;obtain⟨u3,D,O⟩:=PairedM.get r e3;obtain⟨ab,be,bf,bg⟩:=Ey e3;apply b;clear b y;rw[X,Y,aa,ab]at k;refine⟨_,(Ab (Ao (i:=2) Fb.nd Z O_9 (AB (pv 0) Z)) (Af (Au (AC (pv 0) a8 (rm hr) Am (AV (Aa (Ai Al (Ai Aw (pv 2) (Ai Al (pv 1) Ae R_9) R_9) Ae R_9) (Aa (Ai Al (Ai Aw (pv 2) (Ai Al (pv 1) Ae R_9) R_9) Ae R_9) (Aa (Ai Al (Ai Aw (pv 2) (Ai Al (pv 1) Ae R_9) R_9) Ae R_9) (Aa (Ai Al (Ai Aw (pv 2) (Ai Al (pv 1) Ae R_9) R_9) Ae R_9) Ac)))) Ac))))),?_⟩
  try dsimp only[cxK]
  refine xwf Z Z v.hp T.cl_Grove T.na_Grove_parts (BX g) ?_;refine xwn Z Z v.hp (BM g) Z (xwi Z Z Z (SqT.of x) (Ah (j:=0) Z) (xq4 Z Z (SqL.of q) (Ah (by rw[B8,z];rfl)) (xq4 Z Z (SqT.of L) (Ah (j:=3) Z) (xwj Z Z Z Z (SqT.of x) (Ah (j:=1) Z) (xq4 Z Z (SqL.of q) (Ah (by rw[B8,B];rfl)) (xq4 Z Z (SqT.of M) (Ah (j:=2) Z) (xwj Z Z Z Z (SqT.of x) (Ah (j:=2) Z) (xq4 Z Z (SqL.of q) (Ah (by rw[B8,C];rfl)) (xq4 Z Z (SqT.of N) (Ah (j:=1) Z) (xwj Z Z Z Z (SqT.of x) (Ah (j:=3) Z) (xq4 Z Z (SqL.of q) (Ah (by rw[B8,D];rfl)) (xq4 Z Z (SqT.of O) (Ah (j:=0) Z) ⟨S_4,λu hu=>?_⟩))))))))))));have s1:=AH (o:=.tup [.int (c:Int),.int (d:Int),.int (m:Int),.int (p:Int)]) hu;exact⟨g,G,u,c,d,m,p,(l:Int),Z,v.same s1,ok,Ag,⟨R,S,U,V⟩,by lia,few,λn G' H' fr I go e=>k n G' H' ((Ay.fr s1).trans fr) I go e⟩
end
end J
namespace J
open PySem L2
def Sv(o:HO):Prop:=Nv o\/∃xs:List V,o=.lst xs/\xs.length<=50
def KpS(H H':Hp):Prop:=∀b o,H b=some o->Sv o->H' b=some o
theorem Sv.lst{xs:List V}(h:xs.length<=50):Sv (.lst xs):=.inr ⟨xs,Z,h⟩
theorem Bs.long{G:Gv}(h:Bs G):56<=G.length:=(B7.mp (h 47 A4)).1
theorem Sv.nl{b x:R_}{H:Hp}{o:HO}{xs:List V}(s:Sv o)(e:H b=some o)(a:H x=some (.lst xs))(d:50<xs.length):b≠x:=λz=>by
 rw[z,a]at e;cases e;rcases s with s|⟨ys,c,f⟩
 .cases s
 .cases c;lia
theorem Sv.nt{b x:R_}{H:Hp}{o:HO}{k:List (List Key×V)}(s:Sv o)(e:H b=some o)(a:H x=some (.dT k)):b≠x:=λz=>by
 rw[z,a]at e;cases e;rcases s with s|⟨ys,c,d⟩
 .cases s
 .cases c
theorem Sv.nk{b x:R_}{H:Hp}{o:HO}{k:List (Key×V)}(s:Sv o)(e:H b=some o)(a:H x=some (.dK k)):b≠x:=λz=>by
 rw[z,a]at e;cases e;rcases s with s|⟨ys,c,d⟩
 .cases s
 .cases c
theorem Fr.kps{a:Ad}{H d:Hp}{g:GA}{G:Gv}(f:Fr g H d)(c:AM a H g G)(j:56<=G.length):KpS H d:=by
 intro b o e s;obtain⟨k,h,i⟩:=c.pt;have lt:k.length=G.length:=K5 i;exact f _ _ e (s.nl e c.lv (by rw[B6];lia)) (s.nl e h (by rw[B6];lia)) (s.nt e c.nm)
theorem FrJ.kps{a:Ad}{H d:Hp}{g:GA}{G:Gv}{N M:Nat}{r:AI}{m:MA}(f:FrJ g m H d)(c:AM a H g G)(q:56<=G.length)(h:Js H g G N M r m):KpS H d:=by
 intro b o e s;obtain⟨t,l,n⟩:=c.pt;obtain⟨u,i,_⟩:=h.ce;have lt:t.length=G.length:=K5 n;refine f _ _ e (s.nl e c.lv (by rw[B6];lia)) (s.nl e l (by rw[B6];lia)) (s.nt e c.nm) (s.nt e i) λz=>?_;obtain⟨j,p⟩:=L5 z;obtain⟨v,k,_⟩:=h.sq j b p;exact s.nk e k Z
theorem WL{G:Gv}(ok:GOk G):∀(l:Nat){n m:Nat},Ak G n (l:Int)->Ak G m (l:Int)->(∀x y,x<2^l->y<2^l->Cr G l n x y=Cr G l m x y)->n=m
|0,n,m,_,_,h=>Z9 (h 0 0 A4 A4)
|l+1,n,m,hn,hm,h=>by
 have part:∀i j,i<2->j<2->qO G n (i+2*j)=qO G m (i+2*j):=λi j g k=>by
  refine WL ok l (LO ok hn A0) (LO ok hm A0) λx y o p=>?_;rw[<-Qk G l n o p g k,<-Qk G l m o p g k];have F:2^l*i<=2^l*1:=N3 _ A0;have H:2^l*j<=2^l*1:=N3 _ A0;exact h _ _ (by rw[F6];lia) (by rw[F6];lia)
 obtain⟨x,y,z,w,e,_⟩:=ok.four hn;obtain⟨C,D,E,B,f,_⟩:=ok.four hm;obtain⟨q,r,s,t⟩:=Ey e;obtain⟨u,v,b2,A⟩:=Ey f;have a:=part 0 0 A4 A4;have b:=part 1 0 A4 A4;have c:=part 0 1 A4 A4;have d:=part 1 1 A4 A4;have a:x=C:=q.symm.trans (a.trans u);have b:y=D:=r.symm.trans (b.trans v);have c:z=E:=s.symm.trans (c.trans b2);have d:w=B:=t.symm.trans (d.trans A);refine ok.one e f ?_;rw[a,b,c,d]
abbrev Sht:=Nat->Nat->Int
abbrev KTy:=Nat->Nat->Sht->Prop
def EqOn(l:Nat)(φ ψ:Sht):Prop:=∀x y,x<2^(l+2)->y<2^(l+2)->φ x y=ψ x y
noncomputable def s47(f:L_):Nat:=((List.range 47).map f).sum
theorem VL(f:L_)(e:Nat):∀l:List Nat,l.Nodup->(l.map λi=>if i=e then f i+1 else f i).sum=(l.map f).sum+if e∈l then 1 else 0
|[],_=>by simp
|a::l,h=>by
 rw[M6]at h;rw[D9,D9,P4,P4,VL f e l h.2];by_cases z:a=e
 .subst z;rw[Z7 rfl,Z4 h.1,Z7 C2];lia
 .rw[Z4 z];by_cases y:e∈l
  .rw[Z7 y,Z7 (C4 _ y)];lia
  .rw[Z4 y,Z4 (λq=>by rcases C1.mp q with rfl|q;exact z rfl;exact y q)];lia
theorem Wf(f:L_){e:Nat}(h:e<47):s47 (λi=>if i=e then f i+1 else f i)=s47 f+1:=by
 unfold s47;rw[VL f e _ List.nodup_range,Z7 (F1.mpr h)]
theorem Sn{α β:Type}(R:α->β->Prop)(inj:∀x f y,R x y->R f y->x=f):∀(l:List β)(ks:List α),ks.Nodup->(∀k∈ks,∃y∈l,R k y)->ks.length<=l.length
|[],ks,_,h=>by
 cases ks with
 |nil=>exact C0 _
 |cons k ks=>obtain⟨y,i,_⟩:=h k C2;cases i
|y::l,ks,nd,h=>by
 classical
 have j:=Sn R inj l (ks.filter λk=>decide (¬R k y)) (nd.sublist List.filter_sublist) λk b=>by
  rw[R5,decide_eq_true_iff]at b;obtain⟨z,c,e⟩:=h k b.1;rcases C1.mp c with rfl|c
  .exact absurd e b.2
  .exact⟨z,c,e⟩
 have few:∀ks:List α,ks.Nodup->ks.length<=(ks.filter λk=>decide (¬R k y)).length+1:=by
  intro ks;induction ks with
  |nil=>intro _;exact J0 _
  |cons k ks d =>
   intro a;rw[M6]at a;by_cases z:R k y
   .have:ks.filter (λk=>decide (¬R k y))=ks:=List.filter_eq_self.mpr λx g=>Z5 λq=>a.1 (by rw[inj k x y z q];exact g);rw[List.filter_cons_of_neg (by simp[z]),this,F0];exact C0 _
   .rw[List.filter_cons_of_pos (by simp[z]),F0,F0];have:=d a.2;lia
 have:=few ks nd;rw[F0];lia
structure Ma(Κ:KTy)(N:Nat):Prop where
ls:∃M:Nat->Nat,s47 M<=N/\∀e,∃Ls:List (Nat×Sht),Ls.length<=M e/\∀l φ,Κ l e φ->∃ψ,(l,ψ)∈Ls/\EqOn l φ ψ
ext:∀{l e φ ψ},Κ l e φ->EqOn l φ ψ->Κ l e ψ
theorem VM(f:L_):∀(l:J_){e:Nat},e∈l->f e<=(l.map f).sum
|a::l,e,h=>by
 rw[D9,P4];rcases C1.mp h with rfl|h
 .exact U9 _ _
 .exact C9 (VM f l h) (Nat.le_add_left _ _)
theorem Md{f g:L_}:∀{l:J_},(∀e∈l,f e<=g e)->(l.map f).sum<=(l.map g).sum
|[],_=>C0 _
|a::l,h=>by
 have:=Md (l:=l) λe b=>h e (C4 _ b);have:=h a C2;rw[D9,P4,D9,P4];lia
structure Cn(H:Hp)(G:Gv)(m:MA)(Κ:KTy)(b:Nat)(f:L_):Prop where
sq:∀(e:Nat) d,m.ds[e]?=some d->∃kv,H d=some (.dK kv)/\kv.length=f e/\(kv.map (·.1)).Nodup/\∀k∈kv.map (·.1),∃n l:Nat,k=Sum.inl (n:Int)/\Ak G n ((l+2:Nat):Int)/\Κ l e (Cr G (l+2) n)
gl:G.length<=b+10*s47 f
ce:∃kc,H m.kc=some (.dT kc)/\kc.length<=b+10*s47 f
theorem Cn.few'{H:Hp}{G:Gv}{m:MA}{Κ:KTy}{b:Nat}{f M:L_}(h:Cn H G m Κ b f)(ok:GOk G)(fin:∀e,∃a:List (Nat×Sht),a.length<=M e/\∀l φ,Κ l e φ->∃ψ,(l,ψ)∈a/\EqOn l φ ψ)(len:m.ds.length=47){e:Nat}(t:e<47):f e<=M e:=by
 have g:e<m.ds.length:=by rw[len];exact t
 obtain⟨v,_,p,r,s⟩:=h.sq e (m.ds[e]'g) (C5 _);obtain⟨a,w,z⟩:=fin e;refine C9 ?_ w;rw[<-p,<-B6 (f:=(·.1)) (as:=v)];refine Sn (λ(k:Key)(q:Nat×Sht)=>∃n:Nat,k=Sum.inl (n:Int)/\Ak G n ((q.1+2:Nat):Int)/\EqOn q.1 (Cr G (q.1+2) n) q.2) ?_ a _ r λk u=>?_
 .rintro x D ⟨l,ψ⟩ ⟨n,rfl,c,d⟩ ⟨C,rfl,o,b2⟩;rw[WL ok _ c o λx y i j=>(d x y i j).trans (b2 x y i j).symm]
 .obtain⟨n,l,rfl,c,d⟩:=s k u;obtain⟨ψ,A,B⟩:=z l _ d;exact⟨_,A,n,Z,c,B⟩
theorem Cn.sum{H:Hp}{G:Gv}{m:MA}{Κ:KTy}{b N:Nat}{f:L_}(h:Cn H G m Κ b f)(ok:GOk G)(fin:Ma Κ N)(len:m.ds.length=47):s47 f<=N:=by
 obtain⟨M,a,c⟩:=fin.ls;exact C9 (Md λe d=>h.few' ok c len (F1.mp d)) a
theorem Cn.few{H:Hp}{G:Gv}{m:MA}{Κ:KTy}{b N:Nat}{f:L_}(h:Cn H G m Κ b f)(ok:GOk G)(fin:Ma Κ N)(len:m.ds.length=47){e:Nat}(a:e<47):f e<=N:=C9 (VM f _ (F1.mpr a)) (h.sum ok fin len)
theorem Cn.mono{H:Hp}{G:Gv}{m:MA}{Κ:KTy}{b b':Nat}{f:L_}(h:Cn H G m Κ b f)(e:b<=b'):Cn H G m Κ b' f:=by
 obtain⟨c,a,d⟩:=h.ce;have:=h.gl;exact⟨h.sq,by lia,c,a,by lia⟩
theorem Cn.kp{H g:Hp}{G q:Gv}{m:MA}{Κ:KTy}{b i:Nat}{f:L_}(h:Cn H G m Κ b f)(ok:GOk G)(go:AG G q i)(y:∀d∈m.ds,∀o,H d=some o->g d=some o)(z:∀c,H m.kc=some (.dT c)->∃a,g m.kc=some (.dT a)/\a.length<=c.length+i):Cn g q m Κ (b+i) f:=by
 refine⟨λe d s=>?_,?_,?_⟩
 .obtain⟨A,j,t,p,u⟩:=h.sq e d s;refine⟨A,y d (D5 s) _ j,t,p,λk x=>?_⟩;obtain⟨n,l,v,r,w⟩:=u k x;exact⟨n,l,v,go.lev r,by rw[CI ok go r];exact w⟩
 .have:=h.gl;have:=go.few;lia
 .obtain⟨c,j,t⟩:=h.ce;obtain⟨a,p,u⟩:=z c j;exact⟨a,p,by lia⟩
structure JZ(a:Ad)(H:Hp)(g:GA)(G:Gv)(Κ:KTy)(N b:Nat)(p dx mem pr:R_)(r:AI)(m:MA):Prop where
jw:JW a H g G N (b+10*N) p dx mem pr r m
cn:∃f,Cn H G m Κ b f
section
variable{a:Ad}{H H':Hp}{g:GA}{G G':Gv}{Κ:KTy}{N b i:Nat}{p dx mem pr:R_}{r:AI}{m:MA}
theorem JZ.sz(h:JZ a H g G Κ N b p dx mem pr r m)(fin:Ma Κ N):G.length<=b+10*N:=by
 obtain⟨f,c⟩:=h.cn;have:=c.gl;have:=c.sum h.jw.ok fin h.jw.me.len;lia
theorem JZ.mono{b':Nat}(h:JZ a H g G Κ N b p dx mem pr r m)(e:b<=b'):JZ a H g G Κ N b' p dx mem pr r m:=by
 obtain⟨f,c⟩:=h.cn;exact⟨h.jw.mono (C0 _) A0,f,c.mono e⟩
theorem JZ.same(h:JZ a H g G Κ N b p dx mem pr r m)(s:Ay H H'):JZ a H' g G Κ N b p dx mem pr r m:=by
 obtain⟨f,c⟩:=h.cn;exact⟨JW.same s h.jw,f,c.kp (i:=0) h.jw.ok (AG.refl h.jw.ok) (λd _ o e=>s _ _ e) λj e=>⟨j,s _ _ e,C0 _⟩⟩
theorem JZ.fr(h:JZ a H g G Κ N b p dx mem pr r m)(f:Fr g H H')(k:AM a H' g G')(go:AG G G' i):JZ a H' g G' Κ N (b+i) p dx mem pr r m:=by
 obtain⟨q,c⟩:=h.cn;obtain⟨w,n,_⟩:=h.jw.gr.pt;refine⟨(h.jw.fr f k go).mono (C0 _) A0,q,c.kp h.jw.ok go (λd s o e=>?_) λu e=>⟨u,?_,by lia⟩⟩
 .obtain⟨j,t⟩:=L5 s;obtain⟨v,l,_⟩:=c.sq j d t;rw[e]at l;cases l;exact f _ _ e (AE e h.jw.gr.lv A3) (AE e n A3) (AE e h.jw.gr.nm A3)
 .exact f _ _ e (AE e h.jw.gr.lv A3) (AE e n A3) h.jw.me.ap.2.2
def No(H:Hp)(m:MA)(e n:Nat):Prop:=∀d kv,m.ds[e]?=some d->H d=some (.dK kv)->Bo kv (Sum.inl (n:Int))=none
def Up(l:Nat)(G:Gv)(H H':Hp)(m:MA):Prop:=∀e n l':Nat,Ak G n ((l'+2:Nat):Int)->l<=l'->No H m e n->No H' m e n
theorem Up.refl(l:Nat)(G:Gv)(H:Hp)(m:MA):Up l G H H m:=λ_ _ _ _ _ h=>h
theorem Up.trans{l:Nat}{c d f:Hp}(h:Up l G c d m)(k:Up l G' d f m)(go:AG G G' i):Up l G c f m:=λe n q j o s=>k e n q (go.lev j) o (h e n q j o s)
theorem Up.mono{l c:Nat}(h:Up l G H H' m)(e:l<=c):Up c G H H' m:=λk n o d f j=>h k n o d (C9 e f) j
theorem Up.of(l:Nat){N M:Nat}(q:Js H g G N M r m)(k:∀d∈m.ds,∀o,H d=some o->H' d=some o):Up l G H H' m:=λe n u _ _ h d t c j=>by
 obtain⟨s,f,_⟩:=q.sq e d c;have:=k d (D5 c) _ f;rw[j]at this;cases this;exact h d _ c f
theorem JZ.upS(l:Nat)(h:JZ a H g G Κ N b p dx mem pr r m)(s:Ay H H'):Up l G H H' m:=Up.of l h.jw.me λd _ o e=>s _ _ e
theorem JZ.upF(l:Nat)(h:JZ a H g G Κ N b p dx mem pr r m)(f:Fr g H H'):Up l G H H' m:=Up.of l h.jw.me λd n o e=>by
 obtain⟨t,k,_⟩:=h.jw.gr.pt;obtain⟨j,q⟩:=L5 n;obtain⟨s,c,_⟩:=h.jw.me.sq j d q;rw[e]at c;cases c;exact f _ _ e (AE e h.jw.gr.lv A3) (AE e k A3) (AE e h.jw.gr.nm A3)
theorem JW.tc{M:Nat}{c:List (List Key×V)}(h:JW a H g G N M p dx mem pr r m)(e:H m.kc=some (.dT c)):JW a H g G N c.length p dx mem pr r m:=by
 obtain⟨j,d,_,f⟩:=h.me.ce;rw[e]at d;cases d;exact⟨h.gr,h.ok,h.bs,h.br,h.nbr,h.hp,h.ru,h.rok,h.rest,⟨h.me.tp,h.me.l,h.me.ap,h.me.len,h.me.nd,h.me.sq,_,e,C0 _,f⟩⟩
theorem JZ.mid{f:L_}{t:List (List Key×V)}(h:JZ a H g G Κ N b p dx mem pr r m)(c:Cn H G m Κ b f)(s:H m.kc=some (.dT t))(fr:FrC g m H H')(k:JW a H' g G' N (t.length+4) p dx mem pr r m)(go:AG G G' 1):JZ a H' g G' Κ N (b+4) p dx mem pr r m/\∀l,Up l G H H' m:=by
 obtain⟨F,B,_⟩:=h.jw.gr.pt;have y:∀d∈m.ds,∀o,H d=some o->H' d=some o:=λd C o e=>by
  obtain⟨j,k⟩:=L5 C;obtain⟨E,x,_⟩:=h.jw.me.sq j d k;rw[e]at x;cases x;exact fr _ _ e (AE e h.jw.gr.lv A3) (AE e B A3) (AE e h.jw.gr.nm A3) (AE e s A3)
 obtain⟨q,v,z,A⟩:=k.me.ce;obtain⟨u,w,D,_⟩:=h.jw.me.ce;rw[s]at w;cases w;have n:=k.me;refine⟨⟨⟨k.gr,k.ok,k.bs,k.br,k.nbr,k.hp,k.ru,k.rok,k.rest,⟨n.tp,n.l,n.ap,n.len,n.nd,n.sq,q,v,by lia,A⟩⟩,f,c.kp (i:=4) h.jw.ok (go.mono A4) y λu e=>⟨q,v,by rw[s]at e;cases e;exact z⟩⟩,λl=>Up.of l h.jw.me y⟩
theorem JZ.put{e n k l:Nat}{d:R_}{t:List (Key×V)}(h:JZ a H g G Κ N (b+10) p dx mem pr r m)(fin:Ma Κ N)(B:m.ds[e]?=some d)(I:H d=some (.dK t))(no:Bo t (Sum.inl (n:Int))=none)(T:Ak G n ((l+2:Nat):Int))(hk:Κ l e (Cr G (l+2) n))(jr:JR r G e n k):JZ a (upd H d (.dK (Do t (Sum.inl (n:Int)) (.int (k:Int))))) g G Κ N b p dx mem pr r m/\Up (l+1) G H (upd H d (.dK (Do t (Sum.inl (n:Int)) (.int (k:Int))))) m:=by
 obtain⟨f,c⟩:=h.cn;have D:e<47:=by rw[<-h.jw.me.len];exact(B7.mp B).1
 have o:=h.jw.putS B I jr;obtain⟨ab,W,q2,q3,q4⟩:=c.sq e d B;rw[I]at W;cases W;have U:=Iz (.int (k:Int)) no;rw[U]at o⊢;have nn:(Sum.inl (n:Int):Key)∉t.map (·.1):=λz=>by
  obtain⟨q,hq,eq⟩:=C8.mp z;have:(t.find? λt=>decide (t.1=(Sum.inl (n:Int):Key)))=none:=by
   unfold Bo at no;cases y:t.find? λt=>decide (t.1=(Sum.inl (n:Int):Key))with
   |none=>rfl
   |some w=>rw[y]at no;cases no
  have:=List.find?_eq_none.mp this q hq;exact this (Z5 eq)
 obtain⟨kc,R,c2⟩:=c.ce;have gl:=c.gl;have F:∀{d':R_}{s:Nat},m.ds[s]?=some d'->s≠e->d'≠d:=λ{d' s} j z y=>z (by
  rw[y]at j;exact(List.getElem?_inj (B7.mp j).1 h.jw.me.nd).mp (j.trans B.symm))
 have v:Cn (upd H d (.dK (t++[(Sum.inl (n:Int),.int (k:Int))]))) G m Κ b (λi=>if i=e then f i+1 else f i):=by
  refine⟨λs d' j=>?_,by rw[Wf f D];lia,kc,?_,by rw[Wf f D];lia⟩
  .by_cases z:s=e
   .subst z;rw[B]at j;cases j;refine⟨_,Ag,by rw[Z7 rfl,C3,q2];rfl,?_,λk' E=>?_⟩
    .rw[C6,O8];refine⟨q3,by simp,λx hx y hy=>?_⟩;rw[D1.mp hy];exact λz=>nn ((show x=Sum.inl (n:Int)from z)▸hx)
    .rw[C6]at E;rcases D8.mp E with y|y
     .exact q4 k' y
     .rw[D1.mp y];exact⟨n,l,Z,T,hk⟩
   .obtain⟨C,M,O,K,P⟩:=c.sq s d' j;exact⟨C,by rw[As (F j z)];exact M,by rw[Z4 z];exact O,K,P⟩
  .rw[As (AE R I A3)];exact R
 refine⟨⟨?_,_,v⟩,λs n' l' a1 a2 Q d' C j A=>?_⟩
 .have fw:∀{s:Nat},s<47->(if s=e then f s+1 else f s)<=N:=λ{s} he=>v.few h.jw.ok fin h.jw.me.len he;have sm:=v.sum h.jw.ok fin h.jw.me.len;obtain⟨L,S,d2⟩:=v.ce;have u:=o.me;obtain⟨aa,X,r2,r3⟩:=u.ce;rw[S]at X;cases X;refine⟨o.gr,o.ok,o.bs,o.br,o.nbr,o.hp,o.ru,o.rok,o.rest,⟨u.tp,u.l,u.ap,u.len,u.nd,λs d' j=>?_,L,S,by lia,r3⟩⟩;obtain⟨kw,Y,u2,u3,u4⟩:=u.sq s d' j;obtain⟨ac,v1,v2,_⟩:=v.sq s d' j;rw[Y]at v1;cases v1;exact⟨kw,Y,by rw[v2];exact fw (by rw[<-h.jw.me.len];exact(B7.mp j).1),u3,u4⟩
 .by_cases z:s=e
  .subst z;rw[B]at j;cases j;rw[Ag]at A;cases A;rw[<-U,FN];have ne:n'≠n:=λy=>by
    subst y;have:((l'+2:Nat):Int)=((l+2:Nat):Int):=by
     obtain⟨q,M,O⟩:=a1;obtain⟨q',K,P⟩:=T;rw[M]at K;cases K;exact O.symm.trans P
    lia
   rw[Z4 (λy=>ne (by have:=Sum.inl.inj y;lia))];exact Q d t B I
  .rw[As (F j z)]at A;exact Q d' C j A
end
seal L2.PA L2.PE L2.PS L2.PSs L2.PT L2.PW
structure ClK(r:AI)(Κ:KTy):Prop where
nine1:∀{l e φ},Κ (l+1) e φ->e<=l->∀i j,i<3->j<3->Κ l e λx y=>φ (x+2^(l+1)*i) (y+2^(l+1)*j)
nine2:∀{l φ},Κ (l+1) (l+1) φ->∀i j,i<3->j<3->Κ l l λx y=>φ (x+2^(l+1)*i) (y+2^(l+1)*j)
four:∀{l φ},Κ (l+1) (l+1) φ->∀i j,i<2->j<2->Κ l l λx y=>Bp r (2^l) φ (x+(2^(l+1)*i+2^l)) (y+(2^(l+1)*j+2^l))
theorem Ak.one{G:Gv}{n:Nat}{i j:Int}(h:Ak G n i)(k:Ak G n j):i=j:=by
 obtain⟨q,b,c⟩:=h;obtain⟨p,a,d⟩:=k;rw[b]at a;cases a;exact c.symm.trans d
theorem JR.view{r:AI}{G:Gv}{c:Nat->Nat->Int}{e n m l X Y:Nat}(h:JR r G e n m)(o:Ak G n ((l+2:Nat):Int))(v:Vw G c (l+2) n X Y):Ak G m ((l+1:Nat):Int)/\e<=l/\Vw G (Bp r (2^e) c) (l+1) m (X+2^l) (Y+2^l):=by
 apply AO;intro d a;obtain⟨k,g,b,i,j⟩:=h;apply a;clear a d;have f:k=l:=by
  have:=g.one o;lia
 subst f;exact⟨i,b,v.jump b j⟩
theorem Vw.jr{r:AI}{G:Gv}{e n m l:Nat}(b:Ak G n ((l+1+2:Nat):Int))(a:e<=l+1)(lm:Ak G m ((l+1+1:Nat):Int))(v:Vw G (Bp r (2^e) (Cr G (l+1+2) n)) (l+1+1) m (2^(l+1)) (2^(l+1))):JR r G e n m:=⟨l+1,b,a,lm,v⟩
theorem met_view{G b:Gv}{c:Nat->Nat->Int}{l d f g h z X Y i:Nat}(ok:GOk G)(go:AG G b i)(m:Ak G d ((l+1:Nat):Int))(n:Ak G f ((l+1:Nat):Int))(o:Ak G g ((l+1:Nat):Int))(p:Ak G h ((l+1:Nat):Int))(v:Vw G c (l+1) d X Y)(w:Vw G c (l+1) f (X+2^(l+1)) Y)(x:Vw G c (l+1) g X (Y+2^(l+1)))(y:Vw G c (l+1) h (X+2^(l+1)) (Y+2^(l+1)))(e:b[z]?=some ⟨[((qO G d 3:Nat):Int),((qO G f 2:Nat):Int),((qO G g 1:Nat):Int),((qO G h 0:Nat):Int)],(l:Int)+1⟩):Vw b c (l+1) z (X+2^l) (Y+2^l):=by
 have E:2^(l+1)=2^l*2:=F6 ..;apply AO;intro k a;obtain⟨A,B,C,D⟩:=Ey e;apply a;clear a k;have r:=(v.q (i:=1) (j:=1) A4 A4).goes ok go (LO ok m A4);have s:=(w.q (i:=0) (j:=1) A4 A4).goes ok go (LO ok n A4);have t:=(x.q (i:=1) (j:=0) A4 A4).goes ok go (LO ok o A4);have u:=(y.q (i:=0) (j:=0) A4 A4).goes ok go (LO ok p A4);refine Vw.of ?_ ?_ ?_ ?_
 .rw[A];exact r.at' A0 A0
 .rw[B];exact s.at' A0 A0
 .rw[C];exact t.at' A0 A0
 .rw[D];exact u.at' A0 A0
theorem NI{G b:Gv}{c:Nat->Nat->Int}{l d f g h z X Y i:Nat}{L:Int}(ok:GOk G)(go:AG G b i)(k:Ak G d (l:Int))(m:Ak G f (l:Int))(n:Ak G g (l:Int))(o:Ak G h (l:Int))(p:Vw G c l d X Y)(q:Vw G c l f (X+2^l) Y)(r:Vw G c l g X (Y+2^l))(s:Vw G c l h (X+2^l) (Y+2^l))(e:b[z]?=some ⟨[(d:Int),(f:Int),(g:Int),(h:Int)],L⟩):Vw b c (l+1) z X Y:=by
 apply AO;intro j a;obtain⟨t,u,v,w⟩:=Ey e;apply a;clear a j;refine Vw.of ?_ ?_ ?_ ?_
 .rw[t];exact p.goes ok go k
 .rw[u];exact q.goes ok go m
 .rw[v];exact r.goes ok go n
 .rw[w];exact s.goes ok go o
theorem Wq:∀xs:List Nat,xs.length=9->∃a b c d e f g h i,xs=[a,b,c,d,e,f,g,h,i]
|[a,b,c,d,e,f,g,h,i],_=>⟨a,b,c,d,e,f,g,h,i,Z⟩
theorem Qc:∀xs:List Nat,xs.length=4->∃a b c d,xs=[a,b,c,d]
|[a,b,c,d],_=>⟨a,b,c,d,Z⟩
noncomputable def toV(k:Nat):V:=.int (k:Int)
def Nine(G:Gv)(c:Nat->Nat->Int)(l X:Nat)(ys:J_):Prop:=∀i j,i<3->j<3->∃y,ys[i+3*j]?=some y/\Ak G y (l:Int)/\Vw G c l y (2^l*i+X) (2^l*j+X)
theorem QZ {r:AI} {b d:Gv} {c:Nat->Nat->Int} {l e x:Nat} {ks ys:J_} (ok:GOk b) (go:AG b d x) (h:∀i j,i<3->j<3->∃k,ks[i+3*j]?=some k/\Ak b k ((l+1+1:Nat):Int)/\Vw b c (l+1+1) k (2^(l+1)*i) (2^(l+1)*j)) (t:Paired (λk y=>JR r d e k y) ks ys):Nine d (Bp r (2^e) c) (l+1) (2^l) ys:=λi j q s=>by
 apply AO;intro g a;obtain⟨k,m,f,n⟩:=h i j q s;obtain⟨y,o,p⟩:=Paired.get t m;obtain⟨u,_,v⟩:=p.view (go.lev f) (n.goes ok go f);apply a;clear a g;exact⟨y,o,u,v⟩
theorem Py{G:Gv}{c:Nat->Nat->Int}{l X:Nat}{H:Hp}{x n y o g p z q A:Nat}{r s u v:R_}(m:Nine G c l X [x,n,y,o,g,p,z,q,A])(B:H r=some (.tup [.int x,.int n,.int o,.int g]))(C:H s=some (.tup [.int n,.int y,.int g,.int p]))(D:H u=some (.tup [.int o,.int g,.int z,.int q]))(E:H v=some (.tup [.int g,.int p,.int q,.int A]))(t:Nat)(w:R_)(a:[r,s,u,v][t]?=some w) :
  ∃b d e f:Nat,H w=some (.tup [.int b,.int d,.int e,.int f])/\(Ak G b (l:Int)/\Ak G d (l:Int)/\Ak G e (l:Int)/\Ak G f (l:Int))/\Vw G c l b (2^l*(t%2)+X) (2^l*(t/2)+X)/\Vw G c l d (2^l*(t%2)+X+2^l) (2^l*(t/2)+X)/\Vw G c l e (2^l*(t%2)+X) (2^l*(t/2)+X+2^l)/\Vw G c l f (2^l*(t%2)+X+2^l) (2^l*(t/2)+X+2^l):=by
 have M:t<4:=(B7.mp a).1;have R:=Nat.mul_succ (2^l) (t%2);have S:=Nat.mul_succ (2^l) (t/2);obtain⟨b,h,F,N⟩:=m (t%2) (t/2) A0 A0;obtain⟨d,i,I,O⟩:=m (t%2+1) (t/2) A0 A0;obtain⟨e,j,K,P⟩:=m (t%2) (t/2+1) A0 A0;obtain⟨f,k,L,Q⟩:=m (t%2+1) (t/2+1) A0 A0;refine⟨b,d,e,f,?_,⟨F,I,K,L⟩,N,O.at' A0 Z,P.at' Z A0,Q.at' A0 A0⟩
 match t,M,a with
 |0,_,a=>cases h;cases i;cases j;cases k;cases a;exact B
 |1,_,a=>cases h;cases i;cases j;cases k;cases a;exact C
 |2,_,a=>cases h;cases i;cases j;cases k;cases a;exact D
 |3,_,a=>cases h;cases i;cases j;cases k;cases a;exact E
theorem SH{α:Type}{P:Nat->α->Prop}{b:List α}{z:α}{i:Nat}(c:b.length=i)(h:∀t a,b[t]?=some a->P t a)(d:P i z):∀t a,(b++[z])[t]?=some a->P t a:=λt a e=>by
 by_cases f:t<i
 .rw[M4 A0]at e;exact h t a e
 .have:t=i:=by
   have:=(B7.mp e).1;rw[C3,c]at this;have:t<i+1:=this;lia
  subst this;rw[F8 A0,c,V6]at e;cases e;exact d
section
variable{P:N_}{w:Q_}{K:O_}{mg:C_}{base:T_}{a:Ad}
inductive SpRecA(a:Ad)(L:Nat)(vs:List V)(H:Hp)(Q:VK):Prop
|mk (p dx mem pr:R_) (g:GA) (G:Gv) (Κ:KTy) (N b:Nat) (r:AI) (m:MA) (n l e:Nat) (_:vs=[.ref p,.int n,.int e]) (_:JZ a H g G Κ N b p dx mem pr r m) (_:Ma Κ N) (_:ClK r Κ) (_:Ak G n ((l+2:Nat):Int)) (_:l<L) (_:e<=l) (_:Κ l e (Cr G (l+2) n)) (_:b+10*N+10*(l+1)<8000000) (_:∀(k:Nat)(G':Gv)(H':Hp)(i:Nat),FrJ g m H H'->JZ a H' g G' Κ N b p dx mem pr r m->AG G G' i->JR r G' e n k->Up (l+1) G H H' m->Q (.int k) H'):SpRecA a L vs H Q
def GQ(a:Ad)(L:Nat):Sp:=λvs H Q _=>SpRecA a L vs H Q
inductive SpFreA(a:Ad)(L:Nat)(vs:List V)(H:Hp)(Q:VK):Prop
|mk (p dx mem pr:R_) (g:GA) (G:Gv) (Κ:KTy) (N b:Nat) (r:AI) (m:MA) (n l e:Nat) (_:vs=[.ref p,.int n,.int e]) (_:JZ a H g G Κ N b p dx mem pr r m) (_:Ma Κ N) (_:ClK r Κ) (_:Ak G n ((l+2:Nat):Int)) (_:l<L) (_:e<=l) (_:Κ l e (Cr G (l+2) n)) (_:b+10*N+10*(l+1)<8000000) (_:∀(k:Nat)(G':Gv)(H':Hp)(i:Nat),FrJ g m H H'->JZ a H' g G' Κ N (b+10) p dx mem pr r m->AG G G' i->JR r G' e n k->Up l G H H' m->Q (.int k) H'):SpFreA a L vs H Q
def UG(a:Ad)(L:Nat):Sp:=λvs H Q _=>SpFreA a L vs H Q
inductive WW(a:Ad)(L:Nat)(vs:List V)(H:Hp)(Q:VK):Prop
|mk (p dx mem pr:R_) (g:GA) (G:Gv) (Κ:KTy) (N b:Nat) (r:AI) (m:MA) (n l:Nat) (_:vs=[.ref p,.int n,.int ((l+1:Nat):Int)]) (_:JZ a H g G Κ N b p dx mem pr r m) (_:Ma Κ N) (_:ClK r Κ) (_:Ak G n ((l+1+2:Nat):Int)) (_:l<L) (_:Κ (l+1) (l+1) (Cr G (l+1+2) n)) (_:b+10*N+10*(l+2)<8000000) (_:∀(A:R_)(f0 f1 f2 f3:Nat)(G':Gv)(H':Hp)(i:Nat),FrJ g m H H'->JZ a H' g G' Κ N (b+9) p dx mem pr r m->AG G G' i->Up (l+1) G H H' m->H' A=some (.lst [toV f0,toV f1,toV f2,toV f3])->(Ak G' f0 ((l+2:Nat):Int)/\Ak G' f1 ((l+2:Nat):Int)/\Ak G' f2 ((l+2:Nat):Int)/\Ak G' f3 ((l+2:Nat):Int))->(Vw G' (Bp r (2^l) (Cr G (l+1+2) n)) (l+2) f0 (2^l) (2^l)/\Vw G' (Bp r (2^l) (Cr G (l+1+2) n)) (l+2) f1 (2^l+2^(l+1)) (2^l)/\Vw G' (Bp r (2^l) (Cr G (l+1+2) n)) (l+2) f2 (2^l) (2^l+2^(l+1))/\Vw G' (Bp r (2^l) (Cr G (l+1+2) n)) (l+2) f3 (2^l+2^(l+1)) (2^l+2^(l+1)))->Q (.ref A) H'):WW a L vs H Q
def RF(a:Ad)(L:Nat):Sp:=λvs H Q _=>WW a L vs H Q
theorem ok_halfA{L d:Nat}(F:Fun K "four_halfway" "Jumps.four_halfway" Bq f fd)(T:Top K mg a)(d3:3<=d)(aQ:Cal P w K mg base CX0 3 "nine_parts" Lf (OQ a))(aV:Cal P w K mg base CX0 1 "fours_of" Va Mj)(a8:BJ P w K mg base CX0 2 a.c_Grove "linked" AU (DI a))(aF:BJ P w K mg base CX0 d a.c_Jumps "reckoned" QJ (GQ a L)):AN P w K mg base CX0 (d+1) f fd QJ (RF a L):=by
 refine F.ok Ex (λvs H Q E h=>?_) (λbb A a7 s H vs Q E hr h=>?_)
 .apply AO;intro C c;obtain⟨p,dx,mem,pr,g,G,Κ,N,b,r,m,n,l,rfl,_⟩:=h;apply c;clear c C;rfl
 .apply AO;intro C c;obtain⟨p,dx,mem,pr,g,G,Κ,N,b,r,m,n,l,rfl,hz,fin,cl,hl,hL,a4,few,k⟩:=h;have hj:=hz.jw;have sz:=hz.sz fin;apply c;clear c C;refine⟨_,(Ab (Ge (i:=3) Z Ex.nd Z Z (BK.of (So:=Aj Bq) (No:=Df) (N:=["part","self","e"]) (k:=1) (cs:=[0,2]) Z Z A1) (CO (Aq aQ (rm hr) Z Am (Aa (AB (pv 0) Z) (Aa (pv 1) Ac)))) (λ_ _ _=>(Bj (i:=0) A1 Z Z)) (λ_ _ _=>BP) (λ_ _ _=>(AC (pv 1) aF (rm hr) Am (Aa (pv 0) (Br Bm (pv 2) Ae Ac))))) (Af (Au (Ck Z (BK.of (So:=Aj Bq) (No:=Df) (N:=["four","self"]) (k:=1) (cs:=[0]) Z Z A1) (CO (Aq aV (rm hr) Z Am (Aa (pv 3) Ac))) (λ_ _ _=>(Bj (i:=0) A1 Z Z)) (λ_ _ _=>BP) (λ_ _ _=>(AC (RO (K:=K) Z (pv 1) Z) a8 (rm hr) Am (Aa (pv 0) Ac))))))),?_⟩
  try dsimp only[cxK]
  obtain⟨q9,aq,bc⟩:=id hl;have be:l<=45:=by have:=(hj.ok.lev aq).2;lia
  refine xwf Z Z hj.hp T.cl_Jumps T.na_Jumps_grove (Es _ _ _ _ _) (xq1 Z ⟨g,G,n,l+1,Z,hj.gr,hj.ok,hl,by lia,by lia,λA9 ks G3 H3 ac ax I am l9 nine=>?_⟩);have af:=hz.fr ac ax I;have M:=af.jw;have bf:=af.sz fin
  skip
  have ao:∀(t k:Nat),ks[t]?=some k->Ak G3 k ((l+2:Nat):Int):=λt k e=>by
   have ht:=(B7.mp e).1;obtain⟨k',e1,e2,_⟩:=nine (t%3) (t/3) A0 A0;rw[show t%3+3*(t/3)=t by lia,e]at e1;cases e1;exact e2
  have a6:∀(t k:Nat),ks[t]?=some k->Κ l l (Cr G3 (l+2) k):=λt k e=>by
   have ht:=(B7.mp e).1;obtain⟨k',e1,_,v⟩:=nine (t%3) (t/3) A0 A0;rw[show t%3+3*(t/3)=t by lia,e]at e1;cases e1;exact fin.ext (cl.nine2 a4 (t%3) (t/3) A0 A0) λx y hx hy=>(v x y hx hy).symm
  refine⟨A9,Z,⟨_,SqL.of am⟩,?_⟩;refine Et (xs:=ks.map λ(k:Nat)=>V.int (k:Int)) (λi u H5=>∃(Y:Gv)(ys:J_)(c5:Nat),u=ys.map toV/\ys.length=i/\FrJ g m H3 H5/\JZ a H5 g Y Κ N (b+5) p dx mem pr r m/\AG G3 Y c5/\Up (l+1) G3 H3 H5 m/\Paired (λk y=>JR r Y l k y) (ks.take i) ys) ⟨G3,[],0,Z,Z,λb o e _ _ _ _ _=>e,af,AG.refl M.ok,Up.refl _ _ _ _,.nil⟩ (λi u H5 _ z=>by obtain⟨_,_,_,_,_,fr,_⟩:=z;exact SqL.of ((fr.kps M.gr M.bs.long M.me) _ _ am (.lst (by rw[B6];lia)))) ?_ ?_
  .rintro i v u H5 ev aj;apply AO;intro C c;obtain⟨Y,ys,c5,rfl,ly,ad,R,q,ah,aa⟩:=aj;apply c;clear c C;rw[B8]at ev;obtain⟨k5,ek,rfl⟩:=D6.mp ev;have i9:i<9:=by have:=(B7.mp ek).1;lia
   have ae:=R.jw
   skip
   refine⟨⟨[some (.int (k5:Int))],Z,Z⟩,by rw[B6,ly];exact T8 i9 A4,GO (xwn Z Z ae.hp (MB _ _ _ _ _) Z (xwb Z Z Z ⟨p,dx,mem,pr,g,Y,Κ,N,b+5,r,m,k5,l,l,(show [V.ref p,V.int (k5:Int),V.int (((l+1:Nat):Int)-1)]=[V.ref p,V.int (k5:Int),V.int (l:Int)] by rw[show((l+1:Nat):Int)-1=(l:Int) by lia]),R,fin,cl,q.lev (ao i k5 ek),hL,C0 l,(by rw[CI M.ok q (ao i k5 ek)];exact a6 i k5 ek),by lia,λy G6 H6 c6 as X al a5 ba=>⟨G6,ys++[y],_,by rw[C6];rfl,by rw[C3,ly];rfl,ad.trans as,X,q.trans al,ah.trans ba q,?_⟩⟩))⟩;rw[J3,ek,P9];exact A2b (Paired.imp (λk y z=>z.goes ae.ok al) aa) a5
  rintro u H5 ai A5 av;apply AO;intro C c;obtain⟨Y,ys,c5,rfl,ly,ad,R,q,ah,aa⟩:=ai;have ae:=R.jw;apply c;clear c C;rw[B6,l9]at ly;rw[B6,L6]at aa;have nj:=QZ M.ok q nine aa;apply AO;intro C c;obtain⟨y0,y1,y2,y3,y4,y5,y6,y7,y8,rfl⟩:=Wq ys ly;apply c;clear c C
  skip
  generalize dP:upd H5 A5 _=H6;obtain⟨s5,an⟩:=alc av dP;have X:=R.same s5;have bd:=X.jw;have ar:FrJ g m H H6:=(Fr.j ac).trans (ad.trans (Ay.j s5));refine xq1 Z ⟨A5,y0,y1,y2,y3,y4,y5,y6,y7,y8,Z,an,λMM t0 t1 t2 t3 H7 s7 hM az a0 a1 a2=>?_⟩;have ag:=X.same s7;have W:=ag.jw;refine⟨MM,Z,⟨_,SqL.of hM⟩,?_⟩;have p1:2^(l+1)=2^l*2:=F6 ..;have four:=Py nj az a0 a1 a2;have ab:=W.ok;refine Et (xs:=[t0,t1,t2,t3].map V.ref) (λi u H8=>∃(G8:Gv)(zs:J_),u=zs.map toV/\zs.length=i/\Fr g H7 H8/\JZ a H8 g G8 Κ N (b+5+i) p dx mem pr r m/\AG Y G8 i/\∀(t z:Nat),zs[t]?=some z->Ak G8 z ((l+2:Nat):Int)/\Vw G8 (Bp r (2^l) (Cr G (l+1+2) n)) (l+1+1) z (2^(l+1)*(t%2)+2^l) (2^(l+1)*(t/2)+2^l)) ⟨Y,[],Z,Z,Fr.refl g H7,ag,AG.refl ab,λt z e=>(nomatch e)⟩ (λi u H8 _ z=>by obtain⟨_,_,_,_,fr,_⟩:=z;exact SqL.of ((fr.kps W.gr W.bs.long) _ _ hM (.lst (by show 4<=50;decide)))) ?_ ?_
  .rintro i v u H8 ev aj;apply AO;intro C c;obtain⟨G8,zs,rfl,lz,S,D,B,vz⟩:=aj;have O:=D.jw;have a9:=D.sz fin;apply c;clear c C;rw[B8]at ev;obtain⟨tt,et,rfl⟩:=D6.mp ev;have i4:i<4:=(B7.mp et).1;apply AO;intro C c;obtain⟨f0,f1,f2,f3,a3,⟨m0,m1,m2,m3⟩,w0,w1,w2,w3⟩:=four i tt et;apply c;clear c C
   skip
   refine⟨⟨[some (.ref tt)],Z,Z⟩,by rw[B6,lz];exact T8 i4 A4,GO (xwf Z Z O.hp T.cl_Jumps T.na_Jumps_grove (Es _ _ _ _ _) (xq3 Z O.gr.hp (BM g) (xq1 Z ⟨g,G8,tt,f0,f1,f2,f3,((l+1:Nat):Int),Z,O.gr,O.ok,(S.kps W.gr W.bs.long) _ _ a3 (.inl .tup),⟨B.lev m0,B.lev m1,B.lev m2,B.lev m3⟩,by lia,by lia,λz G9 H9 ak ay U e9=>⟨G9,zs++[z],by rw[C6];rfl,by rw[C3,lz];rfl,S.trans ak,D.fr ak ay U,B.trans U,?_⟩⟩)))⟩;refine SH lz (λt z' e=>?_) ?_
   .obtain⟨q1,q2⟩:=vz t z' e;exact⟨U.lev q1,q2.goes O.ok U q1⟩
   .exact⟨⟨_,e9,by show((l+1:Nat):Int)+1=((l+2:Nat):Int);lia⟩,NI ab (B.trans U) m0 m1 m2 m3 w0 w1 w2 w3 e9⟩
  rintro u H8 ai A8 aw;apply AO;intro C c;obtain⟨G8,zs,rfl,lz,S,D,B,vz⟩:=ai;have O:=D.jw;have a9:=D.sz fin;apply c;clear c C;apply AO;intro C c;obtain⟨z0,z1,z2,z3,rfl⟩:=Qc zs lz;apply c;clear c C;have s8:Ay H8 (upd H8 A8 (.lst ([z0,z1,z2,z3].map toV))):=AH aw;have au:AG Y G8 4:=B;obtain⟨q0,x0⟩:=vz 0 z0 Z;obtain⟨q1,x1⟩:=vz 1 z1 Z;obtain⟨q2,x2⟩:=vz 2 z2 Z;obtain⟨q3,x3⟩:=vz 3 z3 Z;refine k A8 z0 z1 z2 z3 G8 _ _ (ar.trans ((Ay.j s7).trans ((Fr.j S).trans (Ay.j s8)))) (D.same s8) ((I.trans q).trans au) (((((hz.upF (l+1) ac).trans ah I).trans (R.upS _ s5) (I.trans q)).trans (X.upS _ s7) (I.trans q)).trans ((ag.upF _ S).trans (D.upS _ s8) B) (I.trans q)) Ag ⟨q0,q1,q2,q3⟩ ⟨x0.at' A0 A0,x1.at' A0 A0,x2.at' A0 A0,x3.at' A0 A0⟩
theorem ok_freA{L d:Nat}(F:Fun K "fresh" "Jumps.fresh" Cf f fd)(T:Top K mg a)(d7:7<=d)(aG:BJ P w K mg base CX0 7 a.c_Jumps "middle_after" JP (RD a))(a8:BJ P w K mg base CX0 2 a.c_Grove "linked" AU (DI a))(aQ:Cal P w K mg base CX0 3 "nine_parts" Lf (OQ a))(aV:Cal P w K mg base CX0 1 "fours_of" Va Mj)(aH:Cal P w K mg base CX0 3 "met_in_the_middle" Cm (VU a))(aF:BJ P w K mg base CX0 d a.c_Jumps "reckoned" QJ (GQ a L))(cE:BJ P w K mg base CX0 (d+1) a.c_Jumps "four_halfway" QJ (RF a L)):AN P w K mg base CX0 (d+2) f fd QJ (UG a (L+1)):=by
 refine F.ok Ef (λvs H Q E h=>?_) (λb7 A b2 s H vs Q E hr h=>?_)
 .apply AO;intro R c;obtain⟨p,dx,mem,pr,g,G,Κ,N,b,r,m,n,l,e,rfl,_⟩:=h;apply c;clear c R;rfl
 .apply AO;intro R c;obtain⟨p,dx,mem,pr,g,G,Κ,N,b,r,m,n,l,e,rfl,hz,fin,cl,hl,hL,he,a4,few,k⟩:=h;have U:=hz.jw;have sz:=hz.sz fin;obtain⟨q,eq,el⟩:=id hl;apply c;clear c R;have b9:=(U.ok.lev eq).2;have b0:l<=46:=by lia
  refine⟨_,(Ab (Ao (i:=3) Ef.nd Z (Or.inr Z) (AB (pv 0) Z)) (Ab (Ao (i:=4) Ef.nd Z O_9 (Ai Aw (AB (pv 3) Z) (pv 1) R_9)) (Ab (AQ (Az De (pv 1) (Ai Aw (AB (pv 3) Z) (pv 4) R_9) (AD _)) (Af (Au (Ai Aw (AB (pv 3) Z) (AA Bm (pv 4) Ae) R_9))) Ax) (Ab (AQ (Az De (pv 4) (BT Z T.k_LEAST_JUMPED) (AD _)) (Af (Au (AC (pv 0) aG (rm hr) Am (Aa (pv 1) Ac)))) Ax) (Ab (AQ (Az GN (pv 2) (AA Bm (pv 4) (BT Z T.k_LEAST_JUMPED)) (AD _)) (Ab (Ge (i:=5) Z Ef.nd Z Z (BK.of (So:=Aj Cf) (No:=EY) (N:=["part","self","e"]) (k:=1) (cs:=[0,2]) Z Z A1) (CO (Aq aQ (rm hr) Z Am (Aa (pv 3) (Aa (pv 1) Ac)))) (λ_ _ _=>(Bj (i:=0) A1 Z Z)) (λ_ _ _=>BP) (λ_ _ _=>(AC (pv 1) aF (rm hr) Am (Aa (pv 0) (Aa (pv 2) Ac))))) (Af (Au (AC (pv 3) a8 (rm hr) Am (Aa (BG BV Z T.b_tuple K7 (Aa (Ck Z (BK.of (So:=Aj Cf) (No:=EY) (N:=["four","grove"]) (k:=1) (cs:=[3]) Z Z A1) (CO (Aq aV (rm hr) Z Am (Aa (pv 5) Ac))) (λ_ _ _=>(Bj (i:=0) A1 Z Z)) (λ_ _ _=>BP) (λ_ _ _=>(Aq aH (rm hr) Z Am (Aa (pv 1) (Aa (pv 0) Ac))))) Ac)) Ac))))) Ax) (Af (Au (AC (pv 3) a8 (rm hr) Am (Aa (BG BV Z T.b_tuple K7 (Aa (Ck Z (BK.of (So:=Aj Cf) (No:=EY) (N:=["four","self","e"]) (k:=1) (cs:=[0,2]) Z Z A1) (CO (AC (pv 0) cE (rm hr) Am (Aa (pv 1) (Aa (pv 2) Ac)))) (λ_ _ _=>(Bj (i:=0) A1 Z Z)) (λ_ _ _=>BP) (λ_ _ _=>(AC (pv 1) aF (rm hr) Am (Aa (pv 0) (Br Bm (pv 2) Ae Ac))))) Ac)) Ac))))))))),?_⟩
  try dsimp only[cxK]
  refine xwf Z Z U.hp T.cl_Jumps T.na_Jumps_grove (Es _ _ _ _ _) ?_;refine xq1 Z ⟨g.p,_,g.dx,_,_,Z,U.gr.hp,T.cl_Grove,T.na_Grove_levels,EL g,_,Z,g.lv,_,(n:Int),.int ((l+2:Nat):Int),Z,Z,SqL.of U.gr.lv,Ah (by rw[B8,eq,<-el];rfl),?_⟩;refine xq1 Z (xq1 Z ⟨g.p,_,g.dx,_,_,Z,U.gr.hp,T.cl_Grove,T.na_Grove_bares,Jh g,_,Z,g.br,_,((l+2:Nat):Int),.int (bareN (l+2):Int),Z,Z,SqL.of U.br,Ah (bareJ A0),Z,_,Z,?_⟩);refine GD (λhc=>?_) (λhc=>?_)
  .have ei:n=bareN (l+2):=by
    have:=X7 hc;injection this with this
    exact Z9 this
   refine xwf Z Z U.gr.hp T.cl_Grove T.na_Grove_bares (Jh g) (xwb Z Z Z (xq4 Z Z (SqL.of U.br) (by rw[show((l+2:Nat):Int)-1=((l+1:Nat):Int) by lia];exact Ah (bareJ A0)) ?_));refine k (bareN (l+1)) G H 0 (λb o e _ _ _ _ _=>e) (hz.mono A0) (AG.refl U.ok) ?_ (Up.refl _ _ _ _);rw[ei];exact JR.bare U.ok U.bs U.rest A0 he
  refine xq1 Z ⟨Z,(xq1 Z ?_)⟩;cases l with
  |zero =>
   refine(show ∀{b:Bool}{A B:Prop},b=true->A->(if b=true then A else B)from λh x=>by rw[h];exact Cg x) (Z5 Z) ?_;have e0:e=0:=by lia
   subst e0;obtain⟨ff,cn⟩:=hz.cn;obtain⟨kc,c1,c2⟩:=cn.ce;have sm:=cn.sum U.ok fin U.me.len;refine xwn Z Z U.hp (noJ_mid _ _ _ _ _) Z ⟨p,dx,mem,pr,g,G,N,kc.length,r,m,n,Z,U.tc c1,hl,by lia,by lia,λk' G' H' fr bn go jr=>?_⟩;obtain⟨z1,z2⟩:=hz.mid cn c1 fr bn go;exact k k' G' H' 1 fr.j (z1.mono A0) go jr (z2 _)
  |succ l =>
   refine(show ∀{b:Bool}{A B:Prop},b=false->B->(if b=true then A else B)from λh x=>by rw[h];exact AX x) (Z8 (by intro z;injection z with z;have z:((l+1+2:Nat):Int)=2:=z;lia)) ?_;have hL:l<L:=by lia
   have p1:2^(l+1)=2^l*2:=F6 ..;refine xw2 Z Z (xq2 Z Z (xq2 Z Z (xq1 Z ?_)));refine GD (λhc=>?_) (λhc=>?_)
   .have ar:e<=l:=by
     have hc:=X7 hc;have hc:(e:Int)<((l+1+2:Nat):Int)-2:=hc;lia
    obtain⟨q9,be,b8⟩:=id hl;have b0:l<=45:=by have:=(U.ok.lev be).2;lia
    refine xw2 Z Z ⟨g,G,n,l+1,Z,U.gr,U.ok,hl,by lia,by lia,λA9 ks G3 H3 az bl ag a9 l9 nine=>?_⟩;have a3:=hz.fr az bl ag;have ah:=a3.jw;have ca:=a3.sz fin
    skip
    have bc:∀(t k:Nat),ks[t]?=some k->Ak G3 k ((l+2:Nat):Int):=λt k e=>by
     have ht:=(B7.mp e).1;obtain⟨k',e1,e2,_⟩:=nine (t%3) (t/3) A0 A0;rw[show t%3+3*(t/3)=t by lia,e]at e1;cases e1;exact e2
    have bz:∀(t k:Nat),ks[t]?=some k->Κ l e (Cr G3 (l+2) k):=λt k e=>by
     have ht:=(B7.mp e).1;obtain⟨k',e1,_,v⟩:=nine (t%3) (t/3) A0 A0;rw[show t%3+3*(t/3)=t by lia,e]at e1;cases e1;exact fin.ext (cl.nine1 a4 ar (t%3) (t/3) A0 A0) λx y hx hy=>(v x y hx hy).symm
    refine⟨A9,Z,⟨_,SqL.of a9⟩,?_⟩;refine Et (xs:=ks.map λ(k:Nat)=>V.int (k:Int)) (λi I H5=>∃(G5:Gv)(ys:J_)(c5:Nat),I=ys.map toV/\ys.length=i/\FrJ g m H3 H5/\JZ a H5 g G5 Κ N (b+5) p dx mem pr r m/\AG G3 G5 c5/\Up (l+1) G3 H3 H5 m/\Paired (λk y=>JR r G5 e k y) (ks.take i) ys) ⟨G3,[],0,Z,Z,λb o e _ _ _ _ _=>e,a3,AG.refl ah.ok,Up.refl _ _ _ _,.nil⟩ (λi I H5 _ z=>by obtain⟨_,_,_,_,_,fr,_⟩:=z;exact SqL.of ((fr.kps ah.gr ah.bs.long ah.me) _ _ a9 (.lst (by rw[B6];lia)))) ?_ ?_
    .rintro i v I H5 ev aq;apply AO;intro R c;obtain⟨G5,ys,c5,rfl,ly,a0,ai,O,a5,au⟩:=aq;apply c;clear c R;rw[B8]at ev;obtain⟨k5,ek,rfl⟩:=D6.mp ev;have i9:i<9:=by have:=(B7.mp ek).1;lia
     have a2:=ai.jw
     skip
     refine⟨⟨[some (.int (k5:Int))],Z,Z⟩,by rw[B6,ly];exact T8 i9 A4,GO (xwn Z Z a2.hp (MB _ _ _ _ _) Z (xq1 Z ⟨p,dx,mem,pr,g,G5,Κ,N,b+5,r,m,k5,l,e,Z,ai,fin,cl,O.lev (bc i k5 ek),hL,ar,(by rw[CI ah.ok O (bc i k5 ek)];exact bz i k5 ek),by lia,λy G6 H6 c6 bh an a7 bw b3=>⟨G6,ys++[y],_,by rw[C6];rfl,by rw[C3,ly];rfl,a0.trans bh,an,O.trans a7,a5.trans b3 O,?_⟩⟩))⟩;rw[J3,ek,P9];exact A2b (Paired.imp (λk y z=>z.goes a2.ok a7) au) bw
    rintro I H5 ao A5 bj;apply AO;intro R c;obtain⟨G5,ys,c5,rfl,ly,a0,ai,O,a5,au⟩:=ao;have a2:=ai.jw;apply c;clear c R;rw[B6,l9]at ly;rw[B6,L6]at au;have nj:=QZ ah.ok O nine au;apply AO;intro R c;obtain⟨y0,y1,y2,y3,y4,y5,y6,y7,y8,rfl⟩:=Wq ys ly;apply c;clear c R
    skip
    generalize dP:upd H5 A5 _=H6;obtain⟨s5,ba⟩:=alc bj dP;have an:=ai.same s5;have bo:=an.jw;have bf:FrJ g m H H6:=(Fr.j az).trans (a0.trans (Ay.j s5));refine xwm Z Z bo.gr.hp (BM g) ?_;refine xq1 Z ⟨A5,y0,y1,y2,y3,y4,y5,y6,y7,y8,Z,ba,λMM t0 t1 t2 t3 H7 s7 hM bp bq bt bu=>?_⟩;have aj:=an.same s7;have X:=aj.jw;refine⟨MM,Z,⟨_,SqL.of hM⟩,?_⟩;have four:=Py nj bp bq bt bu;have aa:=X.ok;refine Et (xs:=[t0,t1,t2,t3].map V.ref) (λi I H8=>∃(W:Gv)(zs:J_),I=zs.map toV/\zs.length=i/\Fr g H7 H8/\JZ a H8 g W Κ N (b+5+i) p dx mem pr r m/\AG G5 W i/\∀(t z:Nat),zs[t]?=some z->Ak W z ((l+1:Nat):Int)/\Vw W (Bp r (2^e) (Cr G (l+1+2) n)) (l+1) z (2^(l+1)*(t%2)+2^(l+1)) (2^(l+1)*(t/2)+2^(l+1))) ⟨G5,[],Z,Z,Fr.refl g H7,aj,AG.refl aa,λt z e=>(nomatch e)⟩ (λi I H8 _ z=>by obtain⟨_,_,_,_,fr,_⟩:=z;exact SqL.of ((fr.kps X.gr X.bs.long) _ _ hM (.lst (by show 4<=50;decide)))) ?_ ?_
    .rintro i v I H8 ev aq;apply AO;intro R c;obtain⟨W,zs,rfl,lz,ab,D,C,vz⟩:=aq;have ac:=D.jw;have av:=D.sz fin;apply c;clear c R;rw[B8]at ev;obtain⟨tt,et,rfl⟩:=D6.mp ev;have i4:i<4:=(B7.mp et).1;apply AO;intro R c;obtain⟨f0,f1,f2,f3,bv,⟨m0,m1,m2,m3⟩,w0,w1,w2,w3⟩:=four i tt et;apply c;clear c R
     skip
     have qg:∀{f:Nat}(j:Nat),Ak G5 f ((l+1:Nat):Int)->qO W f j=qO G5 f j:=λ{f} j h=>by
      obtain⟨q,e,_⟩:=h;unfold qO;rw[C.get e,e]
     refine⟨⟨[some (.ref tt)],Z,Z⟩,by rw[B6,lz];exact T8 i4 A4,GO (xw2 Z Z ⟨g,W,tt,f0,f1,f2,f3,l,Z,ac.gr,ac.ok,(ab.kps X.gr X.bs.long) _ _ bv (.inl .tup),⟨C.lev m0,C.lev m1,C.lev m2,C.lev m3⟩,by lia,by lia,λz G9 H9 as bm S e9=>⟨G9,zs++[z],by rw[C6];rfl,by rw[C3,lz];rfl,ab.trans as,D.fr as bm S,C.trans S,?_⟩⟩)⟩;rw[qg 3 m0,qg 2 m1,qg 1 m2,qg 0 m3]at e9;refine SH lz (λt z' e=>?_) ?_
     .obtain⟨q1,q2⟩:=vz t z' e;exact⟨S.lev q1,q2.goes ac.ok S q1⟩
     .exact⟨⟨_,e9,by show(l:Int)+1=((l+1:Nat):Int);lia⟩,(met_view aa (C.trans S) m0 m1 m2 m3 w0 w1 w2 w3 e9).at' A0 A0⟩
    rintro I H8 ao A8 a1;apply AO;intro R c;obtain⟨W,zs,rfl,lz,ab,D,C,vz⟩:=ao;have ac:=D.jw;have av:=D.sz fin;apply c;clear c R;apply AO;intro R c;obtain⟨z0,z1,z2,z3,rfl⟩:=Qc zs lz;apply c;clear c R;have bi:AG G5 W 4:=C;have D:JZ a H8 g W Κ N (b+5+4) p dx mem pr r m:=D;have av:=D.sz fin;have Y:=(ag.trans O).trans bi;have ay:FrJ g m H H8:=bf.trans ((Ay.j s7).trans (Fr.j ab));generalize dX:upd H8 A8 _=H9;obtain⟨s8,am⟩:=alc a1 dX;refine⟨A8,(xq1 Z (.inl ⟨SqL.of am,λu hu=>?_⟩))⟩;have ad:=D.same s8;have af:=ad.jw;obtain⟨q0,x0⟩:=vz 0 z0 Z;obtain⟨q1,x1⟩:=vz 1 z1 Z;obtain⟨q2,x2⟩:=vz 2 z2 Z;obtain⟨q3,x3⟩:=vz 3 z3 Z
    skip
    refine lnk (⟨.refl _ _,λe=>e,af.gr,.refl af.ok⟩:Ln a g H9 W 0 H9 W) hu ⟨q0,q1,q2,q3⟩ A0 A0 λz aw ax ae M ak=>?_;refine k z aw ax _ (ay.trans ((Ay.j s8).trans (Fr.j ae.fr))) ((ad.fr ae.fr ae.gr M).mono A0) (Y.trans M) ?_ (((((hz.upF (l+1) az).trans a5 ag).trans (ai.upS _ s5) (ag.trans O)).trans (an.upS _ s7) (ag.trans O)).trans (((aj.upF _ ab).trans (D.upS _ s8) C).trans (ad.upF _ ae.fr) C) (ag.trans O));have al:=Y.trans M;refine Vw.jr (al.lev hl) he ⟨_,ak,by show((l+1:Nat):Int)+1=((l+1+1:Nat):Int);lia⟩ ?_;rw[CI U.ok al hl];exact NI af.ok M q0 q1 q2 q3 (x0.at' A0 A0) (x1.at' A0 A0) (x2.at' A0 A0) (x3.at' A0 A0) ak
   .have ar:e=l+1:=by
     have hc:¬(e:Int)<((l+1+2:Nat):Int)-2:=λz=>hc (Z5 z);lia
    subst ar;refine xwm Z Z U.gr.hp (BM g) ?_;refine xwn Z Z U.hp (noJ_half _ _ _ _ _) Z (xq1 Z ⟨p,dx,mem,pr,g,G,Κ,N,b,r,m,n,l,Z,hz,fin,cl,hl,hL,a4,by lia,λA7 f0 f1 f2 f3 G5 H7 i5 bg aj O b4 bb b1 b6=>?_⟩);apply AO;intro R c;obtain⟨m0,m1,m2,m3⟩:=b1;obtain⟨w0,w1,w2,w3⟩:=b6;apply c;clear c R
    skip
    refine⟨A7,Z,⟨_,SqL.of bb⟩,?_⟩;have X:=aj.jw;have aa:=X.ok;have four:∀(t f:Nat),[f0,f1,f2,f3][t]?=some f->Ak G5 f ((l+2:Nat):Int)/\Vw G5 (Bp r (2^l) (Cr G (l+1+2) n)) (l+2) f (2^(l+1)*(t%2)+2^l) (2^(l+1)*(t/2)+2^l):=λt f et=>by
     match t,et with
     |0,et=>cases et;exact⟨m0,w0.at' A0 A0⟩
     |1,et=>cases et;exact⟨m1,w1.at' A0 A0⟩
     |2,et=>cases et;exact⟨m2,w2.at' A0 A0⟩
     |3,et=>cases et;exact⟨m3,w3.at' A0 A0⟩
     |j+4,et=>cases et
    have bd:Bp r (2^l) (Bp r (2^l) (Cr G (l+1+2) n))=Bp r (2^(l+1)) (Cr G (l+1+2) n):=by
     rw[<-SW,p1,Nat.mul_two]
    refine Et (xs:=[f0,f1,f2,f3].map toV) (λi I H8=>∃(W:Gv)(zs:J_)(c8:Nat),I=zs.map toV/\zs.length=i/\FrJ g m H7 H8/\JZ a H8 g W Κ N (b+9) p dx mem pr r m/\AG G5 W c8/\Up (l+1) G5 H7 H8 m/\∀(t z:Nat),zs[t]?=some z->Ak W z ((l+1:Nat):Int)/\Vw W (Bp r (2^(l+1)) (Cr G (l+1+2) n)) (l+1) z (2^(l+1)*(t%2)+2^(l+1)) (2^(l+1)*(t/2)+2^(l+1))) ⟨G5,[],0,Z,Z,λb o e _ _ _ _ _=>e,aj,AG.refl aa,Up.refl _ _ _ _,λt z e=>(nomatch e)⟩ (λi I H8 _ z=>by obtain⟨_,_,_,_,_,fr,_⟩:=z;exact SqL.of ((fr.kps X.gr X.bs.long X.me) _ _ bb (.lst (by show 4<=50;decide)))) ?_ ?_
    .rintro i v I H8 ev aq;apply AO;intro R c;obtain⟨W,zs,c8,rfl,lz,ab,D,C,a6,vz⟩:=aq;have ac:=D.jw;have av:=D.sz fin;apply c;clear c R;rw[B8]at ev;obtain⟨ff,et,rfl⟩:=D6.mp ev;have i4:i<4:=(B7.mp et).1;obtain⟨mf,wf⟩:=four i ff et
     skip
     refine⟨⟨[some (toV ff)],Z,Z⟩,by rw[B6,lz];exact T8 i4 A4,GO (xwn Z Z ac.hp (MB _ _ _ _ _) Z (xwb Z Z Z ⟨p,dx,mem,pr,g,W,Κ,N,b+9,r,m,ff,l,l,(show [V.ref p,V.int (ff:Int),V.int (((l+1:Nat):Int)-1)]=[V.ref p,V.int (ff:Int),V.int (l:Int)] by rw[show((l+1:Nat):Int)-1=(l:Int) by lia]),D,fin,cl,C.lev mf,hL,C0 l,(by rw[CI aa C mf];exact fin.ext (cl.four a4 (i%2) (i/2) A0 A0) λx y hx hy=>(wf x y hx hy).symm),by lia,λz G9 H9 c9 as ad S bx b5=>⟨G9,zs++[z],_,by rw[C6];rfl,by rw[C3,lz];rfl,ab.trans as,ad,C.trans S,a6.trans b5 C,?_⟩⟩))⟩;refine SH lz (λt z' e=>?_) ?_
     .obtain⟨q1,q2⟩:=vz t z' e;exact⟨S.lev q1,q2.goes ac.ok S q1⟩
     .obtain⟨r1,_,r3⟩:=bx.view ((C.trans S).lev mf) (wf.goes aa (C.trans S) mf);rw[bd]at r3;exact⟨r1,r3.at' A0 A0⟩
    rintro I H8 ao A8 a1;apply AO;intro R c;obtain⟨W,zs,c8,rfl,lz,ab,D,C,a6,vz⟩:=ao;have ac:=D.jw;have av:=D.sz fin;apply c;clear c R;apply AO;intro R c;obtain⟨z0,z1,z2,z3,rfl⟩:=Qc zs lz;apply c;clear c R;have Y:=O.trans C;have ay:FrJ g m H H8:=bg.trans ab;generalize dX:upd H8 A8 _=H9;obtain⟨s8,am⟩:=alc a1 dX;refine⟨A8,(xq1 Z (.inl ⟨SqL.of am,λu hu=>?_⟩))⟩;have ad:=D.same s8;have af:=ad.jw;obtain⟨q0,x0⟩:=vz 0 z0 Z;obtain⟨q1,x1⟩:=vz 1 z1 Z;obtain⟨q2,x2⟩:=vz 2 z2 Z;obtain⟨q3,x3⟩:=vz 3 z3 Z
    skip
    refine lnk (⟨.refl _ _,λe=>e,af.gr,.refl af.ok⟩:Ln a g H9 W 0 H9 W) hu ⟨q0,q1,q2,q3⟩ A0 A0 λz aw ax ae M ak=>?_;refine k z aw ax _ (ay.trans ((Ay.j s8).trans (Fr.j ae.fr))) ((ad.fr ae.fr ae.gr M).mono A0) (Y.trans M) ?_ ((b4.trans a6 O).trans ((D.upS _ s8).trans (ad.upF _ ae.fr) (AG.refl ac.ok)) Y);have al:=Y.trans M;refine Vw.jr (al.lev hl) he ⟨_,ak,by show((l+1:Nat):Int)+1=((l+1+1:Nat):Int);lia⟩ ?_;rw[CI U.ok al hl];exact NI af.ok M q0 q1 q2 q3 (x0.at' A0 A0) (x1.at' A0 A0) (x2.at' A0 A0) (x3.at' A0 A0) ak
theorem ok_recB{L d:Nat}(F:Fun K "reckoned" "Jumps.reckoned" Dk f fd)(T:Top K mg a)(dC:BJ P w K mg base CX0 d a.c_Jumps "fresh" QJ (UG a L)):AN P w K mg base CX0 (d+1) f fd QJ (GQ a L):=by
 refine F.ok Ee (λvs H Q E h=>?_) (λae A ac s H vs Q E hr h=>?_)
 .apply AO;intro j c;obtain⟨p,dx,mem,pr,g,G,Κ,N,b,r,m,n,l,e,rfl,_⟩:=h;apply c;clear c j;rfl
 .apply AO;intro j c;obtain⟨p,dx,mem,pr,g,G,Κ,N,b,r,m,n,l,e,rfl,Y,fin,cl,U,hL,he,W,few,k⟩:=h;have u:=Y.jw;have sz:=Y.sz fin;apply c;clear c j;obtain⟨q,eq,el⟩:=id U;have aj:=(u.ok.lev eq).2;have aa:e<m.ds.length:=by rw[u.me.len];lia
  obtain⟨d,C⟩:∃d,m.ds[e]?=some d:=⟨m.ds[e]'aa,C5 _⟩
  apply AO;intro j c;obtain⟨kv,hd,dl,dk,dv⟩:=u.me.sq e d C;apply c;clear c j;refine⟨_,(Ab (Ao (i:=3) Ee.nd Z O_9 (JC (DV hr) (Ai Aw (AB (pv 0) Z) (pv 2) R_9) (pv 1) ⟨Z,Z,Z,Z⟩)) (Ab (AQ (Az Je (pv 3) DK (AD _)) (Ab (Ao (i:=3) Ee.nd Z O_9 (AC (pv 0) dC (rm hr) Am (Aa (pv 1) (Aa (pv 2) Ac)))) (Af (Fz (DV hr) (Ai Aw (AB (pv 0) Z) (pv 2) R_9) (pv 1) (pv 3) Z))) Ax) (Af (Au (pv 3))))),?_⟩
  try dsimp only[cxK]
  have O:atI (m.ds.map V.ref) (e:Int)=some (.ref d):=Ah (by rw[B8,C];rfl);refine xwf Z Z u.hp T.cl_Jumps T.na_Jumps_known_squares (jf5_ks _ _ _ _ _) (xwi Z Z Z (SqL.of u.me.l) O ⟨d,Z,.inl ⟨_,.inl hd⟩,(xq1 Z ⟨_,Jm.k (k:=Sum.inl (n:Int)) hd,?_⟩)⟩);apply MG (fun σ M=>∃(x:Nat)(B:Gv),σ=[some (.ref p),some (.int (n:Int)),some (.int (e:Int)),some (.int (x:Int))]/\FrJ g m H M/\JZ a M g B Κ N b p dx mem pr r m/\(∃i,AG G B i)/\JR r B e n x/\Up (l+1) G H M m)
  .intro y;refine xq1 Z ⟨Z,(xq1 Z ?_)⟩;cases ev:Bo kv (Sum.inl (n:Int))with
   |some v =>
    obtain⟨x,rfl,jr⟩:=dv n v ev;exact AX (y _ _ ⟨x,G,Z,λb o e _ _ _ _ _=>e,Y,⟨0,AG.refl u.ok⟩,jr,Up.refl _ _ _ _⟩)
   |none =>
    refine Cg ?_;refine xwn Z Z u.hp (Yy _ _ _ _ _) Z (xq1 Z ⟨p,dx,mem,pr,g,G,Κ,N,b,r,m,n,l,e,Z,Y,fin,cl,U,hL,he,W,few,λx B H' i' fr t go jr up=>?_⟩);apply AO;intro j c;have I:=t.jw;obtain⟨X,D,ag,af,ah⟩:=I.me.sq e d C;apply c;clear c j;refine xw2 Z Z (xq5 I.hp T.cl_Jumps T.na_Jumps_known_squares (jf5_ks _ _ _ _ _) (xwi Z Z Z (SqL.of I.me.l) O (xq1 Z ⟨d,(xq1 Z ⟨Mb.k (k:=Sum.inl (n:Int)) D (J8 (show X.length<=9000000 by lia) A4),?_⟩)⟩)));have ab:=up e n l U (C0 l) (λd2 ai R S=>by rw[C]at R;cases R;rw[hd]at S;cases S;exact ev) d X C D;obtain⟨z1,z2⟩:=t.put fin C D ab (go.lev U) (by rw[CI u.ok go U];exact W) jr;exact y _ _ ⟨x,B,Z,λb o e n1 n2 n3 n4 n5=>by rw[As (λz=>n5 (by rw[z];exact D5 C))];exact fr _ _ e n1 n2 n3 n4 n5,z1,⟨i',go⟩,jr,(up.mono (S0 l)).trans z2 go⟩
  rintro σ M ad;apply AO;intro j c;obtain⟨x,B,rfl,fr,t,⟨i',go⟩,jr,up⟩:=ad;apply c;clear c j;exact xq1 Z (k x B M i' fr t go jr up)
theorem Wp{f M I:R_}{x q o:E_}(F:Fun K "reckoned" "Jumps.reckoned" Dk f x)(A:Fun K "four_halfway" "Jumps.four_halfway" Bq M q)(z:Fun K "fresh" "Jumps.fresh" Cf I o)(T:Top K mg a)(B:Qr K a.c_Jumps "reckoned" f)(y:Ci K x QJ [])(j:Qr K a.c_Jumps "four_halfway" M)(d:Ci K q QJ [])(i:Qr K a.c_Jumps "fresh" I)(c:Ci K o QJ [])(C:BJ P w K mg base CX0 7 a.c_Jumps "middle_after" JP (RD a))(t:BJ P w K mg base CX0 2 a.c_Grove "linked" AU (DI a))(u:Cal P w K mg base CX0 3 "nine_parts" Lf (OQ a))(v:Cal P w K mg base CX0 1 "fours_of" Va Mj)(D:Cal P w K mg base CX0 3 "met_in_the_middle" Cm (VU a)):∀L,AN P w K mg base CX0 (10+3*L) f x QJ (GQ a L)
|0=>(AN.no (k:=10)).imp λvs H Q E h=>by
 apply AO;intro O s;obtain⟨p,dx,mem,Y,g,G,Κ,N,b,r,m,n,l,e,_,_,_,_,_,W,_⟩:=h;apply s;clear s O;exact absurd W (L8 l)
|L+1=>by
 have X:=Wp F A z T B y j d i c C t u v D L;have M1:BJ P w K mg base CX0 (10+3*L) a.c_Jumps "reckoned" QJ (GQ a L):=⟨⟨_,_,X,B,y⟩,T.cl_Jumps⟩
 have U:=ok_halfA A T A0 u v t M1;have R:BJ P w K mg base CX0 (10+3*L+1) a.c_Jumps "four_halfway" QJ (RF a L):=⟨⟨_,_,U,j,d⟩,T.cl_Jumps⟩
 have V:=ok_freA z T A0 C t u v D M1 R;have S:BJ P w K mg base CX0 (10+3*L+2) a.c_Jumps "fresh" QJ (UG a (L+1)):=⟨⟨_,_,V,i,c⟩,T.cl_Jumps⟩
 exact ok_recB F T S
theorem Yt{L d:Nat}(F:Fun K "after" "Jumps.after" Ia f fd)(T:Top K mg a)(R:4<=d)(B:BJ P w K mg base CX0 4 a.c_Jumps "check_jump" QJ (spCj a))(z:BJ P w K mg base CX0 d a.c_Jumps "reckoned" QJ (GQ a L)):AN P w K mg base CX0 (d+1) f fd QJ (GQ a L):=by
 refine F.ok Pb (λvs H Q E h=>?_) (λC A u s H vs Q E y h=>?_)
 .apply AO;intro j c;obtain⟨p,dx,mem,v,g,G,Κ,N,b,r,m,n,l,e,rfl,_⟩:=h;apply c;clear c j;rfl
 .apply AO;intro j c;obtain⟨p,dx,mem,v,g,G,Κ,N,b,r,m,n,l,e,rfl,o,fin,D,x,M,O,t,few,k⟩:=h;have i:=o.jw;have sz:=o.sz fin;obtain⟨q,eq,I⟩:=id x;apply c;clear c j;refine⟨_,(Ab (BC (AC (pv 0) B (rm y) Am (Aa (pv 1) (Aa (pv 2) Ac)))) (Af (Au (AC (pv 0) z (rm y) Am (Aa (pv 1) (Aa (pv 2) Ac)))))),?_⟩
  try dsimp only[cxK]
  refine xwn Z Z i.hp (Yz _ _ _ _ _) Z (xq1 Z ⟨p,dx,g.p,mem,v,m.l,m.kc,g,G,n,e,q,Z,i.hp,i.gr,eq,by rw[I];lia,?_⟩);exact xwn Z Z i.hp (MB _ _ _ _ _) Z (xq1 Z ⟨p,dx,mem,v,g,G,Κ,N,b,r,m,n,l,e,Z,o,fin,D,x,M,O,t,few,k⟩)
end
theorem CF(l:Nat):(2:Int)^(l+1)=2^l+2^l:=by rw[R4];lia
def Ev(x y w h r:Int):Prop:=-r<=x/\-r<=y/\x+w<=r/\y+h<=r
instance(x y w h r:Int):Decidable (Ev x y w h r):=by unfold Ev;infer_instance
theorem lies_b(x y w h r:Int):(decide (-r<=x) && (decide (-r<=y) && (decide (x+w<=r) && decide (y+h<=r))))=decide (Ev x y w h r):=by
 rw[R6];simp only[P8,A6g];exact Iff.rfl
structure Wid(G:Gv)(n f w:Nat):Prop where
ex:∃(q:Sq)(x y z v a b c d:Nat),DQ G n f q x y z v/\G[a]?=some ⟨[(bareN n:Int),(bareN n:Int),(bareN n:Int),(x:Int)],(n:Int)+1⟩/\G[b]?=some ⟨[(bareN n:Int),(bareN n:Int),(y:Int),(bareN n:Int)],(n:Int)+1⟩ /\
 G[c]?=some ⟨[(bareN n:Int),(z:Int),(bareN n:Int),(bareN n:Int)],(n:Int)+1⟩/\G[d]?=some ⟨[(v:Int),(bareN n:Int),(bareN n:Int),(bareN n:Int)],(n:Int)+1⟩/\G[w]?=some ⟨[(a:Int),(b:Int),(c:Int),(d:Int)],(n:Int)+2⟩
theorem Wid.lev{G:Gv}{n f w:Nat}(h:Wid G n f w):Ak G w ((n+2:Nat):Int):=by
 obtain⟨q,x,y,z,v,a,b,c,d,nd,g,i,j,k,e⟩:=h.ex;exact⟨_,e,by show(n:Int)+2=_;lia⟩
theorem Wid.app{G e:Gv}{k n f w:Nat}(go:AG G e k)(h:Wid G n f w):Wid e n f w:=by
 obtain⟨q,x,y,z,v,a,b,c,d,nd,g,i,j,l,m⟩:=h.ex;exact⟨q,x,y,z,v,a,b,c,d,nd.app go,go.get g,go.get i,go.get j,go.get l,go.get m⟩
theorem Eu{G r:Gv}(e:G=G0++r){n:Nat}(h:n<=48):Ak G (bareN n) (n:Int):=by
 rw[e];exact(g0_lev n h).app
theorem bareL_at'{l:Nat}(h:l<=48):((Dh 48).map V.int)[l]?=some (.int (bareN l:Int)):=by
 unfold Dh;rw[B8,B8,N7 A0];rfl
section
variable{P:N_}{w:Q_}{K:O_}{mg:C_}{base:T_}{a:Ad}
inductive SpLie(vs:List V)(H:Hp)(Q:VK):Prop
|mk (t:R_) (x y w h r:Int) (_:vs=[.ref t,.int r]) (_:H t=some (.tup [.int x,.int y,.int w,.int h])) (_:Q (.bl (decide (Ev x y w h r))) H):SpLie vs H Q
def QV:Sp:=λvs H Q _=>SpLie vs H Q
theorem ok_lie(F:Fun K "lies_within" "lies_within" GV f fd)(T:Top K mg a):AN P w K mg base CX0 1 f fd QE QV:=by
 refine F.ok OX D_9 λd A c s H vs Q E p h=>?_
 obtain⟨t,x,y,q,o,r,rfl,b,k⟩:=h;rw[<-lies_b]at k;refine⟨_,(Af (Au (JD (Em JL (Fd CU (pv 1)) (Ai Al (pv 0) Ae R_9) (AD _)) (JD (Em JL (Fd CU (pv 1)) (Ai Al (pv 0) Ae R_9) (AD _)) (JD (Em JL (AA AZ (Ai Al (pv 0) Ae R_9) (Ai Al (pv 0) Ae R_9)) (pv 1) (AD _)) (LR (Em JL (AA AZ (Ai Al (pv 0) Ae R_9) (Ai Al (pv 0) Ae R_9)) (pv 1) (AD _)))))))),?_⟩
 try dsimp only[cxK]
 refine xw3 Z Z Z (xq4 Z Z (SqT.of b) (Ah (j:=0) Z) (xq2 Z Z (SJ (λ_ l e=>?_) k)));refine xw3 Z Z Z (xq4 Z Z (SqT.of b) (Ah (j:=1) Z) (xq2 Z Z (SJ (λ_ m g=>?_) e)));refine xwi Z Z Z (SqT.of b) (Ah (j:=0) Z) (xwi Z Z Z (SqT.of b) (Ah (j:=2) Z) (xq2 Z Z (xwb Z Z Z (SJ (λ_ n i=>?_) g))));exact xwi Z Z Z (SqT.of b) (Ah (j:=1) Z) (xwi Z Z Z (SqT.of b) (Ah (j:=3) Z) (xq2 Z Z (xwb Z Z Z i)))
inductive WS(a:Ad)(vs:List V)(H:Hp)(Q:VK):Prop
|mk (g:GA) (G:Gv) (i n:Nat) (_:vs=[.ref g.p,.int i]) (_:AM a H g G) (_:Ak G i ((n+1:Nat):Int)) (_:n<48) (_:Q (.int (2^n)) H):WS a vs H Q
def GF(a:Ad):Sp:=λvs H Q _=>WS a vs H Q
theorem ok_reach(F:Fun K "reach_of" "reach_of" LH f fd)(T:Top K mg a)(d:BJ P w K mg base CX0 3 a.c_Grove "level_of" JP (Mi a)):AN P w K mg base CX0 4 f fd UX (GF a):=by
 refine F.ok Tg D_9 λj A b s H vs Q E o h=>?_
 obtain⟨g,G,i,n,rfl,c,⟨q,e,l⟩,p,k⟩:=h;refine⟨_,(Af (Au (AA Jd Ae (AA Bm (AC (pv 0) d (rm o) Am (Aa (pv 1) Ac)) Ae)))),?_⟩
 try dsimp only[cxK]
 have m:q.lev=(n:Int)+1:=by rw[l];lia
 refine xwn Z Z c.hp (DP g) Z ⟨g,G,i,q,Z,c,e,(xq2 Z Z (xq2 Z Z ⟨⟨by lia,by lia,by decide⟩,?_⟩))⟩;show Q (.int (1*2^(q.lev-1).toNat)) H;rw[RA n m];exact k
inductive Ya(a:Ad)(vs:List V)(H:Hp)(Q:VK):Prop
|mk (g:GA) (G:Gv) (_:vs=[.ref g.p]) (_:AS a H g G) (_:Q (.int (bareN 1:Int)) H):Ya a vs H Q
def Oz(a:Ad):Sp:=λvs H Q _=>Ya a vs H Q
theorem ok_bareF(F:Fun K "bare_field" "bare_field" IN f fd)(T:Top K mg a):AN P w K mg base CX0 1 f fd Sb (Oz a):=by
 refine F.ok Qx D_9 λd A b s H vs Q E e h=>?_
 obtain⟨g,G,rfl,c,k⟩:=h;exact⟨_,(Af (Au (Ai Aw (AB (pv 0) Z) (BT Z T.k_LEAST_LEVEL) R_9))),(xwf Z Z c.at'.hp T.cl_Grove T.na_Grove_bares (Jh g) (xq4 Z Z (SqL.of c.br) (Ah (j:=1) (bareL_at' A0)) k))⟩
inductive SpWid(a:Ad)(vs:List V)(H:Hp)(Q:VK):Prop
|mk (g:GA) (G:Gv) (f n:Nat) (_:vs=[.ref g.p,.int f]) (_:AS a H g G) (_:Ak G f ((n+1:Nat):Int)) (_:n<47) (_:G.length<8900000) (_:∀(w:Nat)(G':Gv)(H':Hp),Fr g H H'->AM a H' g G'->AG G G' 5->Wid G' n f w->Q (.int w) H'):SpWid a vs H Q
def VP(a:Ad):Sp:=λvs H Q _=>SpWid a vs H Q
theorem ok_wid(F:Fun K "widened" "widened" Nc f fd)(T:Top K mg a)(a9:BJ P w K mg base CX0 3 a.c_Grove "level_of" JP (Mi a))(M:BJ P w K mg base CX0 2 a.c_Grove "linked" AU (DI a)):AN P w K mg base CX0 4 f fd Lf (VP a):=by
 refine F.ok IG D_9 λar A aq s H vs Q E L h=>?_
 obtain⟨g,G,f',n,rfl,d,hl,as,few,k⟩:=h;obtain⟨q,x,y,z,v,nd⟩:=Bk d.ok hl;have lq:=nd.lev;obtain⟨ts,h3,h4⟩:=d.at'.pt;obtain⟨t,et,D⟩:=PairedM.get h4 nd.g;have D:H t=some (.tup [.int x,.int y,.int z,.int v]):=by
  have D:H t=some (.tup (q.parts.map V.int)):=D;rw[nd.ps]at D;exact D
 obtain⟨r,e0⟩:=d.g0;have m:=Eu e0 (n:=n) A0;refine⟨_,(Ab (Ao (i:=2) IG.nd Z O_9 (AC (pv 0) a9 (rm L) Am (Aa (pv 1) Ac))) (Ab (AQ (PW.pt (Gd (Az GN (pv 2) (BT Z T.k_LEAST_LEVEL) (AD _)) (El (Az De (pv 2) (BT Z T.k_TOP_LEVEL) (AD _))))) (Af AY) Ax) (Ab (Ao (i:=3) IG.nd Z O_9 (Ai Aw (AB (pv 0) Z) (pv 1) R_9)) (Ab (Ao (i:=4) IG.nd Z O_9 (Ai Aw (AB (pv 0) Z) (AA Bm (pv 2) Ae) R_9)) (Af (Au (AC (pv 0) M (rm L) Am (AV (Aa (AC (pv 0) M (rm L) Am (AV (Aa (pv 4) (Aa (pv 4) (Aa (pv 4) (Aa (Ai Al (pv 3) Ae R_9) Ac)))) Ac)) (Aa (AC (pv 0) M (rm L) Am (AV (Aa (pv 4) (Aa (pv 4) (Aa (Ai Al (pv 3) Ae R_9) (Aa (pv 4) Ac)))) Ac)) (Aa (AC (pv 0) M (rm L) Am (AV (Aa (pv 4) (Aa (Ai Al (pv 3) Ae R_9) (Aa (pv 4) (Aa (pv 4) Ac)))) Ac)) (Aa (AC (pv 0) M (rm L) Am (AV (Aa (Ai Al (pv 3) Ae R_9) (Aa (pv 4) (Aa (pv 4) (Aa (pv 4) Ac)))) Ac)) Ac)))) Ac)))))))),?_⟩
 try dsimp only[cxK]
 refine xq1 Z ⟨g.p,g.dx,(xq1 Z ⟨d.at'.hp,DP g,(xq1 Z ⟨g,G,f',q,Z,d.at',nd.g,?_⟩)⟩)⟩;refine xwb Z Z Z (xq1 Z ?_);rw[Z8 (by lia:¬q.lev<1)];refine AX (xq1 Z ⟨Z,(xq1 Z ?_)⟩);rw[Z8 (by intro z;injection z with z;lia)];refine AX (xwf Z Z d.at'.hp T.cl_Grove T.na_Grove_parts (BX g) (xwi Z Z Z (SqL.of h3) (Ah (by rw[B8,et];rfl)) ?_));refine xwf Z Z d.at'.hp T.cl_Grove T.na_Grove_bares (Jh g) (xwb Z Z Z (xq4 Z Z (SqL.of d.br) (by rw[show q.lev-1=(n:Int) by lia];exact Ah (bareL_at' A0)) ?_));refine xq1 Z ⟨g.p,g.dx,(xq1 Z ⟨d.at'.hp,BM g,?_⟩)⟩;refine xq1 Z ⟨g.p,g.dx,(xq1 Z ⟨d.at'.hp,BM g,(xw3 Z Z Z (xwi Z Z Z (SqT.of D) (Ah (j:=0) Z) ⟨S_4,λt1 ah=>?_⟩))⟩)⟩;have s1:=AK (o:=.tup [.int (bareN n:Int),.int (bareN n:Int),.int (bareN n:Int),.int x]) ah;refine⟨g,G,t1,bareN n,bareN n,bareN n,x,(n:Int),Z,d.at'.same s1,d.ok,Ag,⟨m,m,m,nd.hx⟩,by lia,by lia,λU G1 H1 aa O e e1=>?_⟩;have f1:=(Ay.fr s1).trans aa;have am:=f1.tup d.at' D;have n1:=e.few;refine xwn Z Z O.hp (BM g) Z (xwj Z Z Z Z (SqT.of am) (Ah (j:=1) Z) (xq1 Z ⟨S_4,λt2 ai=>?_⟩));have s2:=AK (o:=.tup [.int (bareN n:Int),.int (bareN n:Int),.int y,.int (bareN n:Int)]) ai;refine⟨g,G1,t2,bareN n,bareN n,y,bareN n,(n:Int),Z,O.same s2,e.ok,Ag,⟨e.lev m,e.lev m,e.lev nd.hy,e.lev m⟩,by lia,by lia,λW G2 H2 ab R C e2=>?_⟩;have f2:=f1.trans ((Ay.fr s2).trans ab);have an:=f2.tup d.at' D;have n2:=C.few;have b:=e.trans C;refine xwn Z Z R.hp (BM g) Z (xwi Z Z Z (SqT.of an) (Ah (j:=2) Z) (xw2 Z Z ⟨S_4,λt3 aj=>?_⟩));have s3:=AK (o:=.tup [.int (bareN n:Int),.int z,.int (bareN n:Int),.int (bareN n:Int)]) aj;refine⟨g,G2,t3,bareN n,z,bareN n,bareN n,(n:Int),Z,R.same s3,C.ok,Ag,⟨b.lev m,b.lev nd.hz,b.lev m,b.lev m⟩,by lia,by lia,λX G3 H3 ac S u e3=>?_⟩;have f3:=f2.trans ((Ay.fr s3).trans ac);have ao:=f3.tup d.at' D;have n3:=u.few;have c:=b.trans u;refine xwn Z Z S.hp (BM g) Z (xq4 Z Z (SqT.of ao) (Ah (j:=3) Z) (xw3 Z Z Z ⟨S_4,λt4 ak=>?_⟩));have s4:=AK (o:=.tup [.int v,.int (bareN n:Int),.int (bareN n:Int),.int (bareN n:Int)]) ak;refine⟨g,G3,t4,v,bareN n,bareN n,bareN n,(n:Int),Z,S.same s4,u.ok,Ag,⟨c.lev nd.hw,c.lev m,c.lev m,c.lev m⟩,by lia,by lia,λY G4 H4 ad af l e4=>?_⟩;have f4:=f3.trans ((Ay.fr s4).trans ad);have n4:=l.few;have N:=c.trans l;refine⟨S_4,λt5 al=>?_⟩;have s5:=AK (o:=.tup [.int U,.int W,.int X,.int Y]) al;have E1:=(C.trans (u.trans l)).get e1;have E2:=(u.trans l).get e2;have E3:=l.get e3;refine⟨g,G4,t5,U,W,X,Y,(n:Int)+1,Z,af.same s5,l.ok,Ag,⟨⟨_,E1,Z⟩,⟨_,E2,Z⟩,⟨_,E3,Z⟩,⟨_,e4,Z⟩⟩,by lia,by lia,λw' G5 H5 ae ag B e5=>?_⟩;have I:=N.trans B;exact k w' G5 H5 (f4.trans ((Ay.fr s5).trans ae)) ag I ⟨q,x,y,z,v,U,W,X,Y,nd.app I,B.get E1,B.get E2,B.get E3,B.get e4,by rw[e5,show(n:Int)+1+1=(n:Int)+2 by lia]⟩
end
structure Os(G:Gv)(n i:Nat)(qs:L_)(ps:Nat->Nat->Nat):Prop where
node:∃q,DQ G (n+1) i q (qs 0) (qs 1) (qs 2) (qs 3)
sub:∀k,k<4->∃q,DQ G n (qs k) q (ps k 0) (ps k 1) (ps k 2) (ps k 3)
theorem Os.app{G a:Gv}{k n i:Nat}{c:L_}{b:Nat->Nat->Nat}(go:AG G a k)(h:Os G n i c b):Os a n i c b:=by
 obtain⟨q,nd⟩:=h.node;exact⟨⟨q,nd.app go⟩,λk d=>by obtain⟨q,nd⟩:=h.sub k d;exact⟨q,nd.app go⟩⟩
noncomputable def f4(x y z w:Nat)(k:Nat):Nat:=match k with|0=>x|1=>y|2=>z|_=>w
theorem deep_of{G:Gv}(ok:GOk G){n i:Nat}(h:Ak G i ((n+2:Nat):Int)):∃f e,Os G n i f e:=by
 obtain⟨q,x,y,z,w,nd⟩:=Bk ok (n:=n+1) h;obtain⟨_,o,p,r,s,b⟩:=Bk ok nd.hx;obtain⟨_,t,u,v,A,c⟩:=Bk ok nd.hy;obtain⟨_,B,C,D,E,d⟩:=Bk ok nd.hz;obtain⟨_,g,j,l,m,nw⟩:=Bk ok nd.hw;refine⟨f4 x y z w,λk=>match k with|0=>f4 o p r s|1=>f4 t u v A|2=>f4 B C D E|_=>f4 g j l m,⟨q,nd⟩,λk a=>?_⟩
 match k,a with
 |0,_=>exact⟨_,b⟩
 |1,_=>exact⟨_,c⟩
 |2,_=>exact⟨_,d⟩
 |3,_=>exact⟨_,nw⟩
theorem DQ.nat{G:Gv}{n i:Nat}{q:Sq}{x y z w:Nat}(h:DQ G n i q x y z w){j:Nat}(a:j<4):q.parts[j]?=some ((f4 x y z w j:Nat):Int)/\Ak G (f4 x y z w j) n:=by
 rw[h.ps]
 match j,a with
 |0,_=>exact⟨Z,h.hx⟩
 |1,_=>exact⟨Z,h.hy⟩
 |2,_=>exact⟨Z,h.hz⟩
 |3,_=>exact⟨Z,h.hw⟩
theorem Qf(p:L_){j:Nat}(a:j<4):f4 (p 0) (p 1) (p 2) (p 3) j=p j:=by
 match j,a with
 |0,_=>rfl
 |1,_=>rfl
 |2,_=>rfl
 |3,_=>rfl
def BA(n:Nat)(ps:Nat->Nat->Nat):Prop:=∀k j,k<4->j<4->j+k≠3->ps k j=bareN n
def Fw(G:Gv):Nat->Nat->Nat->Prop
|0,_,_=>False
|1,f,r=>r=f
|n+2,f,r=>∃qs ps,Os G n f qs ps/\((¬BA n ps/\r=f)\/(BA n ps/\∃m,G[m]?=some ⟨[(ps 0 3:Int),(ps 1 2:Int),(ps 2 1:Int),(ps 3 0:Int)],(n:Int)+1⟩/\Fw G (n+1) m r))
theorem Fw.app{G a:Gv}{k:Nat}(go:AG G a k):∀{n f r:Nat},Fw G n f r->Fw a n f r
|0,_,_,h=>h
|1,_,_,h=>h
|n+2,f,r,h=>by
 obtain⟨i,g,d,h⟩:=h;refine⟨i,g,d.app go,?_⟩;rcases h with h|⟨b,m,c,e⟩
 .exact .inl h
 .exact .inr ⟨b,m,go.get c,Fw.app go e⟩
section
variable{P:N_}{w:Q_}{K:O_}{mg:C_}{base:T_}{a:Ad}
theorem GK{H:Hp}{g:GA}{G:Gv}(h:AM a H g G){n i:Nat}{q:Sq}{x y z w:Nat}(nd:DQ G n i q x y z w):∃(c:H_)(t:R_),H g.pt=some (.lst (c.map V.ref))/\(c.map V.ref)[i]?=some (.ref t)/\H t=some (.tup [.int x,.int y,.int z,.int w]):=by
 obtain⟨c,e,f⟩:=h.pt;obtain⟨t,d,b⟩:=PairedM.get f nd.g;refine⟨c,t,e,by rw[B8,d];rfl,?_⟩;have b:H t=some (.tup (q.parts.map V.int)):=b;rw[nd.ps]at b;exact b
inductive SpMid(a:Ad)(vs:List V)(H:Hp)(Q:VK):Prop
|mk (g:GA) (G:Gv) (i n:Nat) (qs:L_) (ps:Nat->Nat->Nat) (_:vs=[.ref g.p,.int i]) (_:AM a H g G) (_:GOk G) (_:Os G n i qs ps) (_:n<47) (_:G.length<8900000) (_:∀(m:Nat)(G':Gv)(H':Hp),Fr g H H'->AM a H' g G'->AG G G' 1->G'[m]?=some ⟨[(ps 0 3:Int),(ps 1 2:Int),(ps 2 1:Int),(ps 3 0:Int)],(n:Int)+1⟩->Q (.int m) H'):SpMid a vs H Q
def Zz(a:Ad):Sp:=λvs H Q _=>SpMid a vs H Q
theorem ok_mid(F:Fun K "middle_of" "middle_of" GH f fd)(T:Top K mg a)(a8:BJ P w K mg base CX0 2 a.c_Grove "linked" AU (DI a)):AN P w K mg base CX0 3 f fd Lf (Zz a):=by
 refine F.ok Mo D_9 λac A ab s H vs Q E hr h=>?_
 obtain⟨g,G,i,n,c,l,rfl,M,ok,I,ad,few,k⟩:=h;obtain⟨q,nd⟩:=I.node;obtain⟨ts,t,U,et,ht⟩:=GK M nd;refine⟨_,(Ab (Ge (i:=2) Z Mo.nd Z Z (BK.of (So:=Aj GH) (No:=NW) (N:=["quarter","grove"]) (k:=1) (cs:=[0]) Z Z A1) (Po (Ai Aw (AB (pv 0) Z) (pv 1) R_9)) (λ_ _ _=>(Bj (i:=0) A1 Z Z)) (λ_ _ _=>BP) (λ_ _ _=>(Ai (MK (K:=K) Z) (RO (K:=K) Z (pv 1) Z) (pv 0) R_9))) (Af (Au (AC (pv 0) a8 (rm hr) Am (AV (Aa (Ai Al (Ai Aw (pv 2) Ae R_9) Ae R_9) (Aa (Ai Al (Ai Aw (pv 2) Ae R_9) Ae R_9) (Aa (Ai Al (Ai Aw (pv 2) Ae R_9) Ae R_9) (Aa (Ai Al (Ai Aw (pv 2) Ae R_9) Ae R_9) Ac)))) Ac))))),?_⟩
 try dsimp only[cxK]
 refine xwf Z Z M.hp T.cl_Grove T.na_Grove_parts (BX g) (xwi Z Z Z (SqL.of U) (Ah et) ⟨t,Z,⟨_,SqT.of ht⟩,?_⟩);have b:∀k,k<4->∃tk,(ts.map V.ref)[c k]?=some (.ref tk)/\H tk=some (.tup [.int (l k 0),.int (l k 1),.int (l k 2),.int (l k 3)]):=λk hk=>by
  obtain⟨qk,aa⟩:=I.sub k hk;obtain⟨ae,tk,u,S,X⟩:=GK M aa;rw[U]at u;have u:=HO.lst.inj (X4 u);exact⟨tk,by rw[u];exact S,X⟩
 obtain⟨x,e0,p0⟩:=b 0 A4;obtain⟨y,e1,p1⟩:=b 1 A4;obtain⟨B,e2,p2⟩:=b 2 A4;obtain⟨C,e3,p3⟩:=b 3 A4;have all:∀(j:Nat)(v:V),[V.int (c 0:Int),V.int (c 1:Int),V.int (c 2:Int),V.int (c 3:Int)][j]?=some v->∃(k:Nat)(tk:R_),v=.int (k:Int)/\(ts.map V.ref)[k]?=some (.ref tk)/\[V.ref x,V.ref y,V.ref B,V.ref C][j]?=some (.ref tk):=λj v d=>by
  match j,d with
  |0,d=>cases d;exact⟨c 0,x,Z,e0,Z⟩
  |1,d=>cases d;exact⟨c 1,y,Z,e1,Z⟩
  |2,d=>cases d;exact⟨c 2,B,Z,e2,Z⟩
  |3,d=>cases d;exact⟨c 3,C,Z,e3,Z⟩
  |j+4,d=>simp at d
 refine OL (xs:=[.int (c 0:Int),.int (c 1:Int),.int (c 2:Int),.int (c 3:Int)]) (λj r R=>H=R/\r=[V.ref x,V.ref y,V.ref B,V.ref C].take j) ⟨Z,Z⟩ (λj r R _ z=>z.1▸SqT.of ht) ?_ ?_
 .rintro j v r R d ⟨rfl,rfl⟩;obtain⟨k',tk,rfl,ek,el⟩:=all j v d;refine⟨⟨[some (.int k')],Z,Z⟩,by rw[L7];exact Dv (by show min j 4<10000000;lia),GO (xwf Z Z M.hp T.cl_Grove T.na_Grove_parts (BX g) (xwi Z Z Z (SqL.of U) (Ah ek) ⟨Z,?_⟩))⟩;rw[J3,el];rfl
 .rintro r R ⟨rfl,rfl⟩ L hL;have D:=AK (o:=.lst [V.ref x,V.ref y,V.ref B,V.ref C]) hL;have p:upd H L (.lst [V.ref x,V.ref y,V.ref B,V.ref C]) L=some (.lst [V.ref x,V.ref y,V.ref B,V.ref C]):=Ag;rw[show(List.take [V.int (c 0:Int),V.int (c 1:Int),V.int (c 2:Int),V.int (c 3:Int)].length [V.ref x,V.ref y,V.ref B,V.ref C])=[V.ref x,V.ref y,V.ref B,V.ref C]from rfl];generalize upd H L (.lst [V.ref x,V.ref y,V.ref B,V.ref C])=H1 at D p⊢;have O:=M.same D;refine xwn Z Z O.hp (BM g) Z (xq4 Z Z (SqL.of p) (Ah (j:=0) Z) (xq4 Z Z (SqT.of (D _ _ p0)) (Ah (j:=3) Z) (xwi Z Z Z (SqL.of p) (Ah (j:=1) Z) (xq4 Z Z (SqT.of (D _ _ p1)) (Ah (j:=2) Z) ?_))));refine xwi Z Z Z (SqL.of p) (Ah (j:=2) Z) (xq4 Z Z (SqT.of (D _ _ p2)) (Ah (j:=1) Z) (xwi Z Z Z (SqL.of p) (Ah (j:=3) Z) (xq4 Z Z (SqT.of (D _ _ p3)) (Ah (j:=0) Z) ⟨S_4,λt4 Y=>?_⟩)));have s2:=AK (o:=.tup [.int (l 0 3),.int (l 1 2),.int (l 2 1),.int (l 3 0)]) Y;obtain⟨_,n0⟩:=I.sub 0 A4;obtain⟨_,n1⟩:=I.sub 1 A4;obtain⟨_,n2⟩:=I.sub 2 A4;obtain⟨_,n3⟩:=I.sub 3 A4;exact⟨g,G,t4,l 0 3,l 1 2,l 2 1,l 3 0,(n:Int),Z,O.same s2,ok,Ag,⟨n0.hw,n1.hz,n2.hy,n3.hx⟩,by lia,by lia,λm G' H' fr W go e=>k m G' H' ((Ay.fr D).trans ((Ay.fr s2).trans fr)) W go e⟩
inductive SpBA(a:Ad)(vs:List V)(H:Hp)(Q:VK):Prop
|mk (g:GA) (G:Gv) (i n:Nat) (qs:L_) (ps:Nat->Nat->Nat) (_:vs=[.ref g.p,.int i]) (_:AS a H g G) (_:Os G n i qs ps) (_:n<47) (_:(BA n ps->∀H',Ay H H'->Q (.bl true) H')) (_:(¬BA n ps->∀H',Ay H H'->Q (.bl false) H')):SpBA a vs H Q
def spBA(a:Ad):Sp:=λvs H Q _=>SpBA a vs H Q
theorem ok_ba(F:Fun K "is_bare_around" "is_bare_around" EB f fd)(T:Top K mg a):AN P w K mg base CX0 1 f fd Lf (spBA a):=by
 refine F.ok BS D_9 λad A ac s H vs Q E hr h=>?_
 obtain⟨g,G,i,n,u,l,rfl,r,dp,ae,k1,k2⟩:=h;obtain⟨q,nd⟩:=dp.node;have lq:=nd.lev;obtain⟨ts,t,h3,et,ht⟩:=GK r.at' nd;refine⟨_,(Ab (Ao (i:=2) BS.nd Z O_9 (Ai Aw (AB (pv 0) Z) (AA Bm (Ai Aw (AB (pv 0) Z) (pv 1) R_9) Ae) R_9)) (Ab (CK X8 Z (Mu true Z T.b_enumerate (Aa (Ai Aw (AB (pv 0) Z) (pv 1) R_9) Ac)) (Nm Z (CA (Bv (i:=3) BS.nd Z O_9) (CA (Bv (i:=4) BS.nd Z O_9) Ld))) (Af (CK X8 Z (Mu true Z T.b_enumerate (Aa (Ai Aw (AB (pv 0) Z) (pv 4) R_9) Ac)) (Nm Z (CA (Bv (i:=5) BS.nd Z O_9) (CA (Bv (i:=6) BS.nd Z O_9) Ld))) (Af (AQ (PW.pt (LP (Az JK (pv 6) (pv 2) (AD _)) (IU (Az JK (pv 5) (AA Bm Ae (pv 3)) (AD _))))) (Af (Au IB)) Ax))))) (Af (Au IB)))),?_⟩
 try dsimp only[cxK]
 refine xwf Z Z r.at'.hp T.cl_Grove T.na_Grove_bares (Jh g) (xwf Z Z r.at'.hp T.cl_Grove T.na_Grove_levels (EL g) (xwi Z Z Z (SqL.of r.at'.lv) (Ah (by rw[B8,nd.g];rfl)) (xq2 Z Z (xq4 Z Z (SqL.of r.br) (by rw[show q.lev-2=(n:Int) by lia];exact Ah (bareL_at' A0)) ?_))));refine xwf Z Z r.at'.hp T.cl_Grove T.na_Grove_parts (BX g) (xwi Z Z Z (SqL.of h3) (Ah et) ⟨t,Z,⟨_,SqT.of ht⟩,?_⟩);refine JT (b:=true) (xs:=[.int (u 0:Int),.int (u 1:Int),.int (u 2:Int),.int (u 3:Int)]) (λj σ I=>Ay H I/\(∃u3 u4 C D:Option V,σ=[some (.ref g.p),some (.int i),some (.int (bareN n:Int)),u3,u4,C,D])/\∀m d,m<j->m<4->d<4->d+m≠3->l m d=bareN n) ⟨Ay.refl H,⟨none,none,none,none,Z⟩,λm d h=>absurd h (L8 _)⟩ (λj σ I _ z=>SqT.of (z.1 _ _ ht)) ?_ ?_
 .rintro j v σ I T' c ⟨sm,⟨u3,u4,C,D,rfl⟩,W⟩ nT;have hj:j<4:=(B7.mp c).1;have y:v=.int (u j:Int):=by
   match j,hj,c with
   |0,_,c=>cases c;rfl
   |1,_,c=>cases c;rfl
   |2,_,c=>cases c;rfl
   |3,_,c=>cases c;rfl
  subst y;obtain⟨qk,ab⟩:=dp.sub j hj;have U:=sm.trans (AK (o:=.tup [.int j,.int (u j)]) nT);refine Rh Ag ?_;generalize upd I T' (.tup [.int j,.int (u j)])=H3 at U⊢;obtain⟨af,t3,Y,X,S⟩:=GK (r.at'.same U) ab;refine xwf Z Z ((r.at'.same U).hp) T.cl_Grove T.na_Grove_parts (BX g) (xwi Z Z Z (SqL.of Y) (Ah X) ⟨t3,Z,⟨_,SqT.of S⟩,?_⟩);refine JT (b:=true) (xs:=[.int (l j 0:Int),.int (l j 1:Int),.int (l j 2:Int),.int (l j 3:Int)]) (λk σ M=>Ay H3 M/\(∃C D:Option V,σ=[some (.ref g.p),some (.int i),some (.int (bareN n:Int)),some (.int j),some (.int (u j)),C,D])/\∀d,d<k->d<4->d+j≠3->l j d=bareN n) ⟨Ay.refl H3,⟨_,_,Z⟩,λd h=>absurd h (L8 _)⟩ (λk σ M _ z=>SqT.of (z.1 _ _ S)) ?_ ?_
  .rintro k v σ M T2 c ⟨B,⟨C,D,rfl⟩,x⟩ aa;have R:k<4:=(B7.mp c).1;have y:v=.int (l j k:Int):=by
    match k,R,c with
    |0,_,c=>cases c;rfl
    |1,_,c=>cases c;rfl
    |2,_,c=>cases c;rfl
    |3,_,c=>cases c;rfl
   subst y;have s4:=B.trans (AK (o:=.tup [.int k,.int (l j k)]) aa);refine Rh Ag ?_;generalize upd M T2 (.tup [.int k,.int (l j k)])=H5 at s4⊢;refine xw2 Z Z ⟨Z,(xq1 Z ?_)⟩;refine Zp (b2:=!decide (V.int (k:Int)=V.int (3-(j:Int)))) (λ_ Q' q=>(xw2 Z Z (xq2 Z Z ⟨Z,(xq1 Z q)⟩))) ?_;refine GD (λO=>?_) (λO=>?_)
   .refine k2 (λba=>?_) H5 (U.trans s4);rw[P8]at O;have c2:¬k+j=3:=λz=>by
     have:=O.2;rw[Z5 (show V.int (k:Int)=V.int (3-(j:Int)) by congr 1;lia)]at this;cases this
    have c1:=O.1;rw[ba j k hj R c2,Z5 rfl]at c1;cases c1
   .refine⟨s4,⟨_,_,Z⟩,λd L N e=>?_⟩;rcases Q6.mp L with h|h
    .exact x d h N e
    .subst h;refine X6 λz=>O ?_;rw[Z8 (show ¬V.int (l j d:Int)=V.int (bareN n:Int) by intro q;injection q with q;exact z (Z9 q)),Z8 (show ¬V.int (d:Int)=V.int (3-(j:Int)) by intro q;injection q with q;lia)];rfl
  .rintro σ M ⟨B,⟨C,D,rfl⟩,x⟩;refine⟨U.trans B,⟨_,_,_,_,Z⟩,λm d L N e h4=>?_⟩;rcases Q6.mp L with h|h
   .exact W m d h N e h4
   .subst h;exact x d e e h4
 .rintro σ I ⟨sm,⟨u3,u4,C,D,rfl⟩,W⟩;exact k1 (λm d L N e=>W m d L L N e) I sm
end
theorem Fw.lev{G:Gv}:∀{l f r:Nat},Ak G f (l:Int)->Fw G l f r->∃n,n+1<=l/\Ak G r ((n+1:Nat):Int)
|0,_,_,_,h=>h.elim
|1,f,r,hl,h=>by
 have h:r=f:=h;subst h;exact⟨0,C0 _,hl⟩
|n+2,f,r,hl,h=>by
 apply AO;intro b a;obtain⟨j,i,d,h⟩:=h;apply a;clear a b;rcases h with ⟨_,rfl⟩|⟨_,m,e,h⟩
 .exact⟨n+1,C0 _,hl⟩
 .obtain⟨k,g,c⟩:=Fw.lev (l:=n+1) ⟨_,e,by show(n:Int)+1=_;lia⟩ h;exact⟨k,by lia,c⟩
section
variable{P:N_}{w:Q_}{K:O_}{mg:C_}{base:T_}{a:Ad}
inductive SpTrim(a:Ad)(vs:List V)(H:Hp)(Q:VK):Prop
|mk (g:GA) (G:Gv) (f n:Nat) (_:vs=[.ref g.p,.int f]) (_:AS a H g G) (_:Ak G f ((n+1:Nat):Int)) (_:G.length<8800000) (_:∀(r:Nat)(G':Gv)(H':Hp),Fr g H H'->AS a H' g G'->AG G G' 48->Fw G' (n+1) f r->Q (.int r) H'):SpTrim a vs H Q
def MW(a:Ad):Sp:=λvs H Q _=>SpTrim a vs H Q
theorem ok_trim(F:Fun K "trimmed" "trimmed" Nd f fd)(T:Top K mg a)(a9:BJ P w K mg base CX0 3 a.c_Grove "level_of" JP (Mi a))(bF:Cal P w K mg base CX0 1 "is_bare_around" Lf (spBA a))(cF:Cal P w K mg base CX0 3 "middle_of" Lf (Zz a)):AN P w K mg base CX0 4 f fd Lf (MW a):=by
 refine F.ok LF (λvs H Q E h=>?_) (λaa A V s H vs Q E S h=>?_)
 .apply AO;intro y e;obtain⟨g,G,o,n,rfl,_⟩:=h;apply e;clear e y;rfl
 .apply AO;intro y e;obtain⟨g,G,o,n,rfl,C,hl,few,k⟩:=h;obtain⟨q,eq,lq⟩:=id hl;apply e;clear e y;have ac:n+1<=48:=by have:=(C.ok.lev eq).2;lia
  refine⟨_,(Ab (AQ (Az GN (AC (pv 0) a9 (rm S) Am (Aa (pv 1) Ac)) (BT Z T.k_LEAST_LEVEL) (AD _)) (Af AY) Ax) (Ab (Ao (i:=2) LF.nd Z O_9 (pv 1)) (Ab (IA X8 (PW.pt (LP (Az NU (Ai Aw (AB (pv 0) Z) (pv 2) R_9) (BT Z T.k_LEAST_LEVEL) (AD _)) (IU (BI (Aq bF (rm S) Z Am (Aa (pv 0) (Aa (pv 2) Ac))))))) (Af (Ao (i:=2) LF.nd Z O_9 (Aq cF (rm S) Z Am (Aa (pv 0) (Aa (pv 2) Ac)))))) (Af (Au (pv 2)))))),?_⟩
  try dsimp only[cxK]
  refine xq1 Z ⟨g.p,g.dx,(xq1 Z ⟨C.at'.hp,DP g,(xq1 Z ⟨g,G,o,q,Z,C.at',eq,(xq2 Z Z (xq1 Z ?_))⟩)⟩)⟩;rw[Z8 (by lia:¬q.lev<1)];refine AX (xq1 Z ?_);refine⟨λm σ D=>∃(j:Gv)(c:Nat),σ=[some (.ref g.p),some (.int o),some (.int c)]/\Fr g H D/\AS a D g j/\AG G j (n-m)/\m<=n/\Ak j c ((m+1:Nat):Int)/\∀(r:Nat)(d:Gv)(k:Nat),AG j d k->Fw d (m+1) c r->Fw d (n+1) o r,⟨n,G,o,Z,Fr.refl g H,C,(AG.refl C.ok).mono A0,C0 _,hl,λ_ _ _ _ h=>h⟩,?_⟩;rintro m σ D X;apply AO;intro y e;obtain⟨j,c,rfl,fr,b,go,mn,lc,W⟩:=X;apply e;clear e y;have gf:=go.few;obtain⟨qc,ec,ab⟩:=id lc;refine xwf Z Z b.at'.hp T.cl_Grove T.na_Grove_levels (EL g) (xwi Z Z Z (SqL.of b.at'.lv) (Ah (by rw[B8,ec];rfl)) (xq2 Z Z (xq1 Z ?_)));cases m with
  |zero =>
   rw[Z8 (by lia:¬(1:Int)<qc.lev)];exact AX (AX (xq1 Z (k c j D fr b (go.mono A0) (W c j 0 (AG.refl b.ok) Z))))
  |succ m =>
   rw[Z5 (by lia:(1:Int)<qc.lev)];obtain⟨M,L,I⟩:=deep_of b.ok lc;refine Cg (xw2 Z Z ⟨g,j,c,m,M,L,Z,b,I,by lia,λba Y x=>⟨true,Z,Cg ?_⟩,λU Y x=>⟨false,Z,AX ?_⟩⟩)
   .refine⟨fun σ' N=>∃(u:Gv)(v:Nat),σ'=[some (.ref g.p),some (.int o),some (.int v)]/\Fr g H N/\AS a N g u/\AG G u (n-m)/\m<=n/\Ak u v ((m+1:Nat):Int)/\∀(r:Nat)(d:Gv)(k:Nat),AG u d k->Fw d (m+1) v r->Fw d (n+1) o r,fun σ' N z=>⟨m,by lia,z⟩,?_⟩;refine xw2 Z Z ⟨g,j,c,m,M,L,Z,b.at'.same x,b.ok,I,by lia,by lia,λv u H4 B R l e4=>?_⟩;have O:=(b.same x).fr B R l;refine⟨u,v,Z,fr.trans ((Ay.fr x).trans B),O,(go.trans l).mono A0,by lia,⟨_,e4,by show(m:Int)+1=_;lia⟩,λr d k' t t5=>?_⟩;exact W r d _ (l.trans t) ⟨M,L,I.app (l.trans t),.inr ⟨ba,v,t.get e4,t5⟩⟩
   .exact xq1 Z (k c j Y (fr.trans (Ay.fr x)) (b.same x) (go.mono A0) (W c j 0 (AG.refl b.ok) ⟨M,L,I,.inl ⟨U,Z⟩⟩))
def MR(G:Gv)(n f:Nat):Nat->Nat->Prop
|0,w=>w=f
|k+1,w=>∃u,MR G n f k u/\Wid G (n+k) u w
theorem MR.app{G b:Gv}{m n f:Nat}(go:AG G b m):∀{k w:Nat},MR G n f k w->MR b n f k w
|0,_,h=>h
|k+1,w,h=>by
 obtain⟨u,c,d⟩:=h;exact⟨u,MR.app go c,d.app go⟩
inductive SpWO(a:Ad)(vs:List V)(H:Hp)(Q:VK):Prop
|mk (g:GA) (G:Gv) (f n:Nat) (t:R_) (x y wd ht:Int) (_:vs=[.ref g.p,.int f,.ref t]) (_:AS a H g G) (_:Ak G f ((n+1:Nat):Int)) (_:n<=40) (_:H t=some (.tup [.int x,.int y,.int wd,.int ht])) (_:Ev x y wd ht (2^40)) (_:G.length<8700000) (_:∀(k w:Nat)(G':Gv)(H':Hp),Fr g H H'->AS a H' g G'->AG G G' (5*k)->n+k<=40->MR G' n f k w->Ak G' w ((n+k+1:Nat):Int)->Ev x y wd ht (2^(n+k))->(∀j,j<k->¬Ev x y wd ht (2^(n+j)))->Q (.int w) H'):SpWO a vs H Q
def spWO(a:Ad):Sp:=λvs H Q _=>SpWO a vs H Q
theorem ok_wo(F:Fun K "widened_over" "widened_over" FT f fd)(T:Top K mg a)(aD:Cal P w K mg base CX0 1 "lies_within" QE QV)(aC:Cal P w K mg base CX0 4 "reach_of" UX (GF a))(bJ:Cal P w K mg base CX0 4 "widened" Lf (VP a)):AN P w K mg base CX0 5 f fd En (spWO a):=by
 refine F.ok Fl (λvs H Q E h=>?_) (λaa A W s H vs Q E S h=>?_)
 .apply AO;intro u b;obtain⟨g,G,q,n,t,x,y,D,Y,rfl,_⟩:=h;apply b;clear b u;rfl
 .apply AO;intro u b;obtain⟨g,G,q,n,t,x,y,D,L,rfl,N,hl,ac,Y,li,few,k⟩:=h;apply b;clear b u;refine⟨_,(Ab (Ao (i:=3) Fl.nd Z O_9 (pv 1)) (Ab (IA X8 (BU (BI (Aq aD (rm S) Z Am (Aa (pv 2) (Aa (Aq aC (rm S) Z Am (Aa (pv 0) (Aa (pv 3) Ac))) Ac))))) (Af (Ao (i:=3) Fl.nd Z O_9 (Aq bJ (rm S) Z Am (Aa (pv 0) (Aa (pv 3) Ac)))))) (Af (Au (pv 3))))),?_⟩
  try dsimp only[cxK]
  refine xq1 Z ?_;refine⟨λm σ I=>∃(e:Gv)(c j:Nat),σ=[some (.ref g.p),some (.int q),some (.ref t),some (.int c)]/\Fr g H I/\AS a I g e/\AG G e (5*j)/\n+j+m=40/\Ak e c ((n+j+1:Nat):Int)/\MR e n q j c/\∀i,i<j->¬Ev x y D L (2^(n+i)),⟨40-n,G,q,0,Z,Fr.refl g H,N,AG.refl N.ok,by lia,hl,Z,λi R=>absurd R (L8 _)⟩,?_⟩;rintro m σ I X;apply AO;intro u b;obtain⟨e,c,j,rfl,fr,d,go,ab,V,wn,no⟩:=X;apply b;clear b u;have gf:=go.few;have U:=fr.tup N.at' Y;refine xq1 Z (xq1 Z (xq1 Z ⟨g,e,c,n+j,Z,d.at',V,by lia,t,x,y,D,L,_,Z,U,_,Z,?_⟩));by_cases r:Ev x y D L (2^(n+j))
  .rw[Z5 r];exact AX (xq1 Z (k j c e I fr d go A0 wn V r no))
  .rw[Z8 r];have m0:m≠0:=λz=>by
    subst z;have:n+j=40:=by lia
    rw[this]at r;exact r li
   refine Cg ⟨fun σ' M=>∃(o:Gv)(v C:Nat),σ'=[some (.ref g.p),some (.int q),some (.ref t),some (.int v)]/\Fr g H M/\AS a M g o/\AG G o (5*C)/\n+C+(m-1)=40/\Ak o v ((n+C+1:Nat):Int)/\MR o n q C v/\∀i,i<C->¬Ev x y D L (2^(n+i)),fun σ' M z=>⟨m-1,by lia,z⟩,?_⟩;refine xw2 Z Z ⟨g,e,c,n+j,Z,d,V,by lia,by lia,λv o H3 B O l wi=>?_⟩;refine⟨o,v,j+1,Z,fr.trans B,d.fr B O l,(go.trans l).mono A0,by lia,?_,⟨c,wn.app l,wi⟩,λi R=>?_⟩
   .have:=wi.lev;rw[show n+(j+1)+1=n+j+2 by lia];exact this
   .rcases Q6.mp R with h|h
    .exact no i h
    .rw[h];exact r
end
noncomputable def st4(x y z w k j:Nat)(i:Nat):Nat:=if i=k then j else f4 x y z w i
noncomputable def quad(l x y:Nat):Nat:=x/2^l+2*(y/2^l)
theorem Ds{l x:Nat}(h:x<2^(l+1)):x/2^l<2:=by
 rw[W1 (U1 A4),S1,<-F6];exact h
theorem Dm{l x y:Nat}(a:x<2^(l+1))(b:y<2^(l+1)):quad l x y<4:=by
 have c:=Ds a;have d:=Ds b;unfold quad;lia
theorem Fc(l:Nat):((2^l:Nat):Int)=(2:Int)^l:=J7 2 l
theorem quad_c(l x y:Nat):(x:Int)/2^l+2*((y:Int)/2^l)=((quad l x y:Nat):Int):=by
 unfold quad;rw[<-Fc,N2,N5,Int.natCast_ediv,Int.natCast_ediv];rfl
theorem mod_c(l x:Nat):(x:Int)%2^l=((x%2^l:Nat):Int):=by rw[<-Fc,Int.natCast_emod]
theorem set4(x y z w j:Nat){k:Nat}(a:k<4):([V.int (x:Int),V.int (y:Int),V.int (z:Int),V.int (w:Int)].set k (.int j))=[V.int (st4 x y z w k j 0:Int),V.int (st4 x y z w k j 1:Int),V.int (st4 x y z w k j 2:Int),V.int (st4 x y z w k j 3:Int)]:=by
 match k,a with
 |0,_=>rfl
 |1,_=>rfl
 |2,_=>rfl
 |3,_=>rfl
def Rep(G:Gv)(s:Nat):Nat->Nat->Nat->Nat->Nat->Prop
|0,_,_,_,r=>r=s
|l+1,i,x,y,r=>∃(q:Sq)(a b c d j:Nat),DQ G l i q a b c d/\Rep G s l (f4 a b c d (quad l x y)) (x%2^l) (y%2^l) j/\G[r]?=some ⟨[(st4 a b c d (quad l x y) j 0:Int),(st4 a b c d (quad l x y) j 1:Int),(st4 a b c d (quad l x y) j 2:Int),(st4 a b c d (quad l x y) j 3:Int)],(l:Int)+1⟩
theorem Rep.app{G f:Gv}{m s:Nat}(go:AG G f m):∀{l i x y r:Nat},Rep G s l i x y r->Rep f s l i x y r
|0,_,_,_,_,h=>h
|l+1,i,x,y,r,h=>by
 obtain⟨q,a,b,c,d,j,nd,g,e⟩:=h;exact⟨q,a,b,c,d,j,nd.app go,Rep.app go g,go.get e⟩
theorem Rep.lev{G:Gv}(ok:GOk G){s:Nat}(f:s<8):∀{l i x y r:Nat},Rep G s l i x y r->Ak G r (l:Int)
|0,_,_,_,r,h=>by
 have h:r=s:=h;subst h;exact⟨_,ok.leaf r f,Z⟩
|l+1,_,_,_,_,h=>by
 obtain⟨q,a,b,c,d,j,nd,g,e⟩:=h;exact⟨_,e,by show(l:Int)+1=_;lia⟩
section
variable{P:N_}{w:Q_}{K:O_}{mg:C_}{base:T_}{a:Ad}
inductive SpRep(a:Ad)(n:Nat)(vs:List V)(H:Hp)(Q:VK):Prop
|mk (g:GA) (G:Gv) (i l x y s:Nat) (_:vs=[.ref g.p,.int i,.int x,.int y,.int s]) (_:AM a H g G) (_:GOk G) (_:Ak G i (l:Int)) (_:l<n) (_:x<2^l) (_:y<2^l) (_:s<8) (_:G.length+l<8900000) (_:∀(r:Nat)(G':Gv)(H':Hp),Fr g H H'->AM a H' g G'->AG G G' l->Rep G' s l i x y r->Q (.int r) H'):SpRep a n vs H Q
def VR(a:Ad)(n:Nat):Sp:=λvs H Q _=>SpRep a n vs H Q
theorem ok_rep(F:Fun K "replaced" "replaced" LG f fd)(T:Top K mg a)(hm:mg "replaced" = some (.ref f))(Bi:Ci K fd Gf [])(aK:BJ P w K mg base CX0 3 a.c_Grove "leaf" Sf (OR a))(a8:BJ P w K mg base CX0 2 a.c_Grove "linked" AU (DI a)):∀n,AN P w K mg base CX0 (n+4) f fd Gf (VR a n)
|0=>by
 refine F.ok DR (λvs H Q E h=>?_) (λab A N s H vs Q E U h=>?_)
 .obtain⟨g,G,i,l,x,y,s,rfl,_,_,_,h0,_⟩:=h;exact absurd h0 (L8 _)
 .obtain⟨g,G,i,l,x,y,s,rfl,_,_,_,h0,_⟩:=h;exact absurd h0 (L8 _)
|n+1=>by
 have bN:Cal P w K mg base CX0 (n+4) "replaced" Gf (VR a n):=⟨f,fd,ok_rep F T hm Bi aK a8 n,hm,F.kp,Bi⟩
 refine F.ok DR (λvs H Q E h=>?_) (λab A N s H vs Q E U h=>?_)
 .obtain⟨g,G,i,l,x,y,s,rfl,_⟩:=h;rfl
 .obtain⟨g,G,i,l,x,y,st,rfl,B,ok,hl,ln,hx,hy,s8,few,k⟩:=h;obtain⟨q0,e0,l0⟩:=id hl;refine⟨_,(Ab (Ao (i:=5) DR.nd Z O_9 (Ai Aw (AB (pv 0) Z) (pv 1) R_9)) (Ab (AQ (Az De (pv 5) Ae (AD _)) (Af (Au (AC (pv 0) aK (rm U) Am (Aa (pv 4) Ac)))) Ax) (Ab (Ao (i:=6) DR.nd Z O_9 (AA Jd Ae (AA Bm (pv 5) Ae))) (Ab (Ao (i:=7) DR.nd Z O_9 (BG SD Z T.b_list PyProof.Rows.boot_list (Aa (Ai Aw (AB (pv 0) Z) (pv 1) R_9) Ac))) (Ab (Ao (i:=8) DR.nd Z O_9 (AA AZ (AA Tv (pv 2) (pv 6)) (AA EJ Ae (AA Tv (pv 3) (pv 6))))) (Ab (ps_asg (Aq bN (rm U) Z Am (Aa (pv 0) (Aa (Ai Aw (pv 7) (pv 8) R_9) (Br Bz (pv 2) (pv 6) (Br Bz (pv 3) (pv 6) (Aa (pv 4) Ac)))))) (pg_sub (pv 7) (pv 8) ZL)) (Af (Au (AC (pv 0) a8 (rm U) Am (Aa (BG BV Z T.b_tuple K7 (Aa (pv 7) Ac)) Ac)))))))))),?_⟩
  try dsimp only[cxK]
  refine⟨_,Z,g.p,_,g.dx,_,_,Z,B.hp,T.cl_Grove,T.na_Grove_levels,EL g,_,Z,g.lv,_,(i:Int),.int q0.lev,Z,Z,SqL.of B.lv,Ah (by rw[B8,e0];rfl),?_⟩;cases l with
  |zero =>
   rw[l0];exact xq1 Z ⟨Z,(xq1 Z (Cg (xwn Z Z B.hp (RQ g) Z ⟨g.p,(st:Int),Z,by lia,by lia,k st G H (Fr.refl g H) B (AG.refl ok) Z⟩)))⟩
  |succ l =>
   have ah:q0.lev=(l:Int)+1:=by rw[l0];lia
   have ak:=(ok.lev e0).2;have C:=Wk (l:=l) A0;have v:=GJ l;obtain⟨q,c,d,m,u,nd⟩:=Bk ok hl;obtain⟨ts,t,h3,et,ht⟩:=GK B nd;refine xq1 Z ⟨Z,(xq1 Z ?_)⟩;rw[Z8 (by intro z;injection z with z;lia)];refine AX (xwb Z Z Z (xq2 Z Z ⟨⟨by lia,by lia,by decide⟩,?_⟩));rw[show(λ(i j:Int)=>V.int (i*2^j.toNat)) 1 (q0.lev-1)=V.int (2^l)from K0 V.int (RA l ah)];refine xwf Z Z B.hp T.cl_Grove T.na_Grove_parts (BX g) (xwi Z Z Z (SqL.of h3) (Ah et) ⟨t,(xq1 Z ⟨.inr (SqT.of ht),λL hL=>?_⟩)⟩);have Y:Ap g L:=Ap.new B hL;have s1:=AK (o:=.lst [.int c,.int d,.int m,.int u]) hL;have I:upd H L (.lst [.int c,.int d,.int m,.int u]) L=some (.lst [.int c,.int d,.int m,.int u]):=Ag;generalize upd H L (.lst [.int c,.int d,.int m,.int u])=H1 at s1 I⊢;have ad:=B.same s1;have W:=Dm hx hy;refine xw2 Z Z (xq2 Z Z ⟨⟨v,C⟩,(xw2 Z Z (xq2 Z Z ⟨⟨v,C⟩,(xq2 Z Z ⟨.inl ⟨by decide,by decide⟩,(xq2 Z Z ?_)⟩)⟩))⟩);rw[show(λ(i j:Int)=>V.int (i+j)) ((x:Int)/2^l) (2*((y:Int)/2^l))=V.int ((quad l x y:Nat):Int)from K0 V.int (quad_c l x y)];have aa:[V.int (c:Int),V.int (d:Int),V.int (m:Int),V.int (u:Int)][quad l x y]?=some (.int (f4 c d m u (quad l x y):Int)):=by
    generalize quad l x y=kk at W⊢
    match kk,W with
    |0,_=>rfl
    |1,_=>rfl
    |2,_=>rfl
    |3,_=>rfl
   have ai:Ak G (f4 c d m u (quad l x y)) (l:Int):=(nd.nat W).2;refine xw3 Z Z Z (xq4 Z Z (SqL.of I) (Ah aa) (xw2 Z Z (xq2 Z Z ⟨v,(xw2 Z Z (xq2 Z Z ⟨v,(xq1 Z ?_)⟩))⟩)));refine⟨g,G,f4 c d m u (quad l x y),l,x%2^l,y%2^l,st,by rw[<-mod_c,<-mod_c];rfl,ad,ok,ai,by lia,J1 _ (U1 A4),J1 _ (U1 A4),s8,by lia,λj G1 X fr ae go rp=>?_⟩;have gf:=go.few;have R:=fr.get Y I;refine xw2 Z Z ⟨L,_,((quad l x y:Nat):Int),quad l x y,Z,Z,R,by unfold ixN;rw[Z7 A0,Z7 (by show((quad l x y:Nat):Int)<((4:Nat):Int);lia),F4],?_⟩;rw[set4 c d m u j W];have M:=ae.put (o:=.lst [V.int (st4 c d m u (quad l x y) j 0:Int),V.int (st4 c d m u (quad l x y) j 1:Int),V.int (st4 c d m u (quad l x y) j 2:Int),V.int (st4 c d m u (quad l x y) j 3:Int)]) R Y.1 Y.2.1;have S:upd X L (.lst [V.int (st4 c d m u (quad l x y) j 0:Int),V.int (st4 c d m u (quad l x y) j 1:Int),V.int (st4 c d m u (quad l x y) j 2:Int),V.int (st4 c d m u (quad l x y) j 3:Int)]) L=some (.lst [V.int (st4 c d m u (quad l x y) j 0:Int),V.int (st4 c d m u (quad l x y) j 1:Int),V.int (st4 c d m u (quad l x y) j 2:Int),V.int (st4 c d m u (quad l x y) j 3:Int)]):=Ag;have O:Fr g H (upd X L (.lst [V.int (st4 c d m u (quad l x y) j 0:Int),V.int (st4 c d m u (quad l x y) j 1:Int),V.int (st4 c d m u (quad l x y) j 2:Int),V.int (st4 c d m u (quad l x y) j 3:Int)])):=λb o e m1 m2 m3=>by
    rw[As (Av e hL)];exact fr _ _ (s1 _ _ e) m1 m2 m3
   generalize upd X L (.lst [V.int (st4 c d m u (quad l x y) j 0:Int),V.int (st4 c d m u (quad l x y) j 1:Int),V.int (st4 c d m u (quad l x y) j 2:Int),V.int (st4 c d m u (quad l x y) j 3:Int)])=H3 at M S O⊢;refine xwn Z Z M.hp (BM g) Z ⟨L,(xq1 Z (.inl ⟨SqL.of S,λt4 ag=>?_⟩))⟩;have s4:=AK (o:=.tup [V.int (st4 c d m u (quad l x y) j 0:Int),V.int (st4 c d m u (quad l x y) j 1:Int),V.int (st4 c d m u (quad l x y) j 2:Int),V.int (st4 c d m u (quad l x y) j 3:Int)]) ag;have aj:=nd.app go;have lj:=rp.lev go.ok s8;have lst:∀ii,ii<4->Ak G1 (st4 c d m u (quad l x y) j ii) (l:Int):=λii hi=>by
    unfold st4;split
    .exact lj
    .exact(aj.nat hi).2
   refine⟨g,G1,t4,_,_,_,_,(l:Int),Z,M.same s4,go.ok,Ag,⟨lst 0 A4,lst 1 A4,lst 2 A4,lst 3 A4⟩,by lia,by lia,λr G2 H4 ac af D e4=>?_⟩;exact k r G2 H4 (O.trans ((Ay.fr s4).trans ac)) af (go.trans D) ⟨q,c,d,m,u,j,nd.app (go.trans D),rp.app D,e4⟩
structure Lr(G:Gv)(n f:Nat)(x y:Int)(s r:Nat)(k w i:Nat):Prop where
le:n+k<=40
wid:MR G n f k w
lw:Ak G w ((n+k+1:Nat):Int)
li:Ev x y 1 1 (2^(n+k))
no:∀j,j<k->¬Ev x y 1 1 (2^(n+j))
rep:Rep G s (n+k+1) w (x+2^(n+k)).toNat (y+2^(n+k)).toNat i
tr:Fw G (n+k+1) i r
theorem Wx{x y:Int}{m:Nat}(h:Ev x y 1 1 (2^m)):(x+2^m).toNat<2^(m+1)/\(y+2^m).toNat<2^(m+1)/\0<=x+2^m/\0<=y+2^m:=by
 obtain⟨b,c,d,f⟩:=h;have e:=Fc (m+1);rw[CF]at e;have p:=GJ m;refine⟨?_,?_,by lia,by lia⟩<;>lia
inductive WU(a:Ad)(vs:List V)(H:Hp)(Q:VK):Prop
|mk (g:GA) (G:Gv) (f n:Nat) (x y:Int) (s:Nat) (_:vs=[.ref g.p,.int f,.int x,.int y,.int s]) (_:AS a H g G) (_:Ak G f ((n+1:Nat):Int)) (_:n<=40) (_:Ev x y 1 1 (2^40)) (_:s<8) (_:G.length<8000000) (_:∀(r k w i:Nat)(G':Gv)(H':Hp),Fr g H H'->AS a H' g G'->AG G G' 400->Lr G' n f x y s r k w i->Q (.int r) H'):WU a vs H Q
def RC(a:Ad):Sp:=λvs H Q _=>WU a vs H Q
theorem ok_plant(F:Fun K "planted" "planted" Nf f fd)(T:Top K mg a)(aD:Cal P w K mg base CX0 1 "lies_within" QE QV)(aU:Cal P w K mg base CX0 2 "is_state" UY ZD)(aC:Cal P w K mg base CX0 4 "reach_of" UX (GF a))(aS:Cal P w K mg base CX0 5 "widened_over" En (spWO a))
 (bN:Cal P w K mg base CX0 54 "replaced" Gf (VR a 50)) (aR:Cal P w K mg base CX0 4 "trimmed" Lf (MW a)):AN P w K mg base CX0 55 f fd Np (RC a):=by
 refine F.ok IH D_9 λaa A M s H vs Q E j h=>?_
 obtain⟨g,G,f',n,x,y,Y,rfl,fu,hl,L,V,X,few,k⟩:=h;refine⟨_,(Ab (Ao (i:=5) IH.nd Z O_9 (Dx (Aa (pv 2) (Aa (pv 3) (AF (AF Ac)))))) (Ab (AQ (BU (BI (Aq aD (rm j) Z Am (Aa (pv 5) (Aa (BT Z T.k_LIMIT) Ac))))) (Af AY) Ax) (Ab (AQ (BU (BI (Aq aU (rm j) Z Am (Aa (pv 4) Ac)))) (Af AY) Ax) (Ab (Ao (i:=6) IH.nd Z O_9 (Aq aS (rm j) Z Am (Aa (pv 0) (Aa (pv 1) (Aa (pv 5) Ac))))) (Ab (Ao (i:=7) IH.nd Z O_9 (Aq aC (rm j) Z Am (Aa (pv 0) (Aa (pv 6) Ac)))) (Af (Au (Aq aR (rm j) Z Am (Aa (pv 0) (Aa (Aq bN (rm j) Z Am (Aa (pv 0) (Aa (pv 6) (Br AZ (pv 2) (pv 7) (Br AZ (pv 3) (pv 7) (Aa (pv 4) Ac)))))) Ac)))))))))),?_⟩
 try dsimp only[cxK]
 refine xw2 Z Z ⟨S_4,λt ht=>?_⟩;have N:=AK (o:=.tup [.int x,.int y,.int 1,.int 1]) ht;have e:upd H t (.tup [.int x,.int y,.int 1,.int 1]) t=some (.tup [.int x,.int y,.int 1,.int 1]):=Ag;generalize upd H t (.tup [.int x,.int y,.int 1,.int 1])=H1 at N e⊢;have v:=fu.same N;refine xq1 Z ⟨t,x,y,1,1,_,Z,e,_,Z,?_⟩;rw[Z5 (show Ev x y 1 1 1099511627776 from V)];refine AX (xq1 Z ⟨(Y:Int),Z,by lia,by lia,true,Z,AX ?_⟩);refine xw3 Z Z Z ⟨g,G,f',n,t,x,y,1,1,Z,v,hl,L,e,V,by lia,λkk O R H2 q c m le wn I U no=>?_⟩;have ab:=m.few;refine xw2 Z Z ⟨g,R,O,n+kk,Z,c.at',I,by lia,?_⟩;obtain⟨b1,b2,b3,b4⟩:=Wx U;refine xw3 Z Z Z (xw2 Z Z (xq2 Z Z (xw2 Z Z (xq2 Z Z (xq1 Z ?_)))));refine⟨g,R,O,n+kk+1,(x+2^(n+kk)).toNat,(y+2^(n+kk)).toNat,Y,by rw[O1 b3,O1 b4];rfl,c.at',c.ok,I,by lia,b1,b2,X,by lia,λS G2 H3 l C d W=>?_⟩;have ac:=d.few;have z:=c.fr l C d;have D:=W.lev d.ok X;refine⟨g,G2,S,n+kk,Z,z,D,by lia,λr G3 H4 u B p tr=>?_⟩;have b:=d.trans p;exact k r kk O S G3 H4 ((Ay.fr N).trans (q.trans (l.trans u))) B ((m.trans b).mono A0) ⟨le,wn.app b,b.lev I,U,no,W.app p,tr⟩
end
structure Cl where
x:Int
y:Int
s:Nat
def MU(H:Hp)(t:R_)(c:Cl):Prop:=H t=some (.tup [.int c.x,.int c.y,.int c.s])
structure ClOk(c:Cl):Prop where
li:Ev c.x c.y 1 1 (2^40)
s:c.s<8
theorem Lr.app{G a:Gv}{m n f:Nat}{x y:Int}{s r k w i:Nat}(go:AG G a m)(h:Lr G n f x y s r k w i):Lr a n f x y s r k w i:=⟨h.le,h.wid.app go,go.lev h.lw,h.li,h.no,h.rep.app go,h.tr.app go⟩
inductive SM(G:Gv):List Cl->Nat->Nat->Prop
|nil:SM G [] 0 (bareN 1)
|cons {cs:List Cl} {c:Cl} {n f r k w i m:Nat} (h:SM G cs n f) (l:Ak G f ((n+1:Nat):Int)) (p:Lr G n f c.x c.y c.s r k w i) (l':Ak G r ((m+1:Nat):Int)):SM G (c::cs) m r
theorem SM.app{G a:Gv}{m:Nat}(go:AG G a m){cs:List Cl}{n f:Nat}(h:SM G cs n f):SM a cs n f:=by
 induction h with
 |nil=>exact .nil
 |cons _ l p c b=>exact .cons b (go.lev l) (p.app go) (go.lev c)
section
variable{P:N_}{w:Q_}{K:O_}{mg:C_}{base:T_}{a:Ad}
inductive SpFld(a:Ad)(vs:List V)(H:Hp)(Q:VK):Prop
|mk (g:GA) (G:Gv) (L:R_) (ts:H_) (cs:List Cl) (_:vs=[.ref g.p,.ref L]) (_:AS a H g G) (_:H L=some (.lst (ts.map V.ref))) (_:L≠g.lv) (_:L≠g.pt) (_:Paired (MU H) ts cs) (_:(∀c∈cs,ClOk c)) (_:G.length+400*cs.length<8000000) (_:∀(f n:Nat)(G':Gv)(H':Hp),Fr g H H'->AS a H' g G'->AG G G' (400*cs.length)->n<=40->Ak G' f ((n+1:Nat):Int)->SM G' cs.reverse n f->Q (.int f) H'):SpFld a vs H Q
def ZF(a:Ad):Sp:=λvs H Q _=>SpFld a vs H Q
theorem ok_fld(F:Fun K "field_of" "field_of" LL f fd)(T:Top K mg a)(b8:Cal P w K mg base CX0 1 "bare_field" Sb (Oz a))(cS:Cal P w K mg base CX0 55 "planted" Np (RC a)):AN P w K mg base CX0 56 f fd LS (ZF a):=by
 refine F.ok GG D_9 λaa A W s H vs Q E hr h=>?_
 obtain⟨g,G,L,ts,cs,rfl,z,O,n1,n2,pr,U,few,k⟩:=h;obtain⟨r0,e0⟩:=z.g0;have S:=K5 pr;refine⟨_,(Ab (Ao (i:=2) GG.nd Z O_9 (Aq b8 (rm hr) Z Am (Aa (pv 0) Ac))) (Ab (CK X8 Z (CO (pv 1)) (Bv (i:=3) GG.nd Z O_9) (Af (Ao (i:=2) GG.nd Z O_9 (Aq cS (rm hr) Z Am (Aa (pv 0) (Aa (pv 2) (Aa (Ai Al (pv 3) Ae R_9) (Aa (Ai Al (pv 3) Ae R_9) (Aa (Ai Al (pv 3) Ae R_9) Ac))))))))) (Af (Au (pv 2))))),?_⟩
 try dsimp only[cxK]
 refine xq1 Z ⟨g,G,Z,z,?_⟩;refine xq1 Z ⟨L,Z,⟨_,SqL.of O⟩,?_⟩;refine Ub (xs:=ts.map V.ref) (λj σ u=>∃(b:Gv)(f n:Nat)(X:Option V),σ=[some (.ref g.p),some (.ref L),some (.int f),X]/\Fr g H u/\AS a u g b/\AG G b (400*j)/\n<=40/\Ak b f ((n+1:Nat):Int)/\SM b (cs.take j).reverse n f) ⟨G,bareN 1,0,none,Z,Fr.refl g H,z,AG.refl z.ok,by lia,Eu e0 A0,.nil⟩ (λj σ u _ ⟨_,_,_,_,_,fr,_⟩=>SqL.of (fr _ _ O n1 n2 (AE O z.at'.nm A3))) ?_ ?_
 .rintro j v σ u Y ⟨b,M,n,X,rfl,fr,e,go,q,D,B⟩;rw[B8]at Y;obtain⟨t,et,rfl⟩:=D6.mp Y;obtain⟨c,I,hc⟩:=PairedM.getL pr et;have d:=U c (D5 I);have hj:j<cs.length:=(B7.mp I).1;have o:=fr.tup z.at' hc;have gf:=go.few;refine xw3 Z Z Z (xq4 Z Z (SqT.of o) (Ah (j:=0) Z) (xwi Z Z Z (SqT.of o) (Ah (j:=1) Z) (xwi Z Z Z (SqT.of o) (Ah (j:=2) Z) ?_)));refine⟨g,b,M,n,c.x,c.y,c.s,Z,e,D,q,d.li,d.s,by lia,λr kk w' i' G2 H3 N C l pl=>?_⟩;have R:=pl.rep.lev C.ok d.s;obtain⟨m,lm,lr⟩:=Fw.lev R pl.tr;have le:=pl.le;refine⟨G2,r,m,(xq1 Z ⟨fr.trans N,C,(go.trans l).mono A0,by lia,lr,?_⟩)⟩;rw[J3,I,P9,List.reverse_append];exact .cons (B.app l) (l.lev D) pl lr
 .rintro σ u ⟨b,M,n,X,rfl,fr,e,go,q,D,B⟩;rw[B6,S]at go B;rw[L6]at B;exact xq1 Z (k M n b u fr e go q D B)
end
def Jk(G:Gv)(n f:Nat):Prop:=n=0\/∃m qs ps,n=m+1/\Os G m f qs ps/\¬BA m ps
theorem Jk.app{G a:Gv}{k n f:Nat}(go:AG G a k)(h:Jk G n f):Jk a n f:=by
 rcases h with h|⟨m,g,c,e,d,b⟩
 .exact .inl h
 .exact .inr ⟨m,g,c,e,d.app go,b⟩
end J
namespace J
open PySem L2
noncomputable def cellF(G:Gv):Nat->Nat->Nat->Nat->Nat
|0,i,_,_=>i
|n+1,i,x,y=>match G[i]? with
 |some q=>cellF G n (q.parts.getD (quad n x y) 0).toNat (x%2^n) (y%2^n)
 |none=>0
theorem Ba(n:Nat):0<2^n:=U1 A4
theorem Bc{G:Gv}{n i:Nat}{q:Sq}{a b c d:Nat}(h:DQ G n i q a b c d){x y:Nat}(e:x<2^(n+1))(f:y<2^(n+1)):cellF G (n+1) i x y=cellF G n (f4 a b c d (quad n x y)) (x%2^n) (y%2^n):=by
 rw[show cellF G (n+1) i x y=(match G[i]? with|some q=>cellF G n (q.parts.getD (quad n x y) 0).toNat (x%2^n) (y%2^n)|none=>0)from rfl,h.g];show cellF G n (q.parts.getD (quad n x y) 0).toNat _ _=_;have:=(h.nat (Dm e f)).1;rw[C7,this];rfl
theorem JX{G e:Gv}{k:Nat}(ok:GOk G)(go:AG G e k):∀{n i x y:Nat},Ak G i (n:Int)->x<2^n->y<2^n->cellF e n i x y=cellF G n i x y
|0,_,_,_,_,_,_=>rfl
|n+1,i,x,y,h,hx,hy=>by
 obtain⟨q,a,b,c,d,nd⟩:=Bk ok h;rw[Bc nd hx hy,Bc (nd.app go) hx hy];exact JX ok go (nd.nat (Dm hx hy)).2 (J1 _ (Ba n)) (J1 _ (Ba n))
theorem DW{G r:Gv}(e:G=G0++r)(ok:GOk G):∀{n x y:Nat},n<=48->x<2^n->y<2^n->cellF G n (bareN n) x y=0
|0,_,_,_,_,_=>rfl
|n+1,x,y,hn,hx,hy=>by
 obtain⟨q,a,b,c,d,nd⟩:=Bk ok (Eu e (n:=n+1) hn);have f:a=bareN n/\b=bareN n/\c=bareN n/\d=bareN n:=by
  have g:=nd.g;rw[show bareN (n+1)=8+n from rfl,Ss e n A0]at g;cases g;have s:[(bareN n:Int),(bareN n:Int),(bareN n:Int),(bareN n:Int)]=[(a:Int),(b:Int),(c:Int),(d:Int)]:=nd.ps;injection s with s0 s
  injection s with s1 s
  injection s with s2 s
  injection s with s3 s
  exact⟨(Z9 s0).symm,(Z9 s1).symm,(Z9 s2).symm,(Z9 s3).symm⟩
 obtain⟨rfl,rfl,rfl,rfl⟩:=f;rw[Bc nd hx hy];have:f4 (bareN n) (bareN n) (bareN n) (bareN n) (quad n x y)=bareN n:=by unfold f4;split<;>rfl
 rw[this];exact DW e ok A0 (J1 _ (Ba n)) (J1 _ (Ba n))
theorem Gx{n k x y:Nat}(c:k<4)(a:x<2^n)(b:y<2^n):(x+2^n*(k%2))<2^(n+1)/\(y+2^n*(k/2))<2^(n+1)/\quad n (x+2^n*(k%2)) (y+2^n*(k/2))=k/\(x+2^n*(k%2))%2^n=x/\(y+2^n*(k/2))%2^n=y:=by
 have p:=Ba n;have e:2^(n+1)=2*2^n:=by rw[F6];lia
 unfold quad;rw[O4 _ _ p,O4 _ _ p,Q0,Q0,N9 a,N9 b,P5 a,P5 b,e];generalize 2^n=h at *
 match k,c with
 |0,_=>exact⟨by lia,by lia,Z,Z,Z⟩
 |1,_=>exact⟨by lia,by lia,Z,Z,Z⟩
 |2,_=>exact⟨by lia,by lia,Z,Z,Z⟩
 |3,_=>exact⟨by lia,by lia,Z,Z,Z⟩
theorem Lo{G:Gv}(ok:GOk G):∀{n i j:Nat},Ak G i (n:Int)->Ak G j (n:Int)->(∀x y,x<2^n->y<2^n->cellF G n i x y=cellF G n j x y)->i=j
|0,i,j,_,_,h=>h 0 0 A4 A4
|n+1,i,j,hi,hj,h=>by
 obtain⟨q,a,b,c,d,nd⟩:=Bk ok hi;obtain⟨D,p,b',r,d',f⟩:=Bk ok hj;have e:∀k,k<4->f4 a b c d k=f4 p b' r d' k:=λk o=>by
  refine Lo ok (nd.nat o).2 (f.nat o).2 λx y v w=>?_;obtain⟨l,m,s,t,u⟩:=Gx o v w;have:=h _ _ l m;rw[Bc nd l m,Bc f l m,s,t,u]at this;exact this
 have z:a=p:=e 0 A4;have A:b=b':=e 1 A4;have B:c=r:=e 2 A4;have C:d=d':=e 3 A4;subst z A B C;exact ok.one nd.g f.g (nd.ps.trans f.ps.symm)
theorem Tb{n x X:Nat}(a:x/2^n=X/2^n)(b:x%2^n=X%2^n):x=X:=by
 rw[<-M9 x (2^n),<-M9 X (2^n),a,b]
theorem Tm{G:Gv}(ok:GOk G){s:Nat}(p:s<8):∀{n i X Y r x y:Nat},X<2^n->Y<2^n->x<2^n->y<2^n->Rep G s n i X Y r->cellF G n r x y=if x=X/\y=Y then s else cellF G n i x y
|0,i,X,Y,r,x,y,hX,hY,hx,hy,h=>by
 have h:r=s:=h;have t:X=0:=S7.mp hX;have u:Y=0:=S7.mp hY;have v:x=0:=S7.mp hx;have w:y=0:=S7.mp hy;subst t u v w h;rfl
|n+1,i,X,Y,r,x,y,hX,hY,hx,hy,h=>by
 obtain⟨q,a,b,c,d,j,nd,o,e⟩:=h;have I:=o.lev ok p;have lst:∀l,l<4->Ak G (st4 a b c d (quad n X Y) j l) (n:Int):=λl H=>by
  unfold st4;split
  .exact I
  .exact(nd.nat H).2
 have K:DQ G n r _ (st4 a b c d (quad n X Y) j 0) (st4 a b c d (quad n X Y) j 1) (st4 a b c d (quad n X Y) j 2) (st4 a b c d (quad n X Y) j 3):=⟨e,Z,Z,lst 0 A4,lst 1 A4,lst 2 A4,lst 3 A4⟩
 have L:=Dm hx hy;rw[Bc K hx hy,Bc nd hx hy,Qf (st4 a b c d (quad n X Y) j) L];have m:=Ba n;have O:=Ds hx;have P:=Ds hy;have M:=Ds hX;have N:=Ds hY;unfold st4;by_cases g:quad n x y=quad n X Y
 .rw[Z7 g,Tm ok p (J1 _ m) (J1 _ m) (J1 _ m) (J1 _ m) o,g];have k:x/2^n=X/2^n/\y/2^n=Y/2^n:=by
   unfold quad at g;generalize x/2^n=A at *
   generalize X/2^n=B at *
   generalize y/2^n=C at *
   generalize Y/2^n=D at *
   lia
  obtain⟨E,F⟩:=k;by_cases f:x=X/\y=Y
  .rw[Z7 f,Z7 ⟨by rw[f.1],by rw[f.2]⟩]
  .rw[Z4 f,Z4 λz=>f ⟨Tb E z.1,Tb F z.2⟩]
 .rw[Z4 g,Z4 λz=>g (by rw[z.1,z.2])]
noncomputable def fieldF(G:Gv)(n f:Nat)(x y:Int):Nat:=if -(2^n)<=x/\x<2^n/\-(2^n)<=y/\y<2^n then cellF G (n+1) f (x+2^n).toNat (y+2^n).toNat else 0
theorem Ew{n:Nat}{x:Int}(a:-(2^n)<=x)(b:x<2^n):(x+2^n).toNat<2^(n+1):=by
 have e:=Fc (n+1);rw[CF]at e;lia
theorem Dt{G a:Gv}{k n f:Nat}(ok:GOk G)(go:AG G a k)(h:Ak G f ((n+1:Nat):Int))(x y:Int):fieldF a n f x y=fieldF G n f x y:=by
 unfold fieldF;split
 .rename_i z;exact JX ok go h (Ew z.1 z.2.1) (Ew z.2.2.1 z.2.2.2)
 .rfl
theorem Sj{h X:Nat}(u:Nat)(a:h*u<=X)(b:X<h*(u+1)):X/h=u/\X%h=X-h*u:=by
 have e:X/h=u:=Nat.div_eq_of_lt_le (by rw[S1];exact a) (by rw[S1];exact b);exact⟨e,by have:=M9 X h;rw[e]at this;lia⟩
theorem MF(x n:Nat):x%2^(n+1)%2^n=x%2^n:=Nat.mod_mod_of_dvd x ⟨2,by rw[F6]⟩
theorem NJ{G:Gv}{n i:Nat}{g:L_}{c:Nat->Nat->Nat}(h:Os G n i g c){x y:Nat}(d:x<2^(n+2))(e:y<2^(n+2)):cellF G (n+2) i x y=cellF G n (c (quad (n+1) x y) (quad n (x%2^(n+1)) (y%2^(n+1)))) (x%2^n) (y%2^n):=by
 obtain⟨q,nd⟩:=h.node;have f:=Dm (l:=n+1) d e;have a:x%2^(n+1)<2^(n+1):=J1 _ (Ba _);have b:y%2^(n+1)<2^(n+1):=J1 _ (Ba _);obtain⟨j,nk⟩:=h.sub _ f;rw[Bc nd d e,Qf g f,Bc nk a b,Qf (c _) (Dm a b),MF,MF]
theorem bits{h u:Nat}(e:u<2*h):(u+h)/(2*h)=u/h/\(u+h)%(2*h)/h=1-u/h/\(u+h)%h=u%h/\u/h<2:=by
 have p:0<h:=by lia
 rcases Nat.lt_or_ge u h with z|z
 .have a:u/h=0:=N9 z;have b:(u+h)/(2*h)=0:=N9 A0;have c:(u+h)%(2*h)=u+h:=P5 A0;have d:(u+h)/h=1:=(Sj (X:=u+h) 1 A0 A0).1;exact⟨by rw[a,b],by rw[c,d,a],Nat.add_mod_right u h,by lia⟩
 .have a:u/h=1:=(Sj 1 A0 A0).1;have b:=Sj (h:=2*h) (X:=u+h) 1 A0 A0;have c:(u+h-2*h*1)/h=0:=N9 A0;exact⟨by rw[a,b.1],by rw[b.2,c,a],Nat.add_mod_right u h,by lia⟩
theorem Pm(n:Nat):2^(n+1)=2*2^n:=by rw[F6];lia
theorem mid_cell{G:Gv}(ok:GOk G){n i m:Nat}{H:L_}{a:Nat->Nat->Nat}(h:Os G n i H a)(E:G[m]?=some ⟨[(a 0 3:Int),(a 1 2:Int),(a 2 1:Int),(a 3 0:Int)],(n:Int)+1⟩){u v:Nat}(d:u<2^(n+1))(f:v<2^(n+1)):cellF G (n+2) i (u+2^n) (v+2^n)=cellF G (n+1) m u v:=by
 have c:∀k j,k<4->j<4->Ak G (a k j) (n:Int):=λk j F o=>by
  obtain⟨q,nk⟩:=h.sub k F;have:=(nk.nat o).2;rw[Qf (a k) o]at this;exact this
 have nm:DQ G n m _ (a 0 3) (a 1 2) (a 2 1) (a 3 0):=⟨E,Z,Z,c 0 3 A4 A4,c 1 2 A4 A4,c 2 1 A4 A4,c 3 0 A4 A4⟩
 have l:=Pm n;have I:2^(n+2)=2*2^(n+1):=Pm (n+1);have p:=Ba n;rw[NJ h A0 A0,Bc nm d f];unfold quad;rw[l];rw[l]at d f;apply AO;intro s b;obtain⟨t,w,x,y⟩:=bits d;obtain⟨B,b2,C,D⟩:=bits f;apply b;clear b s;rw[t,w,x,B,b2,C];have two:∀{A:Nat},A<2->A=0\/A=1:=λ{A} h=>by lia
 have e:=two y;have g:=two D;rcases e with z|z<;>rcases g with r|r<;>rw[z,r]<;>rfl
theorem mid_iff'{m X Y:Nat}{x y:Int}(j:(X:Int)=x+2^(m+1))(k:(Y:Int)=y+2^(m+1))(o:X<2^(m+2))(q:Y<2^(m+2)):quad m (X%2^(m+1)) (Y%2^(m+1))+quad (m+1) X Y=3↔(-(2^m)<=x/\x<2^m/\-(2^m)<=y/\y<2^m):=by
 have p:=Ba m;have c:=Pm m;have H:2^(m+2)=2*2^(m+1):=Pm (m+1);have E:=Fc m;have i:=Fc (m+1);rw[c]at i;unfold quad;rw[c];rw[H,c]at o q;rw[<-i]at j k;rw[<-E];generalize 2^m=h at *
 have a:∀{X:Nat}{x:Int},(X:Int)=x+((2*h:Nat):Int)->X<2*(2*h)->(X%(2*h)/h+X/(2*h)=1 ↔ -(h:Int)<=x/\x<(h:Int))/\X%(2*h)/h<2/\X/(2*h)<2:=by
  intro X x e l;have n:0<2*h:=by lia
  have M:X/(2*h)<2:=by rw[W1 n];exact l
  have N:X%(2*h)<2*h:=J1 _ n;have L:X%(2*h)/h<2:=by rw[W1 p];exact N
  have G:=M9 X (2*h);have F:=M9 (X%(2*h)) h;have S:=J1 (X%(2*h)) p;refine⟨?_,L,M⟩;generalize X/(2*h)=u at *
  generalize X%(2*h)/h=v at *
  generalize X%(2*h)%h=t at *
  generalize X%(2*h)=T at *
  have I:u=0\/u=1:=by lia
  have K:v=0\/v=1:=by lia
  rcases I with rfl|rfl<;>rcases K with rfl|rfl<;>simp only[T7,W4,M8]at F G<;>lia
 obtain⟨r,U,V⟩:=a j o;obtain⟨s,W,y2⟩:=a k q;clear a;generalize X%(2*h)/h=A at *
 generalize X/(2*h)=B at *
 generalize Y%(2*h)/h=C at *
 generalize Y/(2*h)=D at *
 constructor
 .intro z;have f:=r.mp A0;have g:=s.mp A0;exact⟨f.1,f.2,g.1,g.2⟩
 .rintro d;apply AO;intro w b;obtain⟨O,P,Q,R⟩:=d;apply b;clear b w;have f:=r.mpr ⟨O,P⟩;have g:=s.mpr ⟨Q,R⟩;lia
theorem Ra{G r:Gv}(t:G=G0++r)(ok:GOk G){n i m:Nat}(K:n<=46){D:L_}{d:Nat->Nat->Nat}(h:Os G n i D d)(s:BA n d)(u:G[m]?=some ⟨[(d 0 3:Int),(d 1 2:Int),(d 2 1:Int),(d 3 0:Int)],(n:Int)+1⟩)(x y:Int):fieldF G (n+1) i x y=fieldF G n m x y:=by
 have L:=CF n;have p:=GJ n;unfold fieldF;by_cases b:-(2^n)<=x/\x<2^n/\-(2^n)<=y/\y<2^n
 .apply AO;intro e a;obtain⟨j,k,l,o⟩:=b;apply a;clear a e;rw[Z7 ⟨by lia,by lia,by lia,by lia⟩,Z7 ⟨j,k,l,o⟩];have A:=Ew j k;have B:=Ew l o;have c:=Fc n;have v:(x+2^(n+1)).toNat=(x+2^n).toNat+2^n:=by lia
  have w:(y+2^(n+1)).toNat=(y+2^n).toNat+2^n:=by lia
  rw[v,w];exact mid_cell ok h u A B
 .rw[Z4 b];split
  .rename_i z;apply AO;intro e a;obtain⟨E,F,H,I⟩:=z;apply a;clear a e;have f:=Ew E F;have g:=Ew H I;rw[NJ h f g];have C:¬quad n ((x+2^(n+1)).toNat%2^(n+1)) ((y+2^(n+1)).toNat%2^(n+1))+quad (n+1) (x+2^(n+1)).toNat (y+2^(n+1)).toNat=3:=λq=>b ((mid_iff' (O1 A0) (O1 A0) f g).mp q);rw[s _ _ (Dm f g) (Dm (J1 _ (Ba _)) (J1 _ (Ba _))) C];exact DW t ok A0 (J1 _ (Ba _)) (J1 _ (Ba _))
  .rfl
theorem FP{G q:Gv}(b:G=G0++q)(ok:GOk G):∀{n f r:Nat},n<=47->Ak G f ((n+1:Nat):Int)->Fw G (n+1) f r->∃m,m<=n/\Ak G r ((m+1:Nat):Int)/\Jk G m r/\∀x y,fieldF G m r x y=fieldF G n f x y
|0,f,r,_,hl,h=>by
 have h:r=f:=h;subst h;exact⟨0,C0 _,hl,.inl Z,λ_ _=>Z⟩
|n+1,f,r,hn,hl,h=>by
 apply AO;intro e a;obtain⟨p,o,d,h⟩:=h;apply a;clear a e;rcases h with ⟨l,rfl⟩|⟨g,m,c,h⟩
 .exact⟨n+1,C0 _,hl,.inr ⟨n,p,o,Z,d,l⟩,λ_ _=>Z⟩
 .obtain⟨k,s,j,tk,i⟩:=FP b ok A0 ⟨_,c,by show(n:Int)+1=_;lia⟩ h;refine⟨k,by lia,j,tk,λx y=>?_⟩;rw[i x y,Ra b ok A0 d g c x y]
theorem Ye{G r:Gv}(s:G=G0++r)(ok:GOk G){n f w:Nat}(F:n<=46)(h:Wid G n f w)(x y:Int):fieldF G (n+1) w x y=fieldF G n f x y:=by
 apply AO;intro B m;obtain⟨q,a,b,c,d,I,K,L,M,nd,t,u,v,z,D⟩:=h.ex;apply m;clear m B;have i:=Eu s (n:=n) A0;have o:∀{p:Nat}{l:I_},G[p]?=some ⟨l,(n:Int)+1⟩->Ak G p ((n+1:Nat):Int):=λ{p l} e=>⟨_,e,by show(n:Int)+1=_;lia⟩
 have C:Os G n w (f4 I K L M) (λk j=>if j+k=3 then f4 a b c d k else bareN n):=by
  refine⟨⟨_,D,Z,by show(n:Int)+2=_;lia,o t,o u,o v,o z⟩,λk E=>?_⟩
  match k,E with
  |0,_=>exact⟨_,t,Z,Z,i,i,i,nd.hx⟩
  |1,_=>exact⟨_,u,Z,Z,i,i,nd.hy,i⟩
  |2,_=>exact⟨_,v,Z,Z,i,nd.hz,i,i⟩
  |3,_=>exact⟨_,z,Z,Z,nd.hw,i,i,i⟩
 have g:=nd.g;have l:=nd.lev;have A:=nd.ps;refine Ra s ok F C (λk j _ _ H=>Z4 H) ?_ x y;rw[g];cases q with
 |mk O N=>cases A;cases l;rfl
theorem FM{G r:Gv}(a:G=G0++r)(ok:GOk G){n f:Nat}:∀{k w:Nat},n+k<=46->MR G n f k w->∀x y,fieldF G (n+k) w x y=fieldF G n f x y
|0,w,_,h,x,y=>by
 have h:w=f:=h;subst h;rfl
|k+1,w,hk,h,x,y=>by
 obtain⟨u,b,c⟩:=h;rw[show n+(k+1)=n+k+1 by lia,Ye a ok A0 c x y];exact FM a ok A0 b x y
theorem Tr{G o:Gv}(e:G=G0++o)(ok:GOk G){n f s r k w i:Nat}{X Y:Int}(g:s<8)(h:Lr G n f X Y s r k w i):∃m,m<=40/\Ak G r ((m+1:Nat):Int)/\Jk G m r/\∀x y,fieldF G m r x y=if x=X/\y=Y then s else fieldF G n f x y:=by
 have le:=h.le;have d:=h.rep.lev ok g;obtain⟨m,D,lm,p,l⟩:=FP e ok A0 d h.tr;refine⟨m,by lia,lm,p,λx y=>?_⟩;rw[l x y,<-FM e ok A0 h.wid x y];apply AO;intro c a;obtain⟨j,b2,B,C⟩:=Wx h.li;obtain⟨E,F,H,I⟩:=h.li;apply a;clear a c;unfold fieldF;split
 .rename_i z;apply AO;intro c a;obtain⟨t,u,v,A⟩:=z;apply a;clear a c;rw[Tm ok g j b2 (Ew t u) (Ew v A) h.rep];by_cases b:x=X/\y=Y
  .rw[Z7 b,Z7 ⟨by rw[b.1],by rw[b.2]⟩]
  .rw[Z4 b,Z4 λq=>b ⟨by lia,by lia⟩]
 .rename_i z;rw[Z4 λq=>z ⟨by lia,by lia,by lia,by lia⟩]
theorem lives_in{G r:Gv}(a:G=G0++r)(ok:GOk G){n i:Nat}(b:n<=48)(h:Ak G i (n:Int))(e:i≠bareN n):∃x y,x<2^n/\y<2^n/\cellF G n i x y≠0:=by
 refine X6 λz=>e (Lo ok h (Eu a b) λx y c d=>?_);rw[DW a ok b c d];exact X6 λq=>z ⟨x,y,c,d,q⟩
theorem SS{G r:Gv}(L:G=G0++r)(ok:GOk G){m f:Nat}(V:m<=46)(h:Jk G (m+1) f):∃x y:Int,¬(-(2^m)<=x/\x<2^m/\-(2^m)<=y/\y<2^m)/\fieldF G (m+1) f x y≠0:=by
 rcases h with h|⟨a,qs,s,e,B,Q⟩
 .lia
 .have:a=m:=by lia
  subst this;have:∃k j,k<4/\j<4/\j+k≠3/\s k j≠bareN a:=by
   refine X6 λz=>Q λk j g d p=>X6 λq=>z ⟨k,j,g,d,p,q⟩
  apply AO;intro i b;obtain⟨k,j,g,d,p,c⟩:=this;obtain⟨W,nk⟩:=B.sub k g;apply b;clear b i;have P:Ak G (s k j) (a:Int):=by
   have:=(nk.nat d).2;rw[Qf (s k) d]at this;exact this
  obtain⟨u,v,N,O,M⟩:=lives_in L ok A0 P c;apply AO;intro i b;obtain⟨C,D,t,E,F⟩:=Gx d N O;obtain⟨w,b2,A,l,o⟩:=Gx (n:=a+1) g C D;apply b;clear b i;generalize T:u+2^a*(j%2)+2^(a+1)*(k%2)=X at *
  generalize U:v+2^a*(j/2)+2^(a+1)*(k/2)=Y at *
  have S:=Fc (a+1);have H:=Fc (a+2);have R:=CF (a+1);rw[R]at H;refine⟨(X:Int)-2^(a+1),(Y:Int)-2^(a+1),λz=>p ?_,?_⟩
  .have:=(mid_iff' (X:=X) (Y:=Y) A0 A0 w b2).mpr z;rw[A,l,o,t]at this;exact this
  .unfold fieldF;rw[Z7 ⟨by lia,by lia,by lia,by lia⟩,show((X:Int)-2^(a+1)+2^(a+1)).toNat=X by lia,show((Y:Int)-2^(a+1)+2^(a+1)).toNat=Y by lia,NJ B w b2,A,l,o,t];have I:X%2^a=u:=by rw[<-MF,l,E]
   have K:Y%2^a=v:=by rw[<-MF,o,F]
   rw[I,K];exact M
theorem Qe{G r:Gv}(i:G=G0++r)(ok:GOk G){n m f a:Nat}(j:n<=47)(d:m<=47)(l:Ak G f ((n+1:Nat):Int))(c:Ak G a ((m+1:Nat):Int))(t:Jk G n f)(t':Jk G m a)(h:∀x y,fieldF G n f x y=fieldF G m a x y):n=m/\f=a:=by
 have le:∀{n m f a:Nat},m<=47->Jk G m a->(∀x y,fieldF G n f x y=fieldF G m a x y)->m<=n:=by
  intro n m f a d t' h;refine P6 λz=>?_;obtain⟨k,rfl⟩:∃k,m=k+1:=⟨m-1,by lia⟩
  obtain⟨x,y,out,b⟩:=SS i ok A0 t';rw[<-h x y]at b;unfold fieldF at b;split at b
  .rename_i q;have:(2:Int)^n<=2^k:=by
    have:=M7 (show 0<2 by decide) (show n<=k by lia)
    exact_mod_cast this
   exact out ⟨by lia,by lia,by lia,by lia⟩
  .exact b Z
 have s:=le d t' h;have u:=le j t λx y=>(h x y).symm;have e:n=m:=by lia
 subst e;refine⟨Z,Lo ok l c λx y v w=>?_⟩;have p:=Fc n;have g:=Fc (n+1);have o:=CF n;rw[o]at g;have:=h ((x:Int)-2^n) ((y:Int)-2^n);unfold fieldF at this;rw[Z7 ⟨by lia,by lia,by lia,by lia⟩,Z7 ⟨by lia,by lia,by lia,by lia⟩,show((x:Int)-2^n+2^n).toNat=x by lia,show((y:Int)-2^n+2^n).toNat=y by lia]at this;exact this
def Fix:HO->Prop
|.tup _=>True
|.ins _ _ _=>True
|_=>False
def Fx(l:H_)(H H':Hp):Prop:=∀b o,H b=some o->(b∈l->Fix o)->H' b=some o
theorem Fx.refl(l:H_)(H:Hp):Fx l H H:=λ_ _ e _=>e
theorem Fx.trans{l:H_}{a c d:Hp}(h:Fx l a c)(f:Fx l c d):Fx l a d:=λb o e n=>f b o (h b o e n) n
theorem Ay.fx{l:H_}{a c:Hp}(h:Ay a c):Fx l a c:=λb o e _=>h b o e
theorem Fx.mono{l m:H_}{a c:Hp}(h:Fx l a c)(s:∀x∈l,x∈m):Fx m a c:=λb o e n=>h b o e λz=>n (s b z)
theorem Fx.get{l:H_}{a c:Hp}(h:Fx l a c){b:R_}{o:HO}(n:b∉l)(e:a b=some o):c b=some o:=h b o e λz=>absurd z n
theorem Fx.tup{l:H_}{a c:Hp}(h:Fx l a c){b:R_}{xs:List V}(e:a b=some (.tup xs)):c b=some (.tup xs):=h b _ e λ_=>True.intro
theorem fx_up{H:Hp}{x:R_}{o o':HO}(e:H x=some o)(n:¬Fix o):Fx [x] H (upd H x o'):=λb u a f=>by
 by_cases z:b=x
 .subst z;rw[e]at a;cases a;exact absurd (f (D1.mpr Z)) n
 .rw[As z];exact a
theorem Fr.fx{a:Ad}{g:GA}{G:Gv}{H c:Hp}(h:Fr g H c)(at':AM a H g G):Fx [g.lv,g.pt,g.nm] H c:=λb o e f=>by
 obtain⟨i,d,_⟩:=at'.pt;refine h b o e (λz=>?_) (λz=>?_) (λz=>?_)
 .subst z;rw[at'.lv]at e;cases e;exact f A6
 .subst z;rw[d]at e;cases e;exact f A6
 .subst z;rw[at'.nm]at e;cases e;exact f A6
theorem FrQ.fx{a:Ad}{g:GA}{G:Gv}{H c:Hp}(h:FrQ g H c)(d:AS a H g G):Fx [g.am,g.bx] H c:=λb o e f=>by
 obtain⟨ks,i,_⟩:=d.am;obtain⟨k,j,_⟩:=d.bx;refine h b o e (λz=>?_) (λz=>?_)
 .subst z;rw[i]at e;cases e;exact f A6
 .subst z;rw[j]at e;cases e;exact f A6
noncomputable def Dg(g:GA):List Addr:=[g.lv,g.pt,g.nm,g.br,g.am,g.bx]
theorem AS.fx{a:Ad}{g:GA}{G:Gv}{H c:Hp}{l:H_}(h:AS a H g G)(f:Fx l H c)(n:∀x∈Dg g,x∉l):AS a c g G:=by
 obtain⟨at',ok,w,k,⟨ks,y,A⟩,⟨d,B,j⟩,D,E,F⟩:=h;obtain⟨I,K,⟨P,L,M⟩,N,O⟩:=at';have m:∀x∈Dg g,∀o,H x=some o->c x=some o:=λx C o e=>f.get (n x C) e;refine⟨⟨f _ _ I λ_=>True.intro,m _ (by simp[Dg]) _ K,⟨P,m _ (by simp[Dg]) _ L,PairedM.imp (λt q z=>f.tup z) M⟩,m _ (by simp[Dg]) _ N,O⟩,ok,w,m _ (by simp[Dg]) _ k,⟨ks,m _ (by simp[Dg]) _ y,A⟩,⟨d,m _ (by simp[Dg]) _ B,j.keys,λi v e=>?_⟩,D,E,F⟩;obtain⟨l,b,t,p,r,s,u⟩:=j.val i v e;exact⟨l,b,t,p,r,s,f.tup u⟩
theorem Ay.noneOf{H a:Hp}(s:Ay H a){x:R_}(n:a x=none):H x=none:=by
 cases e:H x with
 |none=>rfl
 |some o=>rw[s _ _ e]at n;cases n
structure Nw(H:Hp)(l:H_):Prop where
nd:l.Nodup
s:∀x∈l,∃o,H x=some o
theorem AS.nw{a:Ad}{H:Hp}{g:GA}{G:Gv}(h:AS a H g G):Nw H (Dg g):=by
 obtain⟨⟨_,f,⟨u,i,_⟩,b,m⟩,_,_,j,⟨ks,c,_⟩,⟨p,d,_⟩,q,r,s⟩:=h;have t:∀{x y:R_}{o o':HO},H x=some o->H y=some o'->o≠o'->x≠y:=λ{x y o o'} e l n=>AE e l n;refine⟨?_,λx k=>?_⟩
 .simp only[Dg,M6,C1,D7,K6,A4e,A3d,O5,and_true];exact⟨⟨m,t f b A3,X5 q,t f c A3,t f d A3⟩,⟨t i b A3,X5 r,t i c A3,t i d A3⟩,⟨t b j A3,t b c A3,t b d A3⟩,⟨t j c A3,t j d A3⟩,s⟩
 .simp only[Dg,C1,D7,K6]at k;rcases k with rfl|rfl|rfl|rfl|rfl|rfl
  .exact⟨_,f⟩
  .exact⟨_,i⟩
  .exact⟨_,b⟩
  .exact⟨_,j⟩
  .exact⟨_,c⟩
  .exact⟨_,d⟩
theorem DG{H:Hp}{x y:R_}{o:HO}(h:upd H x o y=none):H y=none:=by
 by_cases e:y=x
 .subst e;rw[Ag]at h;cases h
 .rw[As e]at h;exact h
theorem Uy.none{a:Ad}{H c:Hp}{x dx:R_}{o o':HO}{g:GA}{G:Gv}{B:I_}{d:List (Key×V)}(N:Uy a (upd (upd H dx o) x o') c g G B d):∀y∈Dg g,H y=none:=λy b=>by
 obtain⟨e,f,h,f4,i,j⟩:=N.fresh;simp only[Dg,C1,D7,K6]at b;rcases b with rfl|rfl|rfl|rfl|rfl|rfl
 .exact DG (DG e)
 .exact DG (DG f)
 .exact DG (DG h)
 .exact DG (DG f4)
 .exact DG (DG i)
 .exact DG (DG j)
theorem Ay.fxn{H a c:Hp}{m:H_}(s:Ay H a)(f:Fx m a c)(n:∀y∈m,H y=none):Ay H c:=λb o e=>f.get (λz=>by rw[n b z]at e;cases e) (s _ _ e)
theorem ev_test{c:TT}{σ:St}{H:Hp}{Q:Bool->Hp->Prop}(b:Bool)(h:∀a:Bool->Hp->Prop,a b H->c σ H a)(q:Q b H):c σ H Q:=h Q q
theorem ev_val{t:TE}{σ:St}{H:Hp}{Q:VK}(P:V->Hp->Prop)(h:∀b:VK,(∀v a,P v a->b v a)->t σ H b)(q:∀v a,P v a->Q v a):t σ H Q:=h Q q
structure Qp(L:Int->Int->Prop)(b:Bx):Prop where
inn:∀u v,L u v->b.l<=u/\u<b.l+b.w/\b.t<=v/\v<b.t+b.h
le:∃v,L b.l v
to:∃u,L u b.t
ri:∃v,L (b.l+b.w-1) v
bo:∃u,L u (b.t+b.h-1)
theorem TN{l:I_}(h:l≠[]):mnL l∈l/\∀x∈l,mnL l<=x:=by
 unfold mnL;cases e:l.min? with
 |none=>exact absurd (List.min?_eq_none_iff.mp e) h
 |some m=>exact List.min?_eq_some_iff.mp e
theorem TL{l:I_}(h:l≠[]):mxL l∈l/\∀x∈l,x<=mxL l:=by
 unfold mxL;cases e:l.max? with
 |none=>exact absurd (List.max?_eq_none_iff.mp e) h
 |some m=>exact List.max?_eq_some_iff.mp e
theorem Yh{L:Int->Int->Prop}{bs:List Bx}(d:bs≠[])(a:∀b∈bs,∃M:Int->Int->Prop,Qp M b/\∀u v,M u v->L u v)(H:∀u v,L u v->∃b∈bs,b.l<=u/\u<b.l+b.w/\b.t<=v/\v<b.t+b.h):Qp L (PV bs):=by
 have P:bs.map (·.l)≠[]:=λz=>d (S4.mp z);have Q:bs.map (·.t)≠[]:=λz=>d (S4.mp z);have R:(bs.map λb=>b.l+b.w)≠[]:=λz=>d (S4.mp z);have S:(bs.map λb=>b.t+b.h)≠[]:=λz=>d (S4.mp z);obtain⟨I,m⟩:=TN P;obtain⟨K,n⟩:=TN Q;obtain⟨N,o⟩:=TL R;obtain⟨O,p⟩:=TL S;obtain⟨r,e,F⟩:=C8.mp I;obtain⟨b2,f,G⟩:=C8.mp K;obtain⟨y,g,j⟩:=C8.mp N;obtain⟨A,i,k⟩:=C8.mp O;unfold PV;refine⟨λu v q=>?_,?_,?_,?_,?_⟩
 .obtain⟨b,c,T,U,V,W⟩:=H u v q;have B:=m _ (C8.mpr ⟨b,c,Z⟩);have C:=n _ (C8.mpr ⟨b,c,Z⟩);have D:=o _ (C8.mpr ⟨b,c,Z⟩);have E:=p _ (C8.mpr ⟨b,c,Z⟩);dsimp only at B C D E⊢;lia
 .obtain⟨M,t,s⟩:=a r e;obtain⟨v,x⟩:=t.le;exact⟨v,by rw[F]at x;exact s _ _ x⟩
 .obtain⟨M,t,s⟩:=a b2 f;obtain⟨v,x⟩:=t.to;exact⟨v,by rw[G]at x;exact s _ _ x⟩
 .obtain⟨M,t,s⟩:=a y g;obtain⟨v,x⟩:=t.ri;refine⟨v,?_⟩;dsimp only at j⊢;rw[j]at x;have:=s _ _ x;rw[show mnL (bs.map (·.l))+(mxL (bs.map λb=>b.l+b.w)-mnL (bs.map (·.l)))-1=mxL (bs.map λb=>b.l+b.w)-1 by lia];exact this
 .obtain⟨M,t,s⟩:=a A i;obtain⟨v,x⟩:=t.bo;refine⟨v,?_⟩;dsimp only at k⊢;rw[k]at x;have:=s _ _ x;rw[show mnL (bs.map (·.t))+(mxL (bs.map λb=>b.t+b.h)-mnL (bs.map (·.t)))-1=mxL (bs.map λb=>b.t+b.h)-1 by lia];exact this
theorem PP{half:Int}{b:Bx}:∀{a:List (Option Bx)}{k:Nat},b∈DY half k a ↔ ∃(j:Nat)(c:Bx),a[j]?=some (some c)/\b=shB half (k+j) c
|[],k=>⟨(λh=>by cases h),(λh=>by obtain⟨j,c,h,_⟩:=h;simp at h)⟩
|none::r,k=>by
 rw[show DY half k (none::r)=DY half (k+1) r from rfl,PP];constructor
 .rintro⟨j,c,h,e⟩;exact⟨j+1,c,by simpa using h,by rw[e,show k+1+j=k+(j+1) by lia]⟩
 .rintro⟨j,c,h,e⟩;cases j with
  |zero=>simp at h
  |succ j=>exact⟨j,c,by simpa using h,by rw[e,show k+1+j=k+(j+1) by lia]⟩
|some d::r,k=>by
 rw[show DY half k (some d::r)=shB half k d::DY half (k+1) r from rfl,C1,PP];constructor
 .rintro(h|⟨j,c,h,e⟩)
  .exact⟨0,d,Z,h⟩
  .exact⟨j+1,c,by simpa using h,by rw[e,show k+1+j=k+(j+1) by lia]⟩
 .rintro⟨j,c,h,e⟩;cases j with
  |zero =>
   have h:d=c:=by simpa using h
   subst h;exact .inl e
  |succ j=>exact .inr ⟨j,c,by simpa using h,by rw[e,show k+1+j=k+(j+1) by lia]⟩
def Lv(G:Gv)(n i:Nat)(u v:Int):Prop:=∃a b:Nat,u=a/\v=b/\a<2^n/\b<2^n/\cellF G n i a b≠0
theorem Wv{G:Gv}{n i:Nat}{q:Sq}{a b c d:Nat}(nd:DQ G n i q a b c d)(u v:Int):Lv G (n+1) i u v ↔ ∃k,k<4/\Lv G n (f4 a b c d k) (u-2^n*((k:Int)%2)) (v-2^n*((k:Int)/2)):=by
 have h:=Fc n;constructor
 .rintro⟨x,y,rfl,rfl,f,g,j⟩;rw[Bc nd f g]at j;have C:=Ds f;have D:=Ds g;refine⟨quad n x y,Dm f g,x%2^n,y%2^n,?_,?_,J1 _ (Ba n),J1 _ (Ba n),j⟩
  .have e:=M9 x (2^n);have l:((quad n x y:Nat):Int)%2=((x/2^n:Nat):Int):=by
    unfold quad;generalize x/2^n=A at *
    generalize y/2^n=B at *
    lia
   rw[l,<-h,<-N5];lia
  .have e:=M9 y (2^n);have l:((quad n x y:Nat):Int)/2=((y/2^n:Nat):Int):=by
    unfold quad;generalize x/2^n=A at *
    generalize y/2^n=B at *
    lia
   rw[l,<-h,<-N5];lia
 .rintro⟨k,t,x,y,w,z,f,g,j⟩;obtain⟨m,o,p,r,s⟩:=Gx t f g;refine⟨x+2^n*(k%2),y+2^n*(k/2),?_,?_,m,o,?_⟩
  .rw[N2,N5,h,show((k%2:Nat):Int)=(k:Int)%2 from rfl];lia
  .rw[N2,N5,h,show((k/2:Nat):Int)=(k:Int)/2 from rfl];lia
  .rw[Bc nd m o,p,r,s];exact j
theorem QW{L:Int->Int->Prop}{b:Bx}{half:Int}{k:Nat}(h:Qp L b):Qp (λu v=>L (u-half*((k:Int)%2)) (v-half*((k:Int)/2))) (shB half k b):=by
 obtain⟨a,f⟩:=h.le;obtain⟨c,g⟩:=h.to;obtain⟨d,i⟩:=h.ri;obtain⟨e,j⟩:=h.bo;unfold shB;generalize half*((k:Int)%2)=p;generalize half*((k:Int)/2)=q;refine⟨λu v m=>?_,⟨a+q,?_⟩,⟨c+p,?_⟩,⟨d+q,?_⟩,⟨e+p,?_⟩⟩
 .have:=h.inn _ _ m;dsimp only;lia
 .show L (b.l+p-p) (a+q-q);rw[O2,O2];exact f
 .show L (c+p-p) (b.t+q-q);rw[O2,O2];exact g
 .show L (b.l+p+b.w-1-p) (d+q-q);rw[O2,show b.l+p+b.w-1-p=b.l+b.w-1 by lia];exact i
 .show L (e+p-p) (b.t+q+b.h-1-q);rw[O2,show b.t+q+b.h-1-q=b.t+b.h-1 by lia];exact j
theorem NL{G:Gv}(ok:GOk G):∀{n i:Nat}{b:Bx},Ak G i (n:Int)->BY G n i=some b->Qp (Lv G n i) b
|0,i,b,_,h=>by
 have h:(if i=0 then none else some (⟨0,0,1,1⟩:Bx))=some b:=h;by_cases z:i=0
 .rw[Z7 z]at h;cases h
 .rw[Z4 z]at h;cases h;have w:Lv G 0 i 0 0:=⟨0,0,Z,Z,by decide,by decide,z⟩
  refine⟨λu v m=>?_,⟨0,w⟩,⟨0,w⟩,⟨0,w⟩,⟨0,w⟩⟩;obtain⟨x,y,rfl,rfl,o,p,_⟩:=m;have o:x<1:=o;have p:y<1:=p;dsimp only;lia
|n+1,i,b,l,h=>by
 obtain⟨q,a,b',c,d,nd⟩:=Bk ok l;rw[FL nd]at h;have s:∀k,k<4->[BY G n a,BY G n b',BY G n c,BY G n d][k]?=some (BY G n (f4 a b' c d k)):=λk f=>by
  match k,f with
  |0,_=>rfl
  |1,_=>rfl
  |2,_=>rfl
  |3,_=>rfl
 have r:∀e,e∈DY (2^n) 0 [BY G n a,BY G n b',BY G n c,BY G n d] ↔ ∃k g,k<4/\BY G n (f4 a b' c d k)=some g/\e=shB (2^n) k g:=λe=>by
  rw[PP];constructor
  .rintro⟨j,H,D,rfl⟩;have F:j<4:=(B7.mp D).1;rw[s j F]at D;exact⟨j,H,F,X4 D,by rw[M8]⟩
  .rintro⟨k,g,f,A,rfl⟩;exact⟨k,g,by rw[s k f,A],by rw[M8]⟩
 unfold QB at h;cases C:DY (2^n) 0 [BY G n a,BY G n b',BY G n c,BY G n d]with
 |nil=>rw[C]at h;cases h
 |cons M R =>
  rw[C]at h;have h:=X4 h;rw[C]at r;subst h;refine Yh A6 (λe K=>?_) λu v m=>?_
  .obtain⟨k,g,f,A,rfl⟩:=(r e).mp K;refine⟨_,QW (NL ok (nd.nat f).2 A),λu v m=>(Wv nd u v).mpr ⟨k,f,m⟩⟩
  .obtain⟨k,f,m⟩:=(Wv nd u v).mp m;cases B:BY G n (f4 a b' c d k)with
   |none =>
    have I:=(MQ ok n _ (nd.nat f).2).mp B;obtain⟨x,y,_,_,o,p,L⟩:=m;exact absurd (cell_none ok (nd.nat f).2 I o p) L
   |some g =>
    have t:=QW (half:=2^n) (k:=k) (NL ok (nd.nat f).2 B);exact⟨_,(r _).mpr ⟨k,g,f,B,Z⟩,t.inn u v m⟩
where cell_none {G:Gv} (ok:GOk G):∀{n i x y:Nat},Ak G i (n:Int)->BW G n i=0->x<2^n->y<2^n->cellF G n i x y=0
|0,i,x,y,_,h,_,_=>by
 have h:(if i=0 then(0:Int)else 1)=0:=h;show i=0;by_cases z:i=0
 .exact z
 .rw[Z4 z]at h;lia
|n+1,i,x,y,l,h,o,p=>by
 obtain⟨q,a,b,c,d,nd⟩:=Bk ok l;have e:=FJ nd;have e:BW G (n+1) i=BW G n a+(BW G n b+(BW G n c+(BW G n d+0))):=e;have N:=EZ G n a;have O:=EZ G n b;have P:=EZ G n c;have Q:=EZ G n d;have E:=Dm o p;rw[Bc nd o p];refine cell_none ok (nd.nat E).2 ?_ (J1 _ (Ba n)) (J1 _ (Ba n));generalize quad n x y=k at E
 match k,E with
 |0,_=>show BW G n a=0;lia
 |1,_=>show BW G n b=0;lia
 |2,_=>show BW G n c=0;lia
 |3,_=>show BW G n d=0;lia
seal L2.PA L2.PE L2.PS L2.PSs L2.PT L2.PW
theorem TU{G:Gv}{n f:Nat}(x y:Int):Lv G (n+1) f (x+2^n) (y+2^n)↔fieldF G n f x y≠0:=by
 have c:=Fc n;have e:=Pm n;constructor
 .rintro⟨u,v,i,j,k,l,a⟩;unfold fieldF;rw[Z7 ⟨by lia,by lia,by lia,by lia⟩,show(x+2^n).toNat=u by lia,show(y+2^n).toNat=v by lia];exact a
 .intro a;unfold fieldF at a;split at a
  .rename_i z;obtain⟨b,d,g,h⟩:=z;exact⟨(x+2^n).toNat,(y+2^n).toNat,by lia,by lia,Ew b d,Ew g h,a⟩
  .exact absurd Z a
noncomputable def mvB(r:Int)(b:Bx):Bx:=⟨b.l+-r,b.t+-r,b.w,b.h⟩
theorem ST{G:Gv}(ok:GOk G){n f:Nat}(l:Ak G f ((n+1:Nat):Int)){b:Bx}(h:BY G (n+1) f=some b):Qp (λx y=>fieldF G n f x y≠0) (mvB (2^n) b):=by
 have t:=NL ok l h;obtain⟨j,a⟩:=t.le;obtain⟨k,c⟩:=t.to;obtain⟨g,d⟩:=t.ri;obtain⟨i,e⟩:=t.bo;have go:∀{u v:Int},Lv G (n+1) f u v->fieldF G n f (u+-(2^n)) (v+-(2^n))≠0:=λ{u v} m=>(TU _ _).mp (by rw[show u+-(2^n)+2^n=u by lia,show v+-(2^n)+2^n=v by lia];exact m);unfold mvB;refine⟨λx y m=>?_,⟨_,go a⟩,⟨_,go c⟩,⟨g+-(2^n),?_⟩,⟨i+-(2^n),?_⟩⟩
 .have:=t.inn _ _ ((TU x y).mpr m);dsimp only;lia
 .have:=go d;rw[show b.l+b.w-1+-(2^n)=b.l+-(2^n)+b.w-1 by lia]at this;exact this
 .have:=go e;rw[show b.t+b.h-1+-(2^n)=b.t+-(2^n)+b.h-1 by lia]at this;exact this
section
variable{P:N_}{w:Q_}{K:O_}{mg:C_}{base:T_}{a:Ad}
inductive WZ(a:Ad)(vs:List V)(H:Hp)(Q:VK):Prop
|mk (g:GA) (G:Gv) (f n:Nat) (_:vs=[.ref g.p,.int f]) (_:AS a H g G) (_:Ak G f ((n+1:Nat):Int)) (_:n<48) (_:G.length<8000000) (_:(BY G (n+1) f=none->∀H',FrQ g H H'->AS a H' g G->Q .non H')) (_:∀b,BY G (n+1) f=some b->∀t H',FrQ g H H'->AS a H' g G->NP H' t (mvB (2^n) b)->Q (.ref t) H'):WZ a vs H Q
def RG(a:Ad):Sp:=λvs H Q _=>WZ a vs H Q
theorem ok_boxof(F:Fun K "box_of" "box_of" Pg f fd)(T:Top K mg a)(B:BJ P w K mg base CX0 101 a.c_Grove "span" JP (UB a))(y:Cal P w K mg base CX0 4 "reach_of" UX (GF a))(z:Cal P w K mg base CX0 1 "shifted_box" QC Mh):AN P w K mg base CX0 102 f fd UX (RG a):=by
 refine F.ok Na D_9 λC A m s H vs Q E e h=>?_
 obtain⟨g,G,r,n,rfl,u,v,k,few,M,N⟩:=h;refine⟨_,(Ab (Ao (i:=2) Na.nd Z O_9 (AC (pv 0) B (rm e) Am (Aa (pv 1) Ac))) (Ab (AQ (Az Je (pv 2) DK (AD _)) (Af (Au DK)) Ax) (Ab (Ao (i:=3) Na.nd Z O_9 (Aq y (rm e) Z Am (Aa (pv 0) (Aa (pv 1) Ac)))) (Af (Au (Aq z (rm e) Z Am (Aa (pv 2) (Aa (Fd CU (pv 3)) (Aa (Fd CU (pv 3)) Ac))))))))),?_⟩
 try dsimp only[cxK]
 refine xq1 Z ⟨g.p,g.dx,(xq1 Z ⟨u.at'.hp,no_span g,(xq1 Z ⟨g,G,r,n+1,Z,u,v,by lia,λI q d c=>?_,λb D t q d c L=>?_⟩)⟩)⟩
 .exact xq1 Z ⟨Z,(xq1 Z (Cg (M I q d c)))⟩
 .refine xq1 Z ⟨Z,(xq1 Z (AX ?_))⟩;refine xw2 Z Z ⟨g,G,r,n,Z,c.at',v,k,?_⟩;refine xw3 Z Z Z (xw2 Z Z ⟨t,b,_,_,Z,L,λt' j=>?_⟩);have x:=AK (o:=.tup [.int (b.l+-(2^n)),.int (b.t+-(2^n)),.int b.w,.int b.h]) j;exact N b D t' _ (d.trans (Ay.frq x)) (c.same x) Ag
end
end J
namespace J
open PySem L2
theorem cel_F{G:Gv}(ok:GOk G):∀{n i x y:Nat},Ak G i (n:Int)->x<2^n->y<2^n->cel G n i x y=cellF G n i x y
|0,_,_,_,_,_,_=>rfl
|n+1,i,x,y,h,hx,hy=>by
 obtain⟨q,a,b,c,d,nd⟩:=Bk ok h;rw[Bc nd hx hy];have p:=Ba n;have f:x/2^n<2:=Nat.div_lt_of_lt_mul (by rw[F6]at hx;lia);have j:y/2^n<2:=Nat.div_lt_of_lt_mul (by rw[F6]at hy;lia);have e:qO G i ((x/2^n)%2+2*((y/2^n)%2))=f4 a b c d (quad n x y):=by
  have:=(nd.nat (Dm hx hy)).1;unfold qO;rw[nd.g,P5 f,P5 j];show(q.parts.getD (quad n x y) 0).toNat=_;rw[C7,this];rfl
 show cel G n (qO G i ((x/2^n)%2+2*((y/2^n)%2))) x y=_;rw[e,<-cel_F ok (nd.nat (Dm hx hy)).2 (J1 _ p) (J1 _ p)];have:=SB G n (f4 a b c d (quad n x y)) (x%2^n) (y%2^n) (x/2^n) (y/2^n);rw[Nat.mod_add_div,Nat.mod_add_div]at this;exact this
theorem Sx{α β:Type}(f:α->List β)(m:Nat):∀l:List α,(∀x∈l,(f x).length<=m)->(l.flatMap f).length<=l.length*m
|[],_=>by simp
|a::l,h=>by
 have:=Sx f m l λx b=>h x (C4 _ b);have:=h a C2;rw[S9,C3,F0,V5];lia
structure ZS(a:Ad)(H:Hp)(g:GA)(G:Gv)(Κ:KTy)(N b:Nat)(p dx mem pr:R_)(r:AI)(m:MA):Prop where
jz:JZ a H g G Κ N b p dx mem pr r m
fu:AS a H g G
na:g.am∉m.ds
nb:g.bx∉m.ds
def FrZ(g:GA)(m:MA)(H H':Hp):Prop:=∀b o,H b=some o->b∉[g.lv,g.pt,g.nm,g.am,g.bx,m.kc]->b∉m.ds->H' b=some o
section
variable{a:Ad}{H H' H1 H2 H3:Hp}{g:GA}{G G':Gv}{Κ:KTy}{N b i:Nat}{p dx mem pr:R_}{r:AI}{m:MA}
theorem FrZ.trans(h:FrZ g m H1 H2)(k:FrZ g m H2 H3):FrZ g m H1 H3:=λb o e c d=>k b o (h b o e c d) c d
theorem Ay.z(s:Ay H H'):FrZ g m H H':=λb o e _ _=>s b o e
theorem Fr.z(f:Fr g H H'):FrZ g m H H':=λb o e c _=>f b o e (λz=>c (by simp[z])) (λz=>c (by simp[z])) (λz=>c (by simp[z]))
theorem FrQ.z(f:FrQ g H H'):FrZ g m H H':=λb o e c _=>f b o e (λz=>c (by simp[z])) (λz=>c (by simp[z]))
theorem FrJ.z(f:FrJ g m H H'):FrZ g m H H':=λb o e c d=>f b o e (λz=>c (by simp[z])) (λz=>c (by simp[z])) (λz=>c (by simp[z])) (λz=>c (by simp[z])) d
theorem ZS.same(h:ZS a H g G Κ N b p dx mem pr r m)(s:Ay H H'):ZS a H' g G Κ N b p dx mem pr r m:=⟨h.jz.same s,h.fu.same s,h.na,h.nb⟩
theorem ZS.mono{b':Nat}(h:ZS a H g G Κ N b p dx mem pr r m)(e:b<=b'):ZS a H g G Κ N b' p dx mem pr r m:=⟨h.jz.mono e,h.fu,h.na,h.nb⟩
theorem ZS.fr(h:ZS a H g G Κ N b p dx mem pr r m)(f:Fr g H H')(c:AS a H' g G')(go:AG G G' i):ZS a H' g G' Κ N (b+i) p dx mem pr r m:=⟨h.jz.fr f c.at' go,c,h.na,h.nb⟩
theorem ZS.frQ(h:ZS a H g G Κ N b p dx mem pr r m)(f:FrQ g H H')(j:AS a H' g G):ZS a H' g G Κ N b p dx mem pr r m:=by
 have c:=h.jz.jw;have nd:∀{x:R_}{o:HO},H x=some o->(∀ks,o≠.dK ks)->H' x=some o:=λ{x o} e n=>f _ _ e (h.fu.ne_am e n).1 (h.fu.ne_am e n).2;have u:∀d∈m.ds,∀o,H d=some o->H' d=some o:=λd t o e=>f _ _ e (λz=>h.na (z▸t)) (λz=>h.nb (z▸t));obtain⟨A,v,_⟩:=c.me.ce;have k:Js H' g G N (b+10*N) r m:=c.me.kp c.ok (AG.refl c.ok) λx o e w=>by
  rcases w with z|z|z|z
  .subst z;exact nd e (by rw[c.me.tp]at e;cases e;intro ks z;cases z)
  .subst z;exact nd e (by rw[c.me.l]at e;cases e;intro ks z;cases z)
  .exact u x z o e
  .subst z;exact nd e (by rw[v]at e;cases e;intro ks z;cases z)
 obtain⟨y,s⟩:=h.jz.cn;refine⟨⟨⟨j.at',c.ok,c.bs,j.br,c.nbr,nd c.hp (by intro ks z;cases z),c.ru.kp λx o e n=>nd e (by intro ks z;rw[z]at n;cases n),c.rok,c.rest,k⟩,y,s.kp (i:=0) c.ok (AG.refl c.ok) u λq e=>⟨q,nd e (by intro ks z;cases z),C0 _⟩⟩,j,h.na,h.nb⟩
theorem ZS.aft(h:ZS a H g G Κ N b p dx mem pr r m)(f:FrJ g m H H')(k:JZ a H' g G' Κ N b p dx mem pr r m)(go:AG G G' i):ZS a H' g G' Κ N b p dx mem pr r m:=by
 have B:=h.jz.jw;refine⟨k,?_,h.na,h.nb⟩;obtain⟨at',ok,⟨S,K⟩,E,⟨ks,L,M⟩,⟨s,O,A⟩,P,Q,R⟩:=h.fu;obtain⟨us,C,_⟩:=at'.pt;obtain⟨T,w,_⟩:=B.me.ce;have u:∀{x:R_}{o:HO},H x=some o->(∀ks,o≠.dK ks)->x∉m.ds:=λ{x o} e n z=>by
  obtain⟨j,q⟩:=L5 z;obtain⟨U,d,_⟩:=B.me.sq j x q;rw[e]at d;cases d;exact n _ Z
 obtain⟨t,I⟩:=go.pre;have dk:∀{x:R_}{ks:List (Key×V)},H x=some (.dK ks)->x∉m.ds->H' x=some (.dK ks):=λ{x ks} e n=>f _ _ e (AE e at'.lv A3) (AE e C A3) (AE e at'.nm A3) (AE e w A3) n;refine⟨k.jw.gr,go.ok,⟨S++t,by rw[I,K,Q4]⟩,k.jw.br,⟨ks,dk L h.na,M.app ok go⟩,⟨s,dk O h.nb,A.keys.app go.le,λi v e=>?_⟩,P,Q,R⟩;obtain⟨l,D,t,y,d,F,c⟩:=A.val i v e;exact⟨l,D,t,go.lev y,by rw[IE ok go l i y];exact d,F,f _ _ c (AE c at'.lv A3) (AE c C A3) (AE c at'.nm A3) (AE c w A3) (u c (by intro ks z;cases z))⟩
theorem ZS.keep(h:ZS a H g G Κ N b p dx mem pr r m)(f:FrZ g m H H'){x:R_}{o:HO}(e:H x=some o)(k:∀xs,o≠.lst xs)(l:∀ks,o≠.dK ks)(n:∀ks,o≠.dT ks):H' x=some o:=by
 have d:=h.jz.jw;obtain⟨us,u,_⟩:=h.fu.at'.pt;obtain⟨v,s,_⟩:=d.me.ce;have q:=h.fu.ne_am e l;refine f _ _ e (λz=>?_) (λz=>?_)
 .simp only[C1,D7,K6]at z;rcases z with z|z|z|z|z|z
  .exact AE e h.fu.at'.lv (k _) z
  .exact AE e u (k _) z
  .exact AE e h.fu.at'.nm (n _) z
  .exact q.1 z
  .exact q.2 z
  .exact AE e s (n _) z
 .obtain⟨j,c⟩:=L5 z;obtain⟨w,t,_⟩:=d.me.sq j x c;exact AE e t (l _) Z
theorem ZS.new(h:ZS a H g G Κ N b p dx mem pr r m){x:R_}(n:H x=none):x∉[g.lv,g.pt,g.nm,g.am,g.bx,m.kc]/\x∉m.ds:=by
 have d:=h.jz.jw;obtain⟨us,o,_⟩:=h.fu.at'.pt;obtain⟨q,e,_⟩:=d.me.ce;obtain⟨ks,k,_⟩:=h.fu.am;obtain⟨s,l,_⟩:=h.fu.bx;refine⟨λz=>?_,λz=>?_⟩
 .simp only[C1,D7,K6]at z;rcases z with rfl|rfl|rfl|rfl|rfl|rfl
  .rw[h.fu.at'.lv]at n;cases n
  .rw[o]at n;cases n
  .rw[h.fu.at'.nm]at n;cases n
  .rw[k]at n;cases n
  .rw[l]at n;cases n
  .rw[e]at n;cases n
 .obtain⟨j,c⟩:=L5 z;obtain⟨t,f,_⟩:=d.me.sq j x c;rw[f]at n;cases n
end
theorem JW.putL{a:Ad}{H:Hp}{g:GA}{G:Gv}{N M:Nat}{p dx mem i x:R_}{r:AI}{m:MA}{xs:List V}{o:HO}(h:JW a H g G N M p dx mem i r m)(f:H x=some (.lst xs))(q:x≠g.lv)(s:x≠g.pt)(t:x≠g.br)(u:x≠m.l):JW a (upd H x o) g G N M p dx mem i r m:=by
 have c:∀{b v},H b=some v->(∀l,v≠.lst l)->upd H x o b=some v:=λ{b v} e n=>by rw[As (AE e f (n _))];exact e
 refine⟨h.gr.put f q s,h.ok,h.bs,by rw[As (X5 t)];exact h.br,h.nbr,c h.hp B0,h.ru.kp λb o e n=>c e λl z=>(by rw[z]at n;cases n),h.rok,h.rest,h.me.kp h.ok (AG.refl h.ok) λb o e w=>?_⟩;rcases w with z|z|z|z
 .have d:=h.me.tp;rw[<-z,e]at d;cases d;exact c e B0
 .rw[z]at e⊢;rw[As (X5 u)];exact e
 .obtain⟨j,k⟩:=L5 z;obtain⟨A,d,_⟩:=h.me.sq j b k;rw[e]at d;cases d;exact c e B0
 .obtain⟨y,d,_⟩:=h.me.ce;rw[z]at e⊢;rw[e]at d;cases d;exact c e B0
structure ApZ(g:GA)(m:MA)(x:R_):Prop where
n0:x∉[g.lv,g.pt,g.nm,g.am,g.bx,m.kc]
n1:x∉m.ds
n2:x≠g.br
n3:x≠m.l
section
variable{a:Ad}{H H':Hp}{g:GA}{G G':Gv}{Κ:KTy}{N b i:Nat}{p dx mem pr:R_}{r:AI}{m:MA}
theorem ZS.ap(h:ZS a H g G Κ N b p dx mem pr r m){x:R_}(n:H x=none):ApZ g m x:=by
 obtain⟨c,d⟩:=h.new n;refine⟨c,d,λz=>?_,λz=>?_⟩
 .rw[z,h.fu.br]at n;cases n
 .rw[z,h.jz.jw.me.l]at n;cases n
theorem ZS.putL{x:R_}{xs:List V}{o:HO}(h:ZS a H g G Κ N b p dx mem pr r m)(j:H x=some (.lst xs))(ap:ApZ g m x):ZS a (upd H x o) g G Κ N b p dx mem pr r m:=by
 have k:x≠g.lv:=λz=>ap.n0 (by simp[z]);have pt:x≠g.pt:=λz=>ap.n0 (by simp[z]);obtain⟨f,c⟩:=h.jz.cn;refine⟨⟨h.jz.jw.putL j k pt ap.n2 ap.n3,f,c.kp (i:=0) h.jz.jw.ok (AG.refl h.jz.jw.ok) (λd l o' e=>?_) λn e=>⟨n,?_,C0 _⟩⟩,h.fu.put j k pt ap.n2,h.na,h.nb⟩
 .rw[As (λz:d=x=>ap.n1 (z▸l))];exact e
 .rw[As (AE e j A3)];exact e
end
theorem Sw{G:Gv}(ok:GOk G){n f:Nat}(c:Ak G f ((n+1:Nat):Int)){x y:Nat}(a:x<2^(n+1))(b:y<2^(n+1)):Cr G (n+1) f x y=(fieldF G n f ((x:Int)-2^n) ((y:Int)-2^n):Nat):=by
 unfold Cr fieldF;have p:((2^(n+1):Nat):Int)=2^n+2^n:=by rw[J7];exact CF n
 rw[Z7 A0,cel_F ok c a b];congr 2<;>lia
seal L2.PA L2.PE L2.PS L2.PSs L2.PT L2.PW
section
variable{P:N_}{w:Q_}{K:O_}{mg:C_}{base:T_}{a:Ad}
inductive SpLvF(a:Ad)(vs:List V)(H:Hp)(Q:VK):Prop
|mk (g:GA) (G:Gv) (f n e:Nat) (_:vs=[.ref g.p,.int f,.int e]) (_:AM a H g G) (_:Ak G f ((n+1:Nat):Int)) (_:n<=40) (_:e<=40) (_:∀l:Nat,l<=41->n<=l->e<=l->2^n+2^e<=2^l->Q (.int ((l+2:Nat):Int)) H):SpLvF a vs H Q
def ZA(a:Ad):Sp:=λvs H Q _=>SpLvF a vs H Q
theorem ok_lvf(F:Fun K "level_for" "level_for" Jx f fd)(T:Top K mg a)(B:Cal P w K mg base CX0 4 "reach_of" UX (GF a)):AN P w K mg base CX0 5 f fd JF (ZA a):=by
 refine F.ok Fy D_9 λC A t s H vs Q E N h=>?_
 obtain⟨g,G,c,n,e,rfl,M,O,r,l,k⟩:=h;refine⟨_,(Ab (Ao (i:=3) Fy.nd Z O_9 (AA AZ (Aq B (rm N) Z Am (Aa (pv 0) (Aa (pv 1) Ac))) (AA Jd Ae (pv 2)))) (Ab (Ao (i:=4) Fy.nd Z O_9 Ae) (Ab (IA X8 (Az GN (AA Jd Ae (AA Bm (pv 4) Ae)) (pv 3) (AD _)) (Af (Ao (i:=4) Fy.nd Z O_9 (AA AZ (pv 4) Ae)))) (Af (Au (pv 4)))))),?_⟩
 try dsimp only[cxK]
 refine Bf ?_;intro r1 s1 k1 o W;refine xw2 Z Z ⟨g,G,c,n,Z,M,O,by lia,?_⟩;refine xwb Z Z Z ⟨⟨by lia,by lia,by decide⟩,(xq2 Z Z ?_)⟩;have D:(2:Int)^n+1*2^(e:Int).toNat=((2^n+2^e:Nat):Int):=by
  rw[F4,Int.one_mul,N2,J7,J7];rfl
 have pn:2^n<=2^40:=M7 A4 r;have pe:2^e<=2^40:=M7 A4 l;have U:=Ba n;have S:=Ba e;rw[show(λi j:Int=>V.int (i+j)) (2^n) ((λi j:Int=>i*2^j.toNat) 1 (e:Int))=V.int ((2^n+2^e:Nat):Int)from K0 V.int D];generalize L:2^n+2^e=R at k;have y:R<=2^41:=by rw[<-L];lia
 refine o ?_;refine Bf ?_;intro r2 s2 k2 q X;refine q ?_;refine⟨λm σ d=>∃j:Nat,σ=[some (.ref g.p),some (.int c),some (.int (e:Int)),some (.int (R:Int)),some (.int ((j+2:Nat):Int))]/\d=H/\j+m=41,⟨41,0,Z,Z,Z⟩,?_⟩;rintro m σ d ⟨j,rfl,rfl,Y⟩;refine xwb Z Z Z (xq2 Z Z ⟨⟨by lia,by lia,by decide⟩,(xwb Z Z Z (xq1 Z ?_))⟩);have v:(1:Int)*2^(((j+2:Nat):Int)-2).toNat=((2^j:Nat):Int):=by
  rw[show(((j+2:Nat):Int)-2).toNat=j by lia,Int.one_mul,J7];rfl
 refine GD (λb=>?_) (λb=>?_)
 .have b:=X7 b;have b:(1:Int)*2^(((j+2:Nat):Int)-2).toNat<(R:Int):=b;rw[v]at b;have m0:m≠0:=λz=>by
   subst z;have:j=41:=by lia
   subst this;lia
  refine⟨fun σ' u=>∃x:Nat,σ'=[some (.ref g.p),some (.int c),some (.int (e:Int)),some (.int (R:Int)),some (.int ((x+2:Nat):Int))]/\u=d/\x+(m-1)=41,fun σ' u z=>⟨m-1,by lia,z⟩,?_⟩;have I:((j+2:Nat):Int)+1=((j+1+2:Nat):Int):=by lia
  exact xwb Z Z Z ⟨j+1,K0 (λz:Int=>[some (V.ref g.p),some (V.int c),some (V.int (e:Int)),some (V.int (R:Int)),some (V.int z)]) I,Z,by lia⟩
 .have b:¬(1:Int)*2^(((j+2:Nat):Int)-2).toNat<(R:Int):=λz=>b (Z5 z);rw[v]at b;have le:R<=2^j:=by lia
  refine xq1 Z (k j A0 ?_ ?_ le)
  .refine P6 λz=>?_;have:2^j<2^n:=W3 A4 z;lia
  .refine P6 λz=>?_;have:2^j<2^e:=W3 A4 z;lia
inductive SpWT(a:Ad)(vs:List V)(H:Hp)(Q:VK):Prop
|mk (g:GA) (G:Gv) (f n k:Nat) (_:vs=[.ref g.p,.int f,.int ((n+k+1:Nat):Int)]) (_:AS a H g G) (_:Ak G f ((n+1:Nat):Int)) (_:n+k<=46) (_:G.length<8000000) (_:∀(v:Nat)(G':Gv)(H':Hp),Fr g H H'->AS a H' g G'->AG G G' (5*k)->MR G' n f k v->Ak G' v ((n+k+1:Nat):Int)->Q (.int v) H'):SpWT a vs H Q
def spWT(a:Ad):Sp:=λvs H Q _=>SpWT a vs H Q
theorem ok_wt(F:Fun K "widened_to" "widened_to" II f fd)(T:Top K mg a)(O:BJ P w K mg base CX0 3 a.c_Grove "level_of" JP (Mi a))(R:Cal P w K mg base CX0 4 "widened" Lf (VP a)):AN P w K mg base CX0 5 f fd IW (spWT a):=by
 refine F.ok GR D_9 λS A D s H vs Q E L h=>?_
 obtain⟨g,G,r,n,kk,rfl,I,W,X,few,k⟩:=h;refine⟨_,(Ab (Ao (i:=3) GR.nd Z O_9 (pv 1)) (Ab (IA X8 (Az GN (AC (pv 0) O (rm L) Am (Aa (pv 3) Ac)) (pv 2) (AD _)) (Af (Ao (i:=3) GR.nd Z O_9 (Aq R (rm L) Z Am (Aa (pv 0) (Aa (pv 3) Ac)))))) (Af (Au (pv 3))))),?_⟩
 try dsimp only[cxK]
 refine xq1 Z ?_;refine⟨λm σ v=>∃(d:Gv)(c j:Nat),σ=[some (.ref g.p),some (.int r),some (.int ((n+kk+1:Nat):Int)),some (.int c)]/\Fr g H v/\AS a v g d/\AG G d (5*j)/\j+m=kk/\Ak d c ((n+j+1:Nat):Int)/\MR d n r j c,⟨kk,G,r,0,Z,Fr.refl g H,I,AG.refl I.ok,by lia,W,Z⟩,?_⟩;rintro m σ v ⟨d,c,j,rfl,fr,b,go,U,C,N⟩;have gf:=go.few;obtain⟨q,eq,V⟩:=id C;refine xq1 Z ⟨g.p,g.dx,(xq1 Z ⟨b.at'.hp,DP g,(xq1 Z ⟨g,d,c,q,Z,b.at',eq,?_⟩)⟩)⟩;rw[V];refine xwb Z Z Z (xq1 Z (GD (λu=>?_) (λu=>?_)))
 .have u:((n+j+1:Nat):Int)<((n+kk+1:Nat):Int):=X7 u;refine⟨fun σ' y=>∃(l:Gv)(o x:Nat),σ'=[some (.ref g.p),some (.int r),some (.int ((n+kk+1:Nat):Int)),some (.int o)]/\Fr g H y/\AS a y g l/\AG G l (5*x)/\x+(m-1)=kk/\Ak l o ((n+x+1:Nat):Int)/\MR l n r x o,fun σ' y z=>⟨m-1,by lia,z⟩,?_⟩;refine xw2 Z Z ⟨g,d,c,n+j,Z,b,C,by lia,by lia,λo l Y t B e M=>?_⟩;refine⟨l,o,j+1,Z,fr.trans t,b.fr t B e,(go.trans e).mono A0,by lia,?_,⟨c,N.app e,M⟩⟩;have:=M.lev;rw[show n+(j+1)+1=n+j+2 by lia];exact this
 .have u:¬((n+j+1:Nat):Int)<((n+kk+1:Nat):Int):=λz=>u (Z5 z);have:j=kk:=by lia
  subst this;exact xq1 Z (k c d v fr b go N C)
end
end J
namespace J
open PySem L2
noncomputable def sF(r:AI)(φ:D_):Int->Int->Nat:=λx y=>(Du r (φ x y:Nat) [((φ (x-1) (y-1):Nat):Int),((φ x (y-1):Nat):Int),((φ (x+1) (y-1):Nat):Int),((φ (x-1) y:Nat):Int),((φ (x+1) y:Nat):Int),((φ (x-1) (y+1):Nat):Int),((φ x (y+1):Nat):Int),((φ (x+1) (y+1):Nat):Int)]).toNat
noncomputable def sFN(r:AI):Nat->(Int->Int->Nat)->Int->Int->Nat
|0,φ=>φ
|n+1,φ=>sF r (sFN r n φ)
theorem Ms(r:AI)(φ:D_)(n:Nat):∀m,sFN r (m+n) φ=sFN r m (sFN r n φ)
|0=>by rw[M8];rfl
|m+1=>by
 rw[show m+1+n=(m+n)+1 by lia];show sF r (sFN r (m+n) φ)=sF r (sFN r m (sFN r n φ));rw[Ms r φ n m]
theorem We(r:AI){φ ψ:D_}{X Y:Int}:∀(k:Nat)(x y:Int),(∀u v,x-k<=u->u<=x+k->y-k<=v->v<=y+k->φ u v=ψ (u+X) (v+Y))->sFN r k φ x y=sFN r k ψ (x+X) (y+Y)
|0,x,y,h=>h x y A0 A0 A0 A0
|k+1,x,y,h=>by
 have c:∀u v,x-1<=u->u<=x+1->y-1<=v->v<=y+1->sFN r k φ u v=sFN r k ψ (u+X) (v+Y):=λu v d e f g=>We r k u v λa b i j l m=>h a b A0 A0 A0 A0;show sF r (sFN r k φ) x y=sF r (sFN r k ψ) (x+X) (y+Y);unfold sF;rw[c x y A0 A0 A0 A0,c (x-1) (y-1) A0 A0 A0 A0,c x (y-1) A0 A0 A0 A0,c (x+1) (y-1) A0 A0 A0 A0,c (x-1) y A0 A0 A0 A0,c (x+1) y A0 A0 A0 A0,c (x-1) (y+1) A0 A0 A0 A0,c x (y+1) A0 A0 A0 A0,c (x+1) (y+1) A0 A0 A0 A0];rw[show x-1+X=x+X-1 by lia,show y-1+Y=y+Y-1 by lia,show x+1+X=x+X+1 by lia,show y+1+Y=y+Y+1 by lia]
theorem JB{r:AI}(h:Du r 0 CT=0):∀k,sFN r k (λ_ _=>0)=λ_ _=>0
|0=>rfl
|k+1=>by
 show sF r (sFN r k λ_ _=>0)=_;rw[JB h k]
 funext x y
 show(Du r ((0:Nat):Int) CT).toNat=0;rw[show((0:Nat):Int)=0 from rfl,h];rfl
theorem Ph{r:AI}(h:Du r 0 CT=0){φ:D_}{k:Nat}{x y:Int}(z:sFN r k φ x y≠0):∃u v,x-k<=u/\u<=x+k/\y-k<=v/\v<=y+k/\φ u v≠0:=by
 refine X6 λno=>z ?_;have:=We r (φ:=φ) (ψ:=λ_ _=>0) (X:=0) (Y:=0) k x y λu v a b c d=>X6 λq=>no ⟨u,v,a,b,c,d,q⟩;rw[this,JB h]
theorem bec_nn{r:AI}(h:MS r){cell:Int}(f:0<=cell)(a:I_):0<=Du r cell a:=by
 cases e:On r cell a with
 |none=>rw[Qm e];exact f
 |some i =>
  obtain⟨c,b,d⟩:=Ql e;rw[d];exact(h.ok c (D5 b)).makes.1
theorem OA{r:AI}(e:MS r){c:Nat->Nat->Int}{φ:D_}{X Y:Int}:∀(k x y:Nat),k<=x->k<=y->(∀u v:Nat,x-k<=u->u<=x+k->y-k<=v->v<=y+k->c u v=(φ ((u:Int)+X) ((v:Int)+Y):Nat))->Bp r k c x y=(sFN r k φ ((x:Int)+X) ((y:Int)+Y):Nat)
|0,x,y,_,_,h=>h x y A0 A0 A0 A0
|k+1,x,y,hx,hy,h=>by
 have d:∀u v:Nat,x-1<=u->u<=x+1->y-1<=v->v<=y+1->Bp r k c u v=(sFN r k φ ((u:Int)+X) ((v:Int)+Y):Nat):=λu v f g i j=>OA e k u v A0 A0 λa b l m n o=>h a b A0 A0 A0 A0;show Du r (Bp r k c x y) [Bp r k c (x-1) (y-1),Bp r k c x (y-1),Bp r k c (x+1) (y-1),Bp r k c (x-1) y,Bp r k c (x+1) y,Bp r k c (x-1) (y+1),Bp r k c x (y+1),Bp r k c (x+1) (y+1)]=((sF r (sFN r k φ) ((x:Int)+X) ((y:Int)+Y):Nat):Int)
 unfold sF;rw[O1 (bec_nn e (Int.natCast_nonneg _) _)];rw[d x y A0 A0 A0 A0,d (x-1) (y-1) A0 A0 A0 A0,d x (y-1) A0 A0 A0 A0,d (x+1) (y-1) A0 A0 A0 A0,d (x-1) y A0 A0 A0 A0,d (x+1) y A0 A0 A0 A0,d (x-1) (y+1) A0 A0 A0 A0,d x (y+1) A0 A0 A0 A0,d (x+1) (y+1) A0 A0 A0 A0];rw[show((x-1:Nat):Int)+X=x+X-1 by lia,show((y-1:Nat):Int)+Y=y+Y-1 by lia,show((x+1:Nat):Int)+X=x+X+1 by lia,show((y+1:Nat):Int)+Y=y+Y+1 by lia]
theorem fld_jg{G:Gv}(ok:GOk G){r:AI}(H:MS r)(F:Du r 0 CT=0){l e f k:Nat}(g:Ak G f ((l+1+1:Nat):Int))(jr:JR r G e f k){φ:D_}(h:∀x y,fieldF G (l+1) f x y=φ x y)(b:∀x y,φ x y≠0->-(2^l)+2^e<=x/\x+2^e<2^l/\-(2^l)+2^e<=y/\y+2^e<2^l):Ak G k ((l+1:Nat):Int)/\∀x y,fieldF G l k x y=sFN r (2^e) φ x y:=by
 obtain⟨a,n,o,d,s⟩:=jr;have m:a=l:=by
  have:=n.one g;lia
 subst m;have p:((2^(a+1):Nat):Int)=2^a+2^a:=by rw[J7];exact CF a
 have t:((2^a:Nat):Int)=2^a:=J7 2 a;have M:((2^e:Nat):Int)=2^e:=J7 2 e;have L:((2^(a+2):Nat):Int)=2^a+2^a+(2^a+2^a):=by
  rw[J7];show(2:Int)^(a+2)=_;rw[show(2:Int)^(a+2)=2^(a+1)+2^(a+1)from CF (a+1),CF]
 have le:2^e<=2^a:=M7 A4 o;refine⟨d,λx y=>?_⟩;by_cases z:-(2^a)<=x/\x<2^a/\-(2^a)<=y/\y<2^a
 .obtain⟨i,I,j,b2⟩:=z;have at':(fieldF G a k x y:Int)=Bp r (2^e) (Cr G (a+2) f) ((x+2^a).toNat+2^a) ((y+2^a).toNat+2^a):=by
   rw[<-s _ _ A0 A0,Sw ok d A0 A0];congr 2<;>lia
  have c:∀u:Int,-(2^a)<=u->((((u+2^a).toNat+2^a:Nat):Int)+-(2^(a+1)))=u:=λu K=>by
   rw[CF,N2,t];lia
  rw[OA H (φ:=φ) (X:=-(2^(a+1))) (Y:=-(2^(a+1))) _ _ _ A0 A0 (λu v A B C D=>?_),c x i,c y j]at at'
  .exact Z9 at'
  .rw[Sw ok g A0 A0,h];rfl
 .unfold fieldF;rw[Z4 z];refine(X6 λq=>?_);obtain⟨u,v,A,B,C,D,E⟩:=Ph F (λw=>q w.symm);have:=b u v E;lia
noncomputable def wl(W T l:Nat):Nat:=(W+2*T)/2^l+5
theorem Uc{α β:Type}(f:α->List β)(m:α->Nat):∀l:List α,(∀x∈l,(f x).length<=m x)->(l.flatMap f).length<=(l.map m).sum
|[],_=>by simp
|a::l,h=>by
 have:=Uc f m l λx b=>h x (C4 _ b);have:=h a C2;rw[S9,C3,D9,P4];lia
theorem Zk{l T W t:Nat}{x:Nat}{i X u:Int}(y:x<2^(l+2))(w:t<=T)(p:(x:Int)+2^l*i-t<=u)(r:u<=(x:Int)+2^l*i+t)(s:X<=u)(v:u<X+W):∃d,d<wl W T l/\i=(X-T)/2^l-3+((d:Nat):Int):=by
 have a:(0:Int)<2^l:=by have:=Ba l;have e:((2^l:Nat):Int)=2^l:=J7 2 l;lia
 have z:((2^(l+2):Nat):Int)=2^l*4:=by rw[J7];show(2:Int)^(l+2)=_;rw[R4,R4];lia
 have m:(((W+2*T)/2^l:Nat):Int)=((W:Int)+2*T)/2^l:=by rw[Int.natCast_ediv,J7];rfl
 generalize j:(2:Int)^l=P at *
 generalize eq:(X-T)/P=q;have f:=Int.emod_add_mul_ediv (X-T) P;have g:=N6 (X-T) (Int.ne_of_gt a);have h:=M0 (X-T) a;rw[eq]at f;have n:=Int.emod_add_mul_ediv ((W:Int)+2*T) P;have o:=M0 ((W:Int)+2*T) a;generalize k:((W:Int)+2*T)/P=b at *
 have lo:P*(q-4)<P*i:=by rw[Int.mul_sub];lia
 have c:P*i<P*(q+b+2):=by rw[U4,U4];lia
 have lo:=Int.lt_of_mul_lt_mul_left lo (Int.le_of_lt a);have c:=Int.lt_of_mul_lt_mul_left c (Int.le_of_lt a);refine⟨(i-q+3).toNat,?_,by lia⟩;unfold wl;lia
seal L2.PA L2.PE L2.PS L2.PSs L2.PT L2.PW
def LZ(φ:D_)(k:Nat):Prop:=∀x y,φ x y≠0->-(2^40)+(k:Int)<=x/\x+k<2^40/\-(2^40)+(k:Int)<=y/\y+k<2^40
theorem nb1{x l w:Int}{k:Nat}(c:-2^40<=l-k)(d:l-k+(w+2*k)<=2^40)(a:l<=x)(b:x<l+w):-(2^40)+(k:Int)<=x/\x+k<2^40:=by lia
theorem nb2{l:Int}{k:Nat}(h:-(2^40)+(k:Int)<=l):-2^40<=l-k:=by lia
theorem nb3{l w:Int}{k:Nat}(h:l+w-1+k<2^40):l-k+(w+2*k)<=2^40:=by lia
theorem near_box {φ:D_} {b:Bx} (t:Qp (λx y=>φ x y≠0) b) (k:Nat):Ev (b.l-k) (b.t-k) (b.w+2*k) (b.h+2*k) (2^40)↔LZ φ k:=by
 constructor
 .rintro⟨a,c,d,e⟩ x y h;obtain⟨f,g,i,j⟩:=t.inn x y h;have q:=nb1 a d f g;exact⟨q.1,q.2,nb1 c e i j⟩
 .intro h;obtain⟨m,a⟩:=t.le;obtain⟨n,c⟩:=t.to;obtain⟨o,d⟩:=t.ri;obtain⟨p,e⟩:=t.bo;exact⟨nb2 (h _ _ a).1,nb2 (h _ _ c).2.2.1,nb3 (h _ _ d).2.1,nb3 (h _ _ e).2.2.2⟩
section
variable{P:N_}{w:Q_}{K:O_}{mg:C_}{base:T_}{a:Ad}
inductive SpChG(a:Ad)(vs:List V)(H:Hp)(Q:VK):Prop
|mk (g:GA) (G:Gv) (f n k:Nat) (_:vs=[.ref g.p,.int f,.int (k:Int)]) (_:AS a H g G) (_:Ak G f ((n+1:Nat):Int)) (_:n<48) (_:G.length<8000000) (_:LZ (fieldF G n f) k) (_:∀H',FrQ g H H'->AS a H' g G->Q .non H'):SpChG a vs H Q
def ZI(a:Ad):Sp:=λvs H Q _=>SpChG a vs H Q
theorem ok_chg'(F:Fun K "check_leap" "check_leap" IM f fd)(T:Top K mg a)(M:Cal P w K mg base CX0 1 "is_whole" UY UE)(O:Cal P w K mg base CX0 102 "box_of" UX (RG a))(L:Cal P w K mg base CX0 1 "lies_within" QE QV):AN P w K mg base CX0 103 f fd Ja (ZI a):=by
 refine F.ok Ly D_9 λR A r s H vs Q E p h=>?_
 obtain⟨g,G,S,n,k,rfl,z,D,q,few,W,C⟩:=h;refine⟨_,(Ab (AQ (PW.pt (Gd (BU (BI (Aq M (rm p) Z Am (Aa (pv 2) Ac)))) (El (Az GN (pv 2) Ae (AD _))))) (Af AY) Ax) (Ab (Ao (i:=3) Ly.nd Z O_9 (Aq O (rm p) Z Am (Aa (pv 0) (Aa (pv 1) Ac)))) (Af (AQ (PW.pt (LP (Az Wn (pv 3) DK (AD _)) (IU (BU (BI (Aq L (rm p) Z Am (AV (Br Bm (Ai Al (pv 3) Ae R_9) (pv 2) (Br Bm (Ai Al (pv 3) Ae R_9) (pv 2) (Br AZ (Ai Al (pv 3) Ae R_9) (AA EJ Ae (pv 2)) (Br AZ (Ai Al (pv 3) Ae R_9) (AA EJ Ae (pv 2)) Ac)))) (Aa (BT Z T.k_LIMIT) Ac)))))))) (Af AY) Ax)))),?_⟩
 try dsimp only[cxK]
 refine Bf ?_;intro r1 s1 k1 o X;refine xq1 Z ⟨(k:Int),Z,true,Z,AX ?_⟩;refine xwb Z Z Z (xq1 Z ?_);rw[Z8 A0];refine AX ?_;refine o ?_;refine Bf ?_;intro r2 s2 k2 e Y;refine xw2 Z Z ⟨g,G,S,n,Z,z,D,q,few,λy d fq b=>?_,λN y t d fq b c=>?_⟩
 .refine e ?_;refine xq1 Z ⟨Z,false,Z,AX ?_⟩;exact C d fq b
 .refine e ?_;have I:=ST z.ok D y;generalize mvB (2^n) N=B at c I;have c:d t=some (.tup [.int B.l,.int B.t,.int B.w,.int B.h]):=c;have V:=near_box I k;refine xq1 Z ⟨Z,true,Z,Cg ?_⟩;refine xwi Z Z Z (SqT.of c) (Ah (j:=0) Z) (xwb Z Z Z ?_);refine xwi Z Z Z (SqT.of c) (Ah (j:=1) Z) (xwb Z Z Z ?_);refine xwi Z Z Z (SqT.of c) (Ah (j:=2) Z) (xwb Z Z Z ⟨.inl ⟨by decide,by decide⟩,(xq2 Z Z ?_)⟩);refine xwi Z Z Z (SqT.of c) (Ah (j:=3) Z) (xwb Z Z Z ⟨.inl ⟨by decide,by decide⟩,(xq2 Z Z ?_)⟩);refine⟨by show 4<=sizeLine;decide,λu U=>?_⟩;refine⟨u,B.l-k,B.t-k,B.w+2*k,B.h+2*k,2^40,Z,Ag,?_⟩;generalize x:upd d u _=v;have m:Ay d v:=x▸AK U;clear x;rw[Z5 (V.mpr W)];exact⟨true,Z,AX (C v (fq.trans (Ay.frq m)) (b.same m))⟩
end
theorem bare0{G r:Gv}(e:G=G0++r)(ok:GOk G):Ak G (bareN 1) ((0+1:Nat):Int)/\Jk G 0 (bareN 1)/\∀x y,fieldF G 0 (bareN 1) x y=0:=by
 refine⟨Eu e (n:=1) A4,.inl Z,λx y=>?_⟩;unfold fieldF;by_cases z:-(2^0)<=x/\x<2^0/\-(2^0)<=y/\y<2^0
 .rw[Z7 z];exact DW e ok (n:=1) A4 (by show _<2;have:(2:Int)^0=1:=rfl;lia) (by show _<2;have:(2:Int)^0=1:=rfl;lia)
 .rw[Z4 z]
theorem nar{x a b c:Int}(h:-a<=x)(h':x<a)(e:a+c<=b):-b+c<=x/\x+c<b:=by lia
theorem near_lt{φ:D_}{k:Nat}(h:LZ φ k){x y:Int}(a:φ x y≠0):k<2^40:=by
 have:=h x y a;lia
theorem nr1{x u:Int}{t k:Nat}(tk:t<=k)(c:x-t<=u)(d:u<=x+t)(a:-(2^40)+(k:Int)<=u)(b:u+k<2^40):-(2^40)<=x/\x<2^40:=by lia
theorem nr2{x u:Int}{t k:Nat}(c:x-t<=u)(d:u<=x+t)(a:-(2^40)+((k+t:Nat):Int)<=u)(b:u+((k+t:Nat):Int)<2^40):-(2^40)+(k:Int)<=x/\x+k<2^40:=by lia
theorem Wr{r:AI}(o:Du r 0 CT=0){φ:D_}{k t:Nat}(h:LZ φ k)(tk:t<=k){x y:Int}(n:sFN r t φ x y≠0):-(2^40)<=x/\x<2^40/\-(2^40)<=y/\y<2^40:=by
 apply AO;intro b a;obtain⟨u,v,g,i,j,l,m⟩:=Ph o n;obtain⟨c,d,e,f⟩:=h u v m;apply a;clear a b;have q:=nr1 tk g i c d;exact⟨q.1,q.2,nr1 tk j l e f⟩
theorem near_st{r:AI}(o:Du r 0 CT=0){φ:D_}{k t:Nat}(h:LZ φ (k+t)):LZ (sFN r t φ) k:=λx y n=>by
 apply AO;intro b a;obtain⟨u,v,g,i,j,l,m⟩:=Ph o n;obtain⟨c,d,e,f⟩:=h u v m;apply a;clear a b;have q:=nr2 g i c d;exact⟨q.1,q.2,nr2 j l e f⟩
theorem VE{G r:Gv}(e:G=G0++r)(ok:GOk G){n f:Nat}(c:n<=47)(t:Jk G n f)(h:∀x y,fieldF G n f x y≠0->-(2^40)<=x/\x<2^40/\-(2^40)<=y/\y<2^40):n<=40:=by
 refine P6 λz=>?_;obtain⟨m,rfl⟩:∃m,n=m+1:=⟨n-1,by lia⟩
 obtain⟨x,y,b,a⟩:=SS e ok A0 t;have:=h x y a;have p:2^40<=2^m:=M7 A4 A0;have d:((2^m:Nat):Int)=2^m:=J7 2 m;lia
def QO(Κ:KTy)(r:AI)(φ:D_)(k:Nat):Prop:=∀(j l:Nat)(G:Gv)(f:Nat),k/2^j%2=1->j<=l->l<=41->GOk G->Ak G f ((l+1+1:Nat):Int)->(∀x y,fieldF G (l+1) f x y=sFN r (k%2^j) φ x y)->Κ l j (Cr G (l+2) f)
def Yb(H:Hp)(G:Gv)(ψ:D_)(ts:H_):Prop:=∃(t:R_)(sq e res l:Nat),ts.getLast?=some t/\H t=some (.tup [.int sq,.int e,.int res])/\l<=41/\Ak G res ((l+1:Nat):Int)/\∀x y,fieldF G l res x y=ψ x y
section
variable{P:N_}{w:Q_}{K:O_}{mg:C_}{base:T_}{a:Ad}
inductive SpRdG(a:Ad)(vs:List V)(H:Hp)(Q:VK):Prop
|mk (p dx mem pr:R_) (g:GA) (G:Gv) (Κ:KTy) (φ:D_) (N b:Nat) (r:AI) (m:MA) (f n k:Nat) (_:vs=[.ref p,.int f,.int (k:Int)]) (_:ZS a H g G Κ N b p dx mem pr r m) (_:Ma Κ N) (_:ClK r Κ) (_:QO Κ r φ k) (_:Ak G f ((n+1:Nat):Int)) (_:n<=40) (_:Jk G n f) (_:∀x y,fieldF G n f x y=φ x y) (_:LZ φ k) (_:b+12000+10*N<7900000) (_:∀(L:R_)(ts:H_)(G':Gv)(H':Hp)(i:Nat),FrZ g m H H'->ZS a H' g G' Κ N (b+12000) p dx mem pr r m->AG G G' i->H L=none->H' L=some (.lst (ts.map V.ref))->((ts=[]/\∀x y,sFN r k φ x y=φ x y)\/Yb H' G' (sFN r k φ) ts)->Q (.ref L) H'):SpRdG a vs H Q
def Zv(a:Ad):Sp:=λvs H Q _=>SpRdG a vs H Q
theorem ok_rdg(F:Fun K "road" "road" UN f fd)(T:Top K mg a)(cC:Cal P w K mg base CX0 103 "check_leap" Ja (ZI a))(b8:Cal P w K mg base CX0 1 "bare_field" Sb (Oz a))(cG:Cal P w K mg base CX0 5 "level_for" JF (ZA a))(cA:Cal P w K mg base CX0 5 "widened_to" IW (spWT a))(bT:BJ P w K mg base CX0 149 a.c_Jumps "after" QJ (GQ a 46))(aR:Cal P w K mg base CX0 4 "trimmed" Lf (MW a)):AN P w K mg base CX0 150 f fd RP (Zv a):=by
 refine F.ok DZ (λvs H Q E h=>?_) (λcn A b9 s H vs Q E hr h=>?_)
 .apply AO;intro G_ I;obtain⟨p,dx,mem,pr,g,G,Κ,φ,N,b,r,m,f',n,k,rfl,_⟩:=h;apply I;clear I G_;rfl
 .apply AO;intro G_ I;obtain⟨p,dx,mem,pr,g,G,Κ,φ,N,b,r,m,f',n,k,rfl,zs,fin,cl,a9,lf,b6,tr,hf,nr,few,kn⟩:=h;apply I;clear I G_;refine⟨_,(Ab (Ao (i:=3) DZ.nd Z O_9 (AB (pv 0) Z)) (Ab (BC (Aq cC (rm hr) Z Am (Aa (pv 3) (Aa (pv 1) (Aa (pv 2) Ac))))) (Ab (Ao (i:=4) DZ.nd Z O_9 (CL Ac)) (Ab (Ao (i:=5) DZ.nd Z O_9 (pv 1)) (Ab (Ao (i:=6) DZ.nd Z O_9 (pv 2)) (Ab (Ao (i:=7) DZ.nd Z O_9 Ae) (Ab (IA X8 (PW.pt (LP (Az NU (pv 6) Ae (AD _)) (IU (Az JK (pv 5) (Aq b8 (rm hr) Z Am (Aa (pv 3) Ac)) (AD _))))) (Ab (AQ (Az De (AA Bz (pv 6) Ae) Ae (AD _)) (Ab (Ao (i:=8) DZ.nd Z O_9 (Aq cA (rm hr) Z Am (Aa (pv 3) (Aa (pv 5) (Aa (Aq cG (rm hr) Z Am (Aa (pv 3) (Aa (pv 5) (Aa (pv 7) Ac)))) Ac))))) (Ab (Ao (i:=9) DZ.nd Z O_9 (AC (pv 0) bT (rm hr) Am (Aa (pv 8) (Aa (pv 7) Ac)))) (Ab (BC (Fe K2 K3 K4 Cc (pv 4) (AV (Aa (pv 8) (Aa (pv 7) (Aa (pv 9) Ac))) Ac))) (Af (Ao (i:=5) DZ.nd Z O_9 (Aq aR (rm hr) Z Am (Aa (pv 3) (Aa (pv 9) Ac)))))))) Ax) (Ab (Ao (i:=6) DZ.nd Z O_9 (AA CQ (pv 6) Ae)) (Af (Ao (i:=7) DZ.nd Z O_9 (AA AZ (pv 7) Ae)))))) (Af (Au (pv 4)))))))))),?_⟩
  try dsimp only[cxK]
  have sz:=zs.jz.sz fin;have re:=zs.jz.jw.rest;have ro:=zs.jz.jw.rok;refine Bf ?_;intro r1 s1 k1 bm E1;refine xwf Z Z zs.jz.jw.hp T.cl_Jumps T.na_Jumps_grove (Es _ _ _ _ _) ?_;refine bm ?_;refine Bf ?_;intro r2 s2 k2 bn E2;refine xw3 Z Z Z ⟨g,G,f',n,k,Z,zs.fu,lf,by lia,by lia,(λx y h=>nr x y (by rw[<-hf];exact h)),λH1 fq bb=>?_⟩;have au:=zs.frQ fq bb;have bc:FrZ g m H H1:=FrQ.z fq;refine bn ?_;refine Bf ?_;intro r3 s3 k3 bo E3;refine⟨by show 0<=sizeLine;decide,λL nL=>?_⟩;generalize eH:upd H1 L _=H2;have a7:Ay H1 H2:=eH▸AK nL;have bh:H2 L=some (.lst (([]:H_).map V.ref)):=eH▸Ag;clear eH;have ch:=au.same a7;obtain⟨a6,cs⟩:=au.new nL;have O:=au.ap nL;refine bo ?_;refine Bf ?_;intro r4 s4 k4 bp E4;refine xq1 Z (bp ?_);refine Bf ?_;intro r5 s5 k5 bq E5;refine xq1 Z (bq ?_);refine Bf ?_;intro r6 s6 k6 br E6;refine br ?_;refine Bf ?_;intro r7 s7 k7 bt E7;have ax:H L=none:=by
   cases e:H L with
   |none=>rfl
   |some o =>
    have h1:=fq L o e (λz=>a6 (by simp[z])) (λz=>a6 (by simp[z]));rw[nL]at h1;cases h1
  have bd:FrZ g m H H2:=bc.trans (Ay.z a7);have bl:k/2^0=k:=by rw[S6,Nat.div_one]
  have a2:k%2^0=0:=by rw[S6,Nat.mod_one]
  refine⟨fun μ σ H3=>∃(j:Nat)(C:Gv)(B:H_)(h c:Nat)(u8 u9:Option V)(i:Nat),σ=[some (.ref p),some (.int f'),some (.int (k:Int)),some (.ref g.p),some (.ref L),some (.int h),some (.int ((k/2^j:Nat):Int)),some (.int (j:Int)),u8,u9]/\j+μ=41/\FrZ g m H H3/\ZS a H3 g C Κ N (b+270*B.length) p dx mem pr r m/\AG G C i/\H3 L=some (.lst (B.map V.ref))/\B.length<=j/\(c<=40/\Ak C h ((c+1:Nat):Int)/\Jk C c h/\∀x y,fieldF C c h x y=sFN r (k%2^j) φ x y)/\((B=[]/\∀x y,sFN r (k%2^j) φ x y=φ x y)\/Yb H3 C (sFN r (k%2^j) φ) B),⟨41,0,G,[],f',n,none,none,0,(by rw[bl];rfl),Z,bd,ch,AG.refl zs.fu.ok,bh,C0 _,⟨b6,lf,tr,by rw[a2];exact hf⟩,.inl ⟨Z,by rw[a2];exact λ_ _=>Z⟩⟩,?_⟩;rintro μ σ H3 cg;apply AO;intro G_ I;obtain⟨j,C,B,h,c,u8,u9,i,rfl,jm,am,D,an,ao,tl,⟨ak,lh,th,fh⟩,la⟩:=cg;apply I;clear I G_;have cy:=D.jz.sz fin;obtain⟨cv,e3⟩:=D.fu.g0;have aj:(k/2^j=0\/h=bareN 1)->k7 [some (.ref p),some (.int f'),some (.int (k:Int)),some (.ref g.p),some (.ref L),some (.int h),some (.int ((k/2^j:Nat):Int)),some (.int (j:Int)),u8,u9] H3:=λex=>by
   have eq:sFN r k φ=sFN r (k%2^j) φ:=by
    rcases ex with ex|rfl
    .have:k%2^j=k:=by
      have:=M9 k (2^j);rw[ex,T7,M8]at this;exact this
     rw[this]
    .obtain⟨b1,b2,b3⟩:=bare0 e3 D.fu.ok;have n0:c=0:=by
      have:=lh.one b1;lia
     subst n0;have z:sFN r (k%2^j) φ=λ_ _=>0:=by
      funext x y
      rw[<-fh,b3]
     have:=Ms r φ (k%2^j) (2^j*(k/2^j));rw[M9]at this;rw[this,z,JB re]
   refine bt ?_;refine xq1 Z (kn L B C H3 i am (D.mono A0) an ax ao ?_);rw[eq];exact la
  refine xwb Z Z Z (xq1 Z (GD (λY=>?_) (λY=>?_)))
  .have Y:((k/2^j:Nat):Int) > 0:=X7 Y;have kj:k/2^j≠0:=by lia
   refine xw2 Z Z ⟨g,C,Z,D.fu,Z,(xq1 Z ?_)⟩;by_cases hb:h=bareN 1
   .subst hb;rw[Z5 rfl];exact AX (aj (.inr Z))
   .rw[Z8 (λz=>hb (by injection z with z;exact Z9 z))];refine Cg ?_;obtain⟨x0,y0,h0⟩:∃x y,φ x y≠0:=by
     refine X6 λno=>hb ?_;have z:φ=λ_ _=>0:=by
      funext x y
      exact X6 λz=>no ⟨x,y,z⟩
     obtain⟨b1,b2,b3⟩:=bare0 e3 D.fu.ok;refine(Qe e3 D.fu.ok A0 A4 lh b1 th b2 λx y=>?_).2;rw[b3,fh,z,JB re]
    have bx:=near_lt nr h0;have co:j<40:=by
     refine T1 λz=>kj (N9 (F3 bx (M7 A4 z)))
    refine⟨fun σ' S=>∃(j:Nat)(C:Gv)(B:H_)(h c:Nat)(u8 u9:Option V)(i:Nat),σ'=[some (.ref p),some (.int f'),some (.int (k:Int)),some (.ref g.p),some (.ref L),some (.int h),some (.int ((k/2^j:Nat):Int)),some (.int (j:Int)),u8,u9]/\j+(μ-1)=41/\FrZ g m H S/\ZS a S g C Κ N (b+270*B.length) p dx mem pr r m/\AG G C i/\S L=some (.lst (B.map V.ref))/\B.length<=j/\(c<=40/\Ak C h ((c+1:Nat):Int)/\Jk C c h/\∀x y,fieldF C c h x y=sFN r (k%2^j) φ x y)/\((B=[]/\∀x y,sFN r (k%2^j) φ x y=φ x y)\/Yb S C (sFN r (k%2^j) φ) B),fun σ' S z=>⟨μ-1,by lia,z⟩,?_⟩;have dv:k/2^(j+1)=k/2^j/2:=by rw[F6,V7]
    have md:k%2^(j+1)=k%2^j+2^j*(k/2^j%2):=Nat.mod_pow_succ;refine Bf ?_;intro r8 s8 k8 bu E8;apply MG (T:=k8) (fun σ' S=>∃(C:Gv)(B:H_)(h c:Nat)(u8 u9:Option V)(i:Nat),σ'=[some (.ref p),some (.int f'),some (.int (k:Int)),some (.ref g.p),some (.ref L),some (.int h),some (.int ((k/2^j:Nat):Int)),some (.int (j:Int)),u8,u9]/\FrZ g m H S/\ZS a S g C Κ N (b+270*B.length) p dx mem pr r m/\AG G C i/\S L=some (.lst (B.map V.ref))/\B.length<=j+1/\(c<=40/\Ak C h ((c+1:Nat):Int)/\Jk C c h/\∀x y,fieldF C c h x y=sFN r (k%2^(j+1)) φ x y)/\((B=[]/\∀x y,sFN r (k%2^(j+1)) φ x y=φ x y)\/Yb S C (sFN r (k%2^(j+1)) φ) B))
    .intro aa;refine xwb Z Z Z ⟨B1,Z,(xq1 Z (GD (λY=>?_) (λY=>?_)))⟩
     .have Y:((k/2^j:Nat):Int)%2=1:=by
       have:=X7 Y;injection this
      have od:k/2^j%2=1:=by lia
      have tk:2^j+k%2^j<=k:=by
       have d:=M9 k (2^j);have p:2^j*1<=2^j*(k/2^j):=N3 _ A0;lia
      refine Bf ?_;intro r9 s9 k9 ar E9;refine xw3 Z Z Z (xw2 Z Z ⟨g,C,h,c,j,Z,D.fu.at',lh,ak,by lia,λl a4 nl jl le=>?_⟩);have el:c+(l+1-c)+1=l+2:=by lia
      refine⟨g,C,h,c,l+1-c,by rw[el];rfl,D.fu,lh,by lia,by lia,λv G2 S al U W wn lv=>?_⟩;have R:=D.fr al U W;have cz:=R.jz.sz fin;obtain⟨r4,e4⟩:=U.g0;have wf:∀x y,fieldF G2 (l+1) v x y=sFN r (k%2^j) φ x y:=λx y=>by
       have:=FM e4 U.ok (k:=l+1-c) (w:=v) A0 wn x y;rw[show c+(l+1-c)=l+1 by lia]at this;rw[this,Dt D.fu.ok W lh,fh]
      have af:Ak G2 v ((l+1+1:Nat):Int):=by rw[show l+1+1=c+(l+1-c)+1 by lia];exact lv
      have aw:=an.trans W;refine ar ?_;refine Bf ?_;intro ct cw cp a0 ck;refine xwn Z Z R.jz.jw.hp (YA _ _ _ _ _) Z (xq1 Z ⟨p,dx,mem,pr,g,G2,Κ,N,_,r,m,v,l,j,Z,R.jz,fin,cl,af,by lia,jl,a9 j l G2 v od jl a4 U.ok af wf,by lia,λM G3 H5 i5 fj bw ad jr up=>?_⟩);have ah:=R.aft fj bw ad;have c0:=ah.jz.sz fin;have bf:FrZ g m H H5:=(am.trans (Fr.z al)).trans (FrJ.z fj);have ce:∀x y,fieldF G3 (l+1) v x y=sFN r (k%2^j) φ x y:=λx y=>by rw[Dt U.ok ad af];exact wf x y
      obtain⟨lr,rs⟩:=fld_jg ah.fu.ok ro re (ad.lev af) jr ce (λx y ae=>by
       rw[<-fh]at ae;have a5:(2:Int)^c+2^j<=2^l:=by exact_mod_cast le
       obtain⟨h1,h2,h3,h4⟩:=X6 λz:¬(-(2^c)<=x/\x<2^c/\-(2^c)<=y/\y<2^c)=>ae (by unfold fieldF;rw[Z4 z]);have q:=nar h1 h2 a5;exact⟨q.1,q.2,nar h3 h4 a5⟩)
      have rs:∀x y,fieldF G3 l M x y=sFN r (k%2^(j+1)) φ x y:=λx y=>by rw[rs,<-Ms,md,od,W4,V8]
      have ay:H5 L=some (.lst (B.map V.ref)):=FrJ.z fj _ _ (Fr.z (m:=m) al _ _ ao O.n0 O.n1) O.n0 O.n1;refine a0 ?_;refine Bf ?_;intro cu cx cq a1 cm;refine xq1 Z ⟨.inl ⟨Z,_,SqL.of ay⟩,(xw3 Z Z Z ⟨by show 3<=sizeLine;decide,λt nt=>?_⟩)⟩;have ag:=AK (o:=.tup [.int (v:Int),.int (j:Int),.int (M:Int)]) nt;have as:upd H5 t (.tup [.int (v:Int),.int (j:Int),.int (M:Int)]) t=some (.tup [.int (v:Int),.int (j:Int),.int (M:Int)]):=Ag;generalize upd H5 t (.tup [.int (v:Int),.int (j:Int),.int (M:Int)])=H6 at ag as⊢;have ci:=ah.same ag;have aq:=ag _ _ ay;refine⟨L,(xq2 Z Z ⟨aq,by rw[B6];exact Dv A0,?_⟩)⟩;have ai:=ci.putL (o:=.lst (B.map V.ref++[.ref t])) aq O;have a3:upd H6 L (.lst (B.map V.ref++[.ref t])) t=some (.tup [.int (v:Int),.int (j:Int),.int (M:Int)]):=by rw[As (AE as aq A3)];exact as
      have av:FrZ g m H (upd H6 L (.lst (B.map V.ref++[.ref t]))):=λb' o e n1 n2=>by
       rw[As (Av e ax)];exact ag _ _ (bf _ _ e n1 n2)
      have az:upd H6 L (.lst (B.map V.ref++[.ref t])) L=some (.lst ((B++[t]).map V.ref)):=by rw[Ag,C6];rfl
      generalize upd H6 L (.lst (B.map V.ref++[.ref t]))=H7 at ai a3 av az⊢;refine a1 ?_;refine xw2 Z Z ⟨g,G3,M,l,Z,ai.fu,lr,by lia,λnw G8 H8 ab ac X cc=>?_⟩;have cj:=ai.fr ab ac X;obtain⟨r8,e8⟩:=ac.g0;obtain⟨m8,cr,b0,a8,ba⟩:=FP e8 ac.ok A0 (X.lev lr) cc;have fa:∀x y,fieldF G8 l M x y=sFN r (k%2^(j+1)) φ x y:=λx y=>by rw[Dt ah.fu.ok X lr];exact rs x y
      have fe:∀x y,fieldF G8 m8 nw x y=sFN r (k%2^(j+1)) φ x y:=λx y=>by rw[ba,fa]
      have ca:k%2^(j+1)<=k:=Nat.mod_le _ _;have b4:=VE e8 ac.ok A0 a8 (λx y ae=>Wr re nr ca (by rw[<-fe];exact ae));have bv:=ai.keep (Fr.z ab) a3 (by intro xs z;cases z) (by intro xs z;cases z) (by intro xs z;cases z);have bj:H8 L=some (.lst ((B++[t]).map V.ref)):=Fr.z (m:=m) ab _ _ az O.n0 O.n1;have bg:=(aw.trans ad).trans X;refine aa _ _ ⟨G8,B++[t],nw,m8,_,_,_,Z,av.trans (Fr.z ab),cj.mono ?_,bg,bj,by rw[C3];show B.length+1<=_;lia,⟨b4,b0,a8,fe⟩,.inr ⟨t,v,j,M,l,by rw[List.getLast?_append];rfl,bv,a4,X.lev lr,fa⟩⟩;rw[C3];show _<=b+270*(B.length+1)
      lia
     .have Y:¬((k/2^j:Nat):Int)%2=1:=λz=>Y (Z5 (K0 V.int z));have ev:k/2^j%2=0:=by lia
      have md:k%2^(j+1)=k%2^j:=by rw[md,ev,T7,Nat.add_zero]
      exact aa _ _ ⟨C,B,h,c,u8,u9,i,Z,am,D,an,ao,by lia,by rw[md];exact⟨ak,lh,th,fh⟩,by rw[md];exact la⟩
    .rintro σ' S cf;apply AO;intro G_ I;obtain⟨G2,cd,h2,b7,v8,v9,i2,rfl,be,R,W,bi,cb,b5,bz⟩:=cf;apply I;clear I G_;refine bu ?_;refine Bf ?_;intro r9 s9 k9 ar E9;refine xwb Z Z Z ⟨⟨by decide,by decide⟩,?_⟩;refine ar ?_;have ed:((k/2^j:Nat):Int)/2=((k/2^(j+1):Nat):Int):=by rw[dv];lia
     have ej:(j:Int)+1=((j+1:Nat):Int):=by lia
     refine xwb Z Z Z ⟨j+1,G2,cd,h2,b7,v8,v9,i2,?_,by lia,be,R,W,bi,cb,b5,bz⟩;exact(K0 (λu:Int=>[some (V.ref p),some (V.int f'),some (V.int (k:Int)),some (V.ref g.p),some (V.ref L),some (V.int h2),some (V.int u),some (V.int ((j:Int)+1)),v8,v9]) ed).trans (K0 (λv:Int=>[some (V.ref p),some (V.int f'),some (V.int (k:Int)),some (V.ref g.p),some (V.ref L),some (V.int h2),some (V.int ((k/2^(j+1):Nat):Int)),some (V.int v),v8,v9]) ej)
  .have Y:¬((k/2^j:Nat):Int) > 0:=λz=>Y (Z5 z);exact AX (aj (.inl A0))
end
theorem ifT{b:Bool}{A B:Prop}(h:b=true)(x:A):if b=true then A else B:=by rw[h];exact Cg x
theorem ifF{b:Bool}{A B:Prop}(h:b=false)(x:B):if b=true then A else B:=by rw[h];exact AX x
structure Fv(G:Gv)(f:Nat)(φ:D_):Prop where
ex:∃n:Nat,n<=40/\Ak G f ((n+1:Nat):Int)/\Jk G n f/\∀x y,fieldF G n f x y=φ x y
theorem Fv.app{G a:Gv}{k f:Nat}{φ:D_}(ok:GOk G)(go:AG G a k)(h:Fv G f φ):Fv a f φ:=by
 obtain⟨n,c,b,d,e⟩:=h.ex;exact⟨n,c,go.lev b,d.app go,λx y=>by rw[Dt ok go b];exact e x y⟩
theorem Fv.eq{G r:Gv}(b:G=G0++r)(ok:GOk G){f a:Nat}{φ ψ:D_}(h:Fv G f φ)(h':Fv G a ψ)(e:∀x y,φ x y=ψ x y):f=a:=by
 obtain⟨n,o,i,j,k⟩:=h.ex;obtain⟨m,l,c,d,g⟩:=h'.ex;exact(Qe b ok A0 A0 i c j d λx y=>by rw[k,g,e]).2
theorem Fv.to{G:Gv}{f:Nat}{φ ψ:D_}(h:Fv G f φ)(e:∀x y,φ x y=ψ x y):Fv G f ψ:=by
 obtain⟨n,a,b,c,d⟩:=h.ex;exact⟨n,a,b,c,λx y=>by rw[d,e]⟩
section
variable{P:N_}{w:Q_}{K:O_}{mg:C_}{base:T_}{a:Ad}
inductive SpJpG(a:Ad)(vs:List V)(H:Hp)(Q:VK):Prop
|mk (p dx mem pr:R_) (g:GA) (G:Gv) (Κ:KTy) (φ:D_) (N b:Nat) (r:AI) (m:MA) (f k:Nat) (_:vs=[.ref p,.int f,.int (k:Int)]) (_:ZS a H g G Κ N b p dx mem pr r m) (_:Ma Κ N) (_:ClK r Κ) (_:QO Κ r φ k) (_:Fv G f φ) (_:LZ φ k) (_:b+12000+10*N<7900000) (_:∀(d:Nat)(G':Gv)(H':Hp)(i:Nat),FrZ g m H H'->ZS a H' g G' Κ N (b+12048) p dx mem pr r m->AG G G' i->Fv G' d (sFN r k φ)->Q (.int d) H'):SpJpG a vs H Q
def VW(a:Ad):Sp:=λvs H Q _=>SpJpG a vs H Q
theorem ok_jpg(F:Fun K "jump" "jump" UP f fd)(T:Top K mg a)(dG:Cal P w K mg base CX0 150 "road" RP (Zv a))(aR:Cal P w K mg base CX0 4 "trimmed" Lf (MW a)):AN P w K mg base CX0 151 f fd RP (VW a):=by
 refine F.ok Wd D_9 λag A ad s H vs Q E hr h=>?_
 obtain⟨p,dx,mem,pr,g,G,Κ,φ,N,b,r,m,f',k,rfl,zs,fin,cl,I,fv,nr,few,kn⟩:=h;obtain⟨n,ac,lf,tr,hf⟩:=id fv.ex;have re:=zs.jz.jw.rest;refine⟨_,(Ab (Ao (i:=3) Wd.nd Z O_9 (Aq dG (rm hr) Z Am (Aa (pv 0) (Aa (pv 1) (Aa (pv 2) Ac))))) (Ab (AQ (Az De (AJ BD Z T.b_len K8 (Aa (pv 3) Ac)) Ae (AD _)) (Af (Au (pv 1))) Ax) (Af (Au (Aq aR (rm hr) Z Am (Aa (AB (pv 0) Z) (Aa (Ai Al (Ai Aw (pv 3) (Fd CU Ae) R_9) Ae R_9) Ac))))))),?_⟩
 try dsimp only[cxK]
 refine Bf ?_;intro r1 s1 k1 S E1;refine xw3 Z Z Z (.mk p dx mem pr g G Κ φ N b r m f' n k Z zs fin cl I lf ac tr hf nr few (λL u G1 H1 i1 B c q nL hL M=>?_));refine S ?_;refine Bf ?_;intro r2 s2 k2 U E2;refine⟨_,Z,L,_,Z,.inl (SqL.of hL),Z,_,Z,?_⟩;rcases M with ⟨rfl,M⟩|⟨t,sq,e,C,l,X,ht,ah,Y,rs⟩
 .exact ifT Z ⟨_,Z,kn f' G1 H1 i1 B (c.mono A0) q ((fv.app zs.fu.ok q).to λx y=>(M x y).symm)⟩
 .have ne:u≠[]:=λz=>by rw[z]at X;cases X
  have tl:1<=u.length:=T5.mpr ne;refine ifF (Z8 (λz=>by injection z with z;rw[B6]at z;lia)) ?_;refine U ?_;have li:atI (u.map V.ref) (-1)=some (.ref t):=by
   unfold atI;have:ixN (u.map V.ref).length (-1)=some (u.length-1):=by
    unfold ixN;rw[B6,Z4 A4,Z7 A0];congr 1;lia
   rw[this];show(u.map V.ref)[u.length-1]?=_;rw[B8,<-List.getLast?_eq_getElem?,X];rfl
  refine xwf Z Z c.jz.jw.hp T.cl_Jumps T.na_Jumps_grove (Es _ _ _ _ _) ?_;refine⟨_,Z,1,Z,L,_,-1,.ref t,Z,Z,SqL.of hL,li,t,_,2,.int (C:Int),Z,Z,SqT.of ht,Ah (j:=2) Z,?_⟩;have aj:=c.jz.sz fin;refine⟨g,G1,C,l,Z,c.fu,Y,by lia,λnh G8 H8 v d o ae=>?_⟩;have af:=c.fr v d o;obtain⟨r8,e8⟩:=d.g0;obtain⟨m8,ai,aa,D,O⟩:=FP e8 d.ok A0 (o.lev Y) ae;have R:=q.trans o;have fe:∀x y,fieldF G8 m8 nh x y=sFN r k φ x y:=λx y=>by rw[O,Dt c.fu.ok o Y];exact rs x y
  have ab:=VE e8 d.ok A0 D (λx y W=>Wr re nr (C0 k) (by rw[<-fe];exact W));exact kn nh G8 H8 _ (B.trans (Fr.z v)) (af.mono A0) R ⟨m8,ab,aa,D,fe⟩
end
end J
namespace J
open PySem L2
noncomputable def EM(G:Gv):Nat->Nat->Int->Int->List (List Int)
|0,i,x,y=>if i=0 then []else [[y,x,(i:Int)]]
|n+1,i,x,y=>match G[i]? with
 |some q=>(List.range 4).flatMap λk=>EM G n (q.parts.getD k 0).toNat (x+((k%2:Nat):Int)*2^n) (y+((k/2:Nat):Int)*2^n)
 |none=>[]
noncomputable def Id(G:Gv)(n:Nat)(f:L_)(x y:Int)(k:Nat):List (List Int):=EM G n (f k) (x+((k%2:Nat):Int)*2^n) (y+((k/2:Nat):Int)*2^n)
theorem Qd{α β:Type}{f g:α->List β}:∀{l:List α},(∀x∈l,f x=g x)->l.flatMap f=l.flatMap g
|[],_=>rfl
|x::l,h=>by rw[S9,S9,h x (C2 ..),Qd λy a=>h y (C4 _ a)]
theorem Ji{G:Gv}{n i:Nat}{q:Sq}{a b c d:Nat}(h:DQ G n i q a b c d)(x y:Int):EM G (n+1) i x y=(List.range 4).flatMap (Id G n (f4 a b c d) x y):=by
 rw[show EM G (n+1) i x y=(match G[i]? with|some q=>(List.range 4).flatMap λk=>EM G n (q.parts.getD k 0).toNat (x+((k%2:Nat):Int)*2^n) (y+((k/2:Nat):Int)*2^n)|none=>[])from rfl,h.g];refine Qd λk e=>?_;have:=(h.nat (by simpa using e)).1;unfold Id;rw[C7,this];rfl
theorem DT{G:Gv}(ok:GOk G):∀{n i:Nat}{x y:Int},Ak G i (n:Int)->((EM G n i x y).length:Int)=BW G n i
|0,i,x,y,_=>by
 show(((if i=0 then []else [[y,x,(i:Int)]]:List (List Int)).length:Nat):Int)=if i=0 then 0 else 1;split<;>rfl
|n+1,i,x,y,h=>by
 obtain⟨q,a,b,c,d,nd⟩:=Bk ok h;rw[Ji nd,FJ nd];show(((Id G n (f4 a b c d) x y 0++(Id G n (f4 a b c d) x y 1++(Id G n (f4 a b c d) x y 2++(Id G n (f4 a b c d) x y 3++[])))).length:Nat):Int)=BW G n a+(BW G n b+(BW G n c+(BW G n d+0)))
 have e:=DT ok (x:=x+((0%2:Nat):Int)*2^n) (y:=y+((0/2:Nat):Int)*2^n) nd.hx;have f:=DT ok (x:=x+((1%2:Nat):Int)*2^n) (y:=y+((1/2:Nat):Int)*2^n) nd.hy;have g:=DT ok (x:=x+((2%2:Nat):Int)*2^n) (y:=y+((2/2:Nat):Int)*2^n) nd.hz;have j:=DT ok (x:=x+((3%2:Nat):Int)*2^n) (y:=y+((3/2:Nat):Int)*2^n) nd.hw;rw[<-e,<-f,<-g,<-j];simp only[C3,List.length_nil,N2];rfl
theorem dm_c(v h:Nat):(v:Int)=((v/h:Nat):Int)*(h:Int)+((v%h:Nat):Int):=by
 have:=M9 v h;rw[<-N5,<-N2,S1,this]
theorem FH{G:Gv}(ok:GOk G):∀{n i:Nat}{x y:Int}{r:I_},Ak G i (n:Int)->(r∈EM G n i x y ↔ ∃u v:Nat,u<2^n/\v<2^n/\cellF G n i u v≠0/\r=[y+v,x+u,(cellF G n i u v:Int)])
|0,i,x,y,r,_=>by
 show r∈(if i=0 then []else [[y,x,(i:Int)]]:List (List Int))↔_;constructor
 .intro h;by_cases z:i=0
  .rw[Z7 z]at h;cases h
  .rw[Z4 z]at h;refine⟨0,0,by decide,by decide,z,?_⟩;rw[D1.mp h];show [y,x,(i:Int)]=[y+0,x+0,(i:Int)]
   rw[O0,O0]
 .rintro⟨u,v,f,g,j,rfl⟩;have f:u=0:=S7.mp f;have g:v=0:=S7.mp g;subst f g;have j:i≠0:=j;rw[Z4 j];show [y+0,x+0,(i:Int)]∈_;rw[O0,O0];exact D1.mpr Z
|n+1,i,x,y,r,h=>by
 obtain⟨q,a,b,c,d,nd⟩:=Bk ok h;have m:=Fc n;rw[Ji nd,Q9];constructor
 .rintro⟨k,l,D⟩;have l:k<4:=by simpa using l
  obtain⟨u,v,f,g,j,rfl⟩:=(FH ok (nd.nat l).2).mp D;obtain⟨o,p,t,w,C⟩:=Gx l f g;have e:=Bc nd o p;rw[t,w,C]at e;refine⟨_,_,o,p,by rw[e];exact j,?_⟩;rw[e,<-m,N2,N5,N2,N5,Z1 ((k/2:Nat):Int),Z1 ((k%2:Nat):Int),Y4,Y4,Int.add_comm (v:Int),Int.add_comm (u:Int)]
 .rintro⟨u,v,f,g,j,rfl⟩;rw[Bc nd f g]at j⊢;have s:=Dm f g;refine⟨quad n u v,by simpa using s,(FH ok (nd.nat s).2).mpr ⟨u%2^n,v%2^n,J1 _ (Ba n),J1 _ (Ba n),j,?_⟩⟩;have E:quad n u v/2=v/2^n:=by
   have:=Ds f;unfold quad;generalize u/2^n=A at *
   generalize v/2^n=B at *
   lia
  have F:quad n u v%2=u/2^n:=by
   have:=Ds f;unfold quad;generalize u/2^n=A at *
   generalize v/2^n=B at *
   lia
  rw[E,F,<-m,Y4,Y4,<-dm_c,<-dm_c]
theorem NV{G:Gv}(ok:GOk G):∀{n i:Nat}{x y:Int},Ak G i (n:Int)->(EM G n i x y).Nodup
|0,i,x,y,_=>by
 show(if i=0 then []else [[y,x,(i:Int)]]:List (List Int)).Nodup;split
 .exact O5
 .simp
|n+1,i,x,y,h=>by
 obtain⟨q,a,b,c,d,nd⟩:=Bk ok h;rw[Ji nd,F7,List.pairwise_flatMap];refine⟨λk g=>?_,?_⟩
 .have g:k<4:=by simpa using g
  exact F7.mp (NV ok (nd.nat g).2)
 .refine A1f (λ{k j} g p I r F O s e=>I ?_) (F7.mp (List.nodup_range (n:=4)));subst e;have g:k<4:=by simpa using g
  have p:j<4:=by simpa using p
  obtain⟨u,v,C,H,N,E⟩:=(FH ok (nd.nat g).2).mp F;obtain⟨o,P,m,t,K,l⟩:=(FH ok (nd.nat p).2).mp s;rw[E]at l;injection l with f1 l
  injection l with f2 l
  have D:=Fc n;rw[<-D]at f1 f2;have f:∀{A B h u o:Nat},A<2->B<2->u<h->o<h->(A:Int)*(h:Int)+u=(B:Int)*(h:Int)+o->A=B:=by
   intro A B h u o w z C m e;have w:A=0\/A=1:=by lia
   have z:B=0\/B=1:=by lia
   rcases w with rfl|rfl<;>rcases z with rfl|rfl<;>simp at e<;>first|rfl|lia
  have L:=f (A:=k/2) (B:=j/2) A0 A0 H t A0;have M:=f (A:=k%2) (B:=j%2) A0 A0 C m A0;lia
noncomputable def stC:List Cl->Int->Int->Nat
|[],_,_=>0
|c::cs,x,y=>if x=c.x/\y=c.y then c.s else stC cs x y
theorem YX{G u:Gv}(a:G=G0++u)(ok:GOk G){cs:List Cl}{n f:Nat}(h:SM G cs n f):(∀c∈cs,c.s<8)->Jk G n f/\∀x y,fieldF G n f x y=stC cs x y:=by
 induction h with
 |nil =>
  intro _;refine⟨.inl Z,λx y=>?_⟩;unfold fieldF;split
  .rename_i z;exact DW a ok A4 (Ew z.1 z.2.1) (Ew z.2.2.1 z.2.2.2)
  .rfl
 |@cons cs c n f r k w i m h l p o j =>
  intro b;obtain⟨t,e⟩:=j λc g=>b c (C4 _ g);obtain⟨q,_,lm,v,d⟩:=Tr a ok (b c (C2 ..)) p;have:q=m:=by
   have:=Z9 (lm.uniq o);lia
  subst this;refine⟨v,λx y=>?_⟩;rw[d x y,e x y];rfl
noncomputable def kvC(ds:List Cl):List (List Key×V):=ds.map λc=>(kOf [c.x,c.y],V.int (c.s:Int))
theorem MI:∀{a:List Cl},(a.map λc=>(c.x,c.y)).Nodup->∀{c:Cl},c∈a->Bo (kvC a) (kOf [c.x,c.y])=some (.int (c.s:Int))
|d::a,nd,c,b=>by
 rw[D9,M6]at nd;show Bo ((kOf [d.x,d.y],V.int (d.s:Int))::kvC a) (kOf [c.x,c.y])=_;rcases C1.mp b with rfl|b
 .exact BL Z
 .rw[Bn λz=>?_]
  .exact MI nd.2 b
  .have z:=MJ z;injection z with z1 z
   injection z with z2 z
   exact nd.1 (C8.mpr ⟨c,b,by rw[z1,z2]⟩)
noncomputable def ZQ(c:Cl):List Int:=[c.y,c.x,(c.s:Int)]
noncomputable def LQ(ds:List Cl)(c:Cl):List Cl:=if ds.any (λd=>decide (d.x=c.x/\d.y=c.y))=true then ds.map (λd=>if d.x=c.x/\d.y=c.y then c else d)else ds++[c]
theorem mem_putC{b:List Cl}{c d:Cl}:d∈LQ b c↔d=c\/(d∈b/\¬(d.x=c.x/\d.y=c.y)):=by
 unfold LQ;by_cases h:b.any (λd=>decide (d.x=c.x/\d.y=c.y))=true
 .rw[Z7 h,C8];obtain⟨z,i,f⟩:=S2.mp h;have f:=X7 f;constructor
  .rintro⟨e,g,rfl⟩;by_cases q:e.x=c.x/\e.y=c.y
   .rw[Z7 q];exact .inl Z
   .rw[Z4 q];exact .inr ⟨g,q⟩
  .rintro(rfl|⟨a,q⟩)
   .exact⟨z,i,Z7 f⟩
   .exact⟨d,a,Z4 q⟩
 .rw[Z4 h,D8,D1];have no:∀e∈b,¬(e.x=c.x/\e.y=c.y):=λe g q=>h (S2.mpr ⟨e,g,Z5 q⟩);constructor
  .rintro(a|rfl)
   .exact .inr ⟨a,no d a⟩
   .exact .inl Z
  .rintro(rfl|⟨a,_⟩)
   .exact .inr Z
   .exact .inl a
theorem len_putC(a:List Cl)(c:Cl):(LQ a c).length<=a.length+1:=by
 unfold LQ;split
 .rw[B6];lia
 .rw[C3];exact C0 _
theorem nd_putC {f:List Cl} {c:Cl} (h:(f.map λc=>(c.x,c.y)).Nodup):((LQ f c).map λc=>(c.x,c.y)).Nodup:=by
 unfold LQ;by_cases q:f.any (λd=>decide (d.x=c.x/\d.y=c.y))=true
 .rw[Z7 q,L9];have:((λc:Cl=>(c.x,c.y)) ∘ λd=>if d.x=c.x/\d.y=c.y then c else d)=λd=>(d.x,d.y):=by
   funext d
   show((if d.x=c.x/\d.y=c.y then c else d).x,(if d.x=c.x/\d.y=c.y then c else d).y)=(d.x,d.y)
   split
   .rename_i z;rw[z.1,z.2]
   .rfl
  rw[this];exact h
 .rw[Z4 q,C6,O8];refine⟨h,by simp,λa i b g e=>q ?_⟩;obtain⟨d,j,rfl⟩:=C8.mp i;rw[D9,Z0,D1]at g;rw[g]at e;injection e with e1 e2
  exact S2.mpr ⟨d,j,Z5 ⟨e1,e2⟩⟩
theorem kv_putC(b:List Cl)(c:Cl):Do (kvC b) (kOf [c.x,c.y]) (.int (c.s:Int))=kvC (LQ b c):=by
 have a:∀d:Cl,(kOf [d.x,d.y]=kOf [c.x,c.y])↔(d.x=c.x/\d.y=c.y):=λd=>⟨λz=>by
  have z:=MJ z;injection z with z1 z
  injection z with z2 z
  exact⟨z1,z2⟩,λz=>by rw[z.1,z.2]⟩
 unfold Do LQ kvC;rw[List.any_map];have:((λe:List Key×V=>decide (e.1=kOf [c.x,c.y])) ∘ λc:Cl=>(kOf [c.x,c.y],V.int (c.s:Int)))=λd=>decide (d.x=c.x/\d.y=c.y):=by
  funext d
  exact decide_eq_decide.mpr (a d)
 rw[this];split
 .rw[L9,L9];congr 1
  funext d
  show(if kOf [d.x,d.y]=kOf [c.x,c.y]then(kOf [d.x,d.y],V.int (c.s:Int))else(kOf [d.x,d.y],V.int (d.s:Int)))=(kOf [(if d.x=c.x/\d.y=c.y then c else d).x,(if d.x=c.x/\d.y=c.y then c else d).y],V.int ((if d.x=c.x/\d.y=c.y then c else d).s:Int))
  by_cases q:d.x=c.x/\d.y=c.y
  .rw[Z7 ((a d).mpr q),Z7 q,q.1,q.2]
  .rw[Z4 λz=>q ((a d).mp z),Z4 q]
 .rw[C6];rfl
structure Of(G:Gv)(n f:Nat)(ds:List Cl):Prop where
nd:(ds.map λc=>(c.x,c.y)).Nodup
mem:∀c:Cl,c∈ds↔(1<=c.s/\fieldF G n f c.x c.y=c.s)
theorem YK{G:Gv}(ok:GOk G){n f:Nat}(l:Ak G f ((n+1:Nat):Int)){r:I_}:r∈EM G (n+1) f (-(2^n)) (-(2^n)) ↔ ∃x y:Int,fieldF G n f x y≠0/\r=[y,x,(fieldF G n f x y:Int)]:=by
 have c:=Fc n;have e:=Pm n;rw[FH ok l];constructor
 .rintro⟨u,v,k,m,b,rfl⟩;have d:fieldF G n f (-(2^n)+u) (-(2^n)+v)=cellF G (n+1) f u v:=by
   unfold fieldF;rw[Z7 ⟨by lia,by lia,by lia,by lia⟩];congr 1<;>lia
  refine⟨-(2^n)+u,-(2^n)+v,by rw[d];exact b,by rw[d]⟩
 .rintro⟨x,y,b,rfl⟩;have a:=b;unfold fieldF at a;split at a
  .rename_i z;obtain⟨g,h,i,j⟩:=z;refine⟨(x+2^n).toNat,(y+2^n).toNat,Ew g h,Ew i j,a,?_⟩;unfold fieldF;rw[Z7 ⟨g,h,i,j⟩,show -(2^n)+(((y+2^n).toNat:Nat):Int)=y by lia,show -(2^n)+(((x+2^n).toNat:Nat):Int)=x by lia]
  .exact absurd Z a
theorem Of.perm{G:Gv}(ok:GOk G){n f:Nat}(l:Ak G f ((n+1:Nat):Int)){b:List Cl}(h:Of G n f b):(EM G (n+1) f (-(2^n)) (-(2^n))).Perm (b.map ZQ):=by
 refine(List.perm_ext_iff_of_nodup (NV ok l) ?_).mpr λr=>?_
 .rw[F7,N4];have nd:=h.nd;rw[F7,N4]at nd;refine nd.imp λ{c d} a e=>a ?_;injection e with e1 e
  injection e with e2 e
  rw[e1,e2]
 .rw[YK ok l,C8];constructor
  .rintro⟨x,y,j,rfl⟩;exact⟨⟨x,y,fieldF G n f x y⟩,(h.mem _).mpr ⟨R1 j,Z⟩,Z⟩
  .rintro⟨c,i,rfl⟩;obtain⟨k,g⟩:=(h.mem c).mp i;exact⟨c.x,c.y,by lia,by rw[g];rfl⟩
theorem Of.cnt{G:Gv}(ok:GOk G){n f:Nat}(l:Ak G f ((n+1:Nat):Int)){a:List Cl}(h:Of G n f a):BW G (n+1) f=(a.length:Int):=by
 rw[<-DT ok (x:=-(2^n)) (y:=-(2^n)) l,(h.perm ok l).length_eq,B6]
theorem dput{H:Hp}{D t:R_}{a:List Cl}{c:Cl}(e:H D=some (.dT (kvC a)))(b:H t=some (.tup [.int c.x,.int c.y]))(d:a.length<1000):Mb H D (.ref t) (.int (c.s:Int)) (upd H D (.dT (kvC (LQ a c)))):=by
 rw[<-kv_putC];exact Mb.t (k:=kOf [c.x,c.y]) e b (Dv (by rw[show(kvC a).length=a.length from B6 _];lia))
theorem Pi:∀{l m:List (List Int)},l.Pairwise (λp q=>Cp q p=false)->m.Pairwise (λp q=>Cp q p=false)->l.Perm m->l=m
|[],m,_,_,h=>(List.nil_perm.mp h).symm
|a::l,[],_,_,h=>absurd h.length_eq A6
|a::l,b::m,h1,h2,h=>by
 rw[R3]at h1 h2;have e:a=b:=by
  have c:a∈b::m:=h.mem_iff.mp (C2 ..);have d:b∈a::l:=h.mem_iff.mpr (C2 ..);rcases C1.mp c with z|z
  .exact z
  .rcases C1.mp d with y|y
   .exact y.symm
   .exact TV (h2.1 a z) (h1.1 b y)
 subst e;rw[Pi h1.2 h2.2 h.cons_inv]
structure Oq(ds:List Cl)(φ:D_):Prop where
nd:(ds.map λc=>(c.x,c.y)).Nodup
mem:∀c:Cl,c∈ds↔(1<=c.s/\φ c.x c.y=c.s)
theorem stC_ds{j:List Cl}{φ:D_}(h:Oq j φ)(x y:Int):stC j.reverse x y=φ x y:=by
 have g:∀{a:List Cl},(∀c∈a,1<=c.s/\φ c.x c.y=c.s)->(∃c∈a,c.x=x/\c.y=y)->stC a x y=φ x y:=by
  intro a;induction a with
  |nil=>rintro _ ⟨c,b,_⟩;cases b
  |cons d a f =>
   intro e ⟨c,b,k,l⟩;show(if x=d.x/\y=d.y then d.s else stC a x y)=_;by_cases q:x=d.x/\y=d.y
   .rw[Z7 q,q.1,q.2];exact(e d (C2 ..)).2.symm
   .rw[Z4 q];refine f (λc b=>e c (C4 _ b)) ?_;rcases C1.mp b with rfl|b
    .exact absurd ⟨k.symm,l.symm⟩ q
    .exact⟨c,b,k,l⟩
 have i:∀{a:List Cl},(∀c∈a,¬(c.x=x/\c.y=y))->stC a x y=0:=by
  intro a;induction a with
  |nil=>intro _;rfl
  |cons d a f =>
   intro e;show(if x=d.x/\y=d.y then d.s else stC a x y)=_;rw[Z4 λq=>e d (C2 ..) ⟨q.1.symm,q.2.symm⟩];exact f λc b=>e c (C4 _ b)
 by_cases z:φ x y=0
 .rw[z];refine i λc b q=>?_;obtain⟨n,m⟩:=(h.mem c).mp (V0.mp b);rw[q.1,q.2,z]at m;lia
 .refine g (λc b=>(h.mem c).mp (V0.mp b)) ⟨⟨x,y,φ x y⟩,V0.mpr ((h.mem _).mpr ⟨by show 1<=φ x y;lia,Z⟩),Z,Z⟩
theorem Sol.uniq{G:Gv}(ok:GOk G){s:Nat}:∀{l n m:Nat},Sol G s l n->Sol G s l m->n=m
|0,n,m,h,c=>by
 have h:n=s:=h;have c:m=s:=c;rw[h,c]
|l+1,n,m,h,c=>by
 obtain⟨a,f,d⟩:=h;obtain⟨b,g,e⟩:=c;have:=Sol.uniq ok f g;subst this;exact ok.one d e Z
structure NO(G:Gv)(n i o:Nat)(l t r b:Int)(m:Nat):Prop where
lev:Ak G m (n:Int)
cell:∀x y:Nat,x<2^n->y<2^n->cellF G n m x y=if(l<=x/\(x:Int)<r)/\(t<=y/\(y:Int)<b)then cellF G n i x y else cellF G n o x y
theorem NO.app{G d:Gv}{k n i o m:Nat}{l t r b:Int}(ok:GOk G)(go:AG G d k)(e:Ak G i (n:Int))(f:Ak G o (n:Int))(h:NO G n i o l t r b m):NO d n i o l t r b m:=⟨go.lev h.lev,λx y a c=>by rw[JX ok go h.lev a c,JX ok go e a c,JX ok go f a c];exact h.cell x y a c⟩
noncomputable def spl(s e h:Int):Nat->Int×Int
|0=>(s,if h<e then h else e)
|_=>(if s-h<0 then 0 else s-h,e-h)
theorem VO{s e:Int}{n x u:Nat}(g:x<2^(n+1))(f:x/2^n=u):((spl s e (2^n) u).1<=((x%2^n:Nat):Int)/\((x%2^n:Nat):Int)<(spl s e (2^n) u).2)↔(s<=x/\(x:Int)<e):=by
 have p:(0:Int)<2^n:=GJ n;have d:(2:Int)^n=((2^n:Nat):Int):=by exact_mod_cast Z
 have a:=M9 x (2^n);have lt:=J1 x (Ba n);have b:=Ds g;rw[f]at a b;rw[d]at p⊢;generalize 2^n=h at *
 match u,b with
 |0,_ =>
  have c:x%h=x:=by rw[T7,M8]at a;exact a
  show(s<=((x%h:Nat):Int)/\((x%h:Nat):Int)<if(h:Int)<e then(h:Int)else e)↔_;rw[c];split<;>lia
 |1,_ =>
  have c:x=h+x%h:=by rw[W4]at a;exact a.symm
  show((if s-(h:Int)<0 then(0:Int)else s-h)<=((x%h:Nat):Int)/\((x%h:Nat):Int)<e-h)↔_;split<;>lia
theorem NO.join{G:Gv}{n i o m:Nat}{l t r b:Int}{K L:Sq}{v j p w A B C D:Nat}{a:L_}(I:DQ G n i K v j p w)(no:DQ G n o L A B C D)
  (h:∀k,k<4->NO G n (f4 v j p w k) (f4 A B C D k) (spl l r (2^n) (k%2)).1 (spl t b (2^n) (k/2)).1 (spl l r (2^n) (k%2)).2 (spl t b (2^n) (k/2)).2 (a k))
  (u:G[m]?=some ⟨[(a 0:Int),(a 1:Int),(a 2:Int),(a 3:Int)],(n:Int)+1⟩):NO G (n+1) i o l t r b m:=by
 have nm:DQ G n m _ (a 0) (a 1) (a 2) (a 3):=⟨u,Z,Z,(h 0 A4).lev,(h 1 A4).lev,(h 2 A4).lev,(h 3 A4).lev⟩
 refine⟨⟨_,u,by show(n:Int)+1=_;lia⟩,λx y d g=>?_⟩;have M:=Ds d;have N:=Ds g;have E:quad n x y<4:=by unfold quad;lia
 have c:=(h _ E).cell (x%2^n) (y%2^n) (J1 _ (Ba n)) (J1 _ (Ba n));have f:f4 (a 0) (a 1) (a 2) (a 3) (quad n x y)=a (quad n x y):=by
  match quad n x y,E with
  |0,_=>rfl
  |1,_=>rfl
  |2,_=>rfl
  |3,_=>rfl
 have F:quad n x y%2=x/2^n:=by unfold quad;lia
 have H:quad n x y/2=y/2^n:=by unfold quad;lia
 rw[Bc nm d g,f,c,Bc I d g,Bc no d g,F,H];have j:=VO (s:=l) (e:=r) d Z;have p:=VO (s:=t) (e:=b) g Z;by_cases z:(l<=(x:Int)/\(x:Int)<r)/\(t<=(y:Int)/\(y:Int)<b)
 .rw[Z7 z,Z7 ⟨j.mpr z.1,p.mpr z.2⟩]
 .rw[Z4 z,Z4 λq=>z ⟨j.mp q.1,p.mp q.2⟩]
def Lw(A B:Int)(n:Nat)(s e:Int):Prop:=(s=0\/s=A%2^n)/\(e=2^n\/e=B%2^n)
theorem Lw.spl{A B:Int}{n u:Nat}{s e:Int}(h:Lw A B (n+1) s e)(f:(spl s e (2^n) u).1<(spl s e (2^n) u).2):Lw A B n (spl s e (2^n) u).1 (spl s e (2^n) u).2:=by
 have p:(0:Int)<2^n:=GJ n;have g:(2:Int)^(n+1)=2^n+2^n:=by rw[R4];lia
 have md:∀C:Int,C%2^n=if C%2^(n+1)<2^n then C%2^(n+1)else C%2^(n+1)-2^n:=λC=>by
  have o:=N6 C (show(2:Int)^(n+1)≠0 by lia);have d:=M0 C (show(0:Int)<2^(n+1) by lia);have b:C%2^n=(C%2^(n+1))%2^n:=(Int.emod_emod_of_dvd C ⟨2,by rw[g];lia⟩).symm;rw[b];split
  .rename_i z;exact U5 o z
  .rename_i z;rw[<-Int.sub_emod_right,U5 A0 A0]
 have i:=md A;have j:=md B;have k:=N6 A (show(2:Int)^(n+1)≠0 by lia);have b2:=N6 B (show(2:Int)^(n+1)≠0 by lia);have l:=M0 A (show(0:Int)<2^(n+1) by lia);have m:=M0 B (show(0:Int)<2^(n+1) by lia);obtain⟨d,b⟩:=h;unfold Lw;rw[i,j];rw[g]at d b k b2 l m⊢;clear i j md g;generalize (2:Int)^n=H at *
 generalize A%(H+H)=a at *
 generalize B%(H+H)=c at *
 unfold J.spl at f⊢;split at f
 .dsimp only at f⊢;split at f<;>rcases d with d|d<;>rcases b with b|b<;>subst d b<;>(constructor<;>split<;>lia)
 .dsimp only at f⊢;split at f<;>rcases d with d|d<;>rcases b with b|b<;>subst d b<;>(constructor<;>split<;>lia)
theorem Lw.top{A B:Int}{n:Nat}(a:0<=A)(b:A<B)(c:B<=2^n):Lw A B n A B:=by
 refine⟨.inr (U5 a A0).symm,?_⟩;by_cases e:B=2^n
 .exact .inl e
 .exact .inr (U5 A0 A0).symm
def Clo(G:Gv)(S:J_):Prop:=∀o∈S,o<8\/∃(n:Nat)(q:Sq)(a b c d:Nat),DQ G n o q a b c d/\a∈S/\b∈S/\c∈S/\d∈S
theorem Clo.app{G e:Gv}{k:Nat}{S:J_}(go:AG G e k)(h:Clo G S):Clo e S:=λo f=>by
 rcases h o f with z|⟨n,q,a,b,c,d,nd,m⟩
 .exact .inl z
 .exact .inr ⟨n,q,a,b,c,d,nd.app go,m⟩
theorem cast4'{x y z w a b c d:Nat}(e:[(x:Int),(y:Int),(z:Int),(w:Int)]=[(a:Int),(b:Int),(c:Int),(d:Int)]):x=a/\y=b/\z=c/\w=d:=by
 injection e with e1 e
 injection e with e2 e
 injection e with e3 e
 injection e with e4 e
 exact⟨Z9 e1,Z9 e2,Z9 e3,Z9 e4⟩
theorem Clo.get{G:Gv}(ok:GOk G){S:J_}(h:Clo G S){n o a b c d:Nat}{q:Sq}(i:o∈S)(nd:DQ G n o q a b c d):a∈S/\b∈S/\c∈S/\d∈S:=by
 rcases h o i with z|⟨p,j,k,b',l,d',f,m⟩
 .have:=nd.g;rw[ok.leaf o z]at this;cases this;have:=nd.lev;have:(0:Int)=(n:Int)+1:=this;lia
 .have e:q=j:=X4 (nd.g.symm.trans f.g);subst e;obtain⟨rfl,rfl,rfl,rfl⟩:=cast4' (nd.ps.symm.trans f.ps);exact m
noncomputable abbrev shM:List Bool:=[false,false,true]
noncomputable def kMx(i o:Nat)(l t r b:Int):NK:=[.inl (i:Int),.inl (o:Int),.inr [l,t,r,b]]
theorem WA{i o a o':Nat}{l t r b c t' d b':Int}(e:kMx i o l t r b=kMx a o' c t' d b'):i=a/\o=o'/\l=c/\t=t'/\r=d/\b=b':=by
 unfold kMx at e;injection e with e1 e
 injection e with e2 e
 injection e with e3 e
 injection e1 with e1
 injection e2 with e2
 injection e3 with e3
 injection e3 with f1 e3
 injection e3 with f2 e3
 injection e3 with f3 e3
 injection e3 with f4 e3
 exact⟨Z9 e1,Z9 e2,f1,f2,f3,f4⟩
structure Mc where
s:Nat
S:List Nat
A:Int
R:Int
T:Int
B:Int
ro:Bool
noncomputable def Gu(c:Mc)(i o:Nat):Nat:=if c.ro=true then i else o
noncomputable def othO(c:Mc)(i o:Nat):Nat:=if c.ro=true then o else i
structure Pd(G:Gv)(c:Mc)(n i o:Nat):Prop where
li:Ak G i (n:Int)
lo:Ak G o (n:Int)
so:Sol G c.s n (othO c i o)
mo:Gu c i o∈c.S
theorem Pd.go{G a:Gv}{k:Nat}{c:Mc}{n i o:Nat}(h:Pd G c n i o)(go:AG G a k):Pd a c n i o:=⟨go.lev h.li,go.lev h.lo,Sol.goes go h.so,h.mo⟩
theorem Pd.lm{G:Gv}{c:Mc}{n i o:Nat}(h:Pd G c n i o):Ak G (Gu c i o) (n:Int):=by
 unfold Gu;split
 .exact h.li
 .exact h.lo
theorem f4_in{a b c d k:Nat}{S:J_}(e:k<4)(h:a∈S/\b∈S/\c∈S/\d∈S):f4 a b c d k∈S:=by
 match k,e with
 |0,_=>exact h.1
 |1,_=>exact h.2.1
 |2,_=>exact h.2.2.1
 |3,_=>exact h.2.2.2
theorem Sol.part{G:Gv}{s n i a b c d:Nat}{q:Sq}(h:Sol G s (n+1) i)(nd:DQ G n i q a b c d){k:Nat}(l:k<4):Sol G s n (f4 a b c d k):=by
 obtain⟨m,f,e⟩:=h;have eq:q=_:=X4 (nd.g.symm.trans e);have j:=nd.ps;rw[eq]at j;obtain⟨rfl,rfl,rfl,rfl⟩:=cast4' j
 match k,l with
 |0,_=>exact f
 |1,_=>exact f
 |2,_=>exact f
 |3,_=>exact f
theorem Pd.part{G:Gv}(ok:GOk G){c:Mc}(b:Clo G c.S){n i o:Nat}(h:Pd G c (n+1) i o){r s:Sq}{e f g j l m p q:Nat}(d:DQ G n i r e f g j)(no:DQ G n o s l m p q){k:Nat}(a:k<4):Pd G c n (f4 e f g j k) (f4 l m p q k):=by
 refine⟨(d.nat a).2,(no.nat a).2,?_,?_⟩
 .have:=h.so;unfold othO at this⊢;by_cases z:c.ro=true
  .rw[Z7 z]at this⊢;exact Sol.part this no a
  .rw[Z4 z]at this⊢;exact Sol.part this d a
 .have:=h.mo;unfold Gu at this⊢;by_cases z:c.ro=true
  .rw[Z7 z]at this⊢;exact f4_in a (b.get ok this d)
  .rw[Z4 z]at this⊢;exact f4_in a (b.get ok this no)
structure Ent(G:Gv)(c:Mc)(p:NK×V)(n i o:Nat)(l t r b:Int)(m:Nat):Prop where
e:p=(kMx i o l t r b,.int m)
pd:Pd G c n i o
mx:NO G n i o l t r b m
sx:Lw c.A c.R n l r
sy:Lw c.T c.B n t b
structure KOk(G:Gv)(c:Mc)(kvs:List (NK×V)):Prop where
nd:(kvs.map (·.1)).Nodup
val:∀p∈kvs,∃n i o l t r b m,Ent G c p n i o l t r b m
theorem kok0(G:Gv)(c:Mc):KOk G c []:=⟨O5,λp a=>by simp at a⟩
theorem Ent.go{G a:Gv}{k:Nat}{c:Mc}{p:NK×V}{n i o:Nat}{l t r b:Int}{m:Nat}(ok:GOk G)(d:c.s<8)(go:AG G a k)(h:Ent G c p n i o l t r b m):Ent a c p n i o l t r b m:=⟨h.e,h.pd.go go,h.mx.app ok go h.pd.li h.pd.lo,h.sx,h.sy⟩
theorem KOk.go{G a:Gv}{k:Nat}{c:Mc}{kvs:List (NK×V)}(ok:GOk G)(f:c.s<8)(go:AG G a k)(h:KOk G c kvs):KOk a c kvs:=⟨h.nd,λp d=>by
 obtain⟨n,i,o,l,t,r,b,m,e⟩:=h.val p d;exact⟨n,i,o,l,t,r,b,m,e.go ok f go⟩⟩
theorem Zm{kvs:List (NK×V)}{k:NK}{v:V}(h:Bo kvs k=some v):(k,v)∈kvs:=by
 induction kvs with
 |nil=>cases h
 |cons p r a =>
  by_cases e:p.1=k
  .rw[BL e]at h;cases h;rw[<-e];exact C2
  .rw[Bn e]at h;exact C4 _ (a h)
theorem KOk.put{G:Gv}{c:Mc}{kvs:List (NK×V)}{n i o:Nat}{l t r b:Int}{m:Nat}(h:KOk G c kvs)(a:Ent G c (kMx i o l t r b,.int m) n i o l t r b m)(no:Bo kvs (kMx i o l t r b)=none):KOk G c (Do kvs (kMx i o l t r b) (.int m))/\(Do kvs (kMx i o l t r b) (.int m)).length=kvs.length+1:=by
 have nd:=nd_putK (.int m) h.nd no;rw[Iz _ no]at nd⊢;refine⟨⟨nd,λp d=>?_⟩,by rw[C3];rfl⟩;rcases D8.mp d with z|z
 .exact h.val p z
 .rw[D1]at z;subst z;exact⟨n,i,o,l,t,r,b,m,a⟩
noncomputable def lvN(G:Gv)(o:Nat):Nat:=match G[o]? with
|some q=>q.lev.toNat
|none=>0
theorem lvN_eq{G:Gv}{o n:Nat}(h:Ak G o (n:Int)):lvN G o=n:=by
 obtain⟨q,e,a⟩:=h;unfold lvN;rw[e];show q.lev.toNat=n;rw[a,F4]
noncomputable def b01(c:Prop)[Decidable c]:Nat:=if c then 0 else 1
theorem Ft(c:Prop)[Decidable c]:b01 c<2:=by unfold b01;split<;>decide
theorem ON{c d:Prop}[Decidable c][Decidable d](h:b01 c=b01 d):c↔d:=by
 unfold b01 at h;split at h<;>split at h<;>simp_all
noncomputable def code(G:Gv)(c:Mc)(k:NK):Nat:=match k with
|[.inl i,.inl o,.inr [l,t,r,b]]=>c.S.idxOf (Gu c i.toNat o.toNat)*16+(b01 (l=0)+2*b01 (r=2^lvN G (Gu c i.toNat o.toNat))+4*b01 (t=0)+8*b01 (b=2^lvN G (Gu c i.toNat o.toNat)))
|_=>0
theorem Qi(G:Gv)(c:Mc)(i o:Nat)(l t r b:Int):code G c (kMx i o l t r b)=c.S.idxOf (Gu c i o)*16+(b01 (l=0)+2*b01 (r=2^lvN G (Gu c i o))+4*b01 (t=0)+8*b01 (b=2^lvN G (Gu c i o))):=rfl
theorem KOk.len{G:Gv}(ok:GOk G){c:Mc}{kvs:List (NK×V)}(h:KOk G c kvs):kvs.length<=16*c.S.length:=by
 have:=Lj (16*c.S.length) ((kvs.map (·.1)).map (code G c)) (by
  rw[F7,N4];refine A1f (λ{x y} C D w z=>w ?_) (F7.mp h.nd);obtain⟨p,A,rfl⟩:=C8.mp C;obtain⟨O,B,rfl⟩:=C8.mp D;obtain⟨n,i,o,l,t,r,b,m,e⟩:=h.val p A;obtain⟨N,j,o',I,t',K,b',m',a⟩:=h.val O B;have s:=e.e;have L:=a.e;subst s L;dsimp only at z⊢;rw[Qi,Qi]at z;have P:=Ft (l=0);have R:=Ft (r=2^lvN G (Gu c i o));have U:=Ft (t=0);have X:=Ft (b=2^lvN G (Gu c i o));have Q:=Ft (I=0);have T:=Ft (K=2^lvN G (Gu c j o'));have W:=Ft (t'=0);have Y:=Ft (b'=2^lvN G (Gu c j o'));have H:c.S.idxOf (Gu c i o)=c.S.idxOf (Gu c j o'):=by lia
  have g:Gu c i o=Gu c j o':=by
   have d:=List.getElem_idxOf (P3 e.pd.mo);have f:=List.getElem_idxOf (P3 a.pd.mo);have:c.S[c.S.idxOf (Gu c i o)]?=c.S[c.S.idxOf (Gu c j o')]?:=by rw[H]
   rw[C5 (P3 e.pd.mo),C5 (P3 a.pd.mo),d,f]at this;exact X4 this
  have M:n=N:=by
   have F:=e.pd.lm;rw[g]at F;exact Z9 (F.uniq a.pd.lm)
  subst M;have k:othO c i o=othO c j o':=Sol.uniq ok e.pd.so a.pd.so;obtain⟨rfl,rfl⟩:i=j/\o=o':=by
   unfold Gu at g;unfold othO at k;by_cases z:c.ro=true
   .rw[Z7 z,Z7 z]at g k;exact⟨g,k⟩
   .rw[Z4 z,Z4 z]at g k;exact⟨k,g⟩
  clear g k H;rw[lvN_eq e.pd.lm]at *
  have z1:=ON (show b01 (l=0)=b01 (I=0) by lia);have z2:=ON (show b01 (r=2^n)=b01 (K=2^n) by lia);have z3:=ON (show b01 (t=0)=b01 (t'=0) by lia);have z4:=ON (show b01 (b=2^n)=b01 (b'=2^n) by lia);have same:∀{x q u v:Int},(x=u\/x=v)->(q=u\/q=v)->(x=u↔q=u)->x=q:=λ{x q u v} d f E=>by
   rcases d with d|d
   .rw[d,E.mp d]
   .rcases f with f|f
    .rw[f,E.mpr f]
    .rw[d,f]
  rw[same e.sx.1 a.sx.1 z1,same e.sx.2 a.sx.2 z2,same e.sy.1 a.sy.1 z3,same e.sy.2 a.sy.2 z4]) (λx C=>by
  obtain⟨y,D,rfl⟩:=C8.mp C;obtain⟨p,A,rfl⟩:=C8.mp D;obtain⟨n,i,o,l,t,r,b,m,e⟩:=h.val p A;have s:=e.e;subst s;dsimp only;rw[Qi];have:=P3 e.pd.mo;have P:=Ft (l=0);have R:=Ft (r=2^lvN G (Gu c i o));have U:=Ft (t=0);have X:=Ft (b=2^lvN G (Gu c i o));lia)
 rw[B6,B6]at this;exact this
def Un(G:Gv)(N:Nat)(kvs kvs':List (NK×V)):Prop:=∀(i o:Nat)(l t r b:Int)(N':Nat),Ak G o (N':Int)->N<N'->Bo kvs (kMx i o l t r b)=none->Bo kvs' (kMx i o l t r b)=none
theorem Un.refl(G:Gv)(N:Nat)(kvs:List (NK×V)):Un G N kvs kvs:=λ_ _ _ _ _ _ _ _ _ h=>h
theorem Un.trans{G d:Gv}{k N:Nat}{a b c:List (NK×V)}(go:AG G d k)(h:Un G N a b)(j:Un d N b c):Un G N a c:=λi o l t r b' e f g z=>j i o l t r b' e (go.lev f) g (h i o l t r b' e f g z)
seal L2.PA L2.PE L2.PS L2.PSs L2.PT L2.PW
theorem Fx.fresh{l:H_}{H a c:Hp}{x:R_}(s:Ay H a)(f:Fx (x::l) a c)(n:H x=none):Fx l H c:=λb o e z=>f b o (s _ _ e) λm=>by
 rcases C1.mp m with rfl|m
 .rw[n]at e;cases e
 .exact z m
theorem BO.fx{P:N_}{w:Q_}{sh:List Bool}{H c:Hp}{a:R_}{kvs:List (NK×V)}{l:H_}(f:Fx l H c)(n:a∉l)(h:BO P w sh H a kvs):BO P w sh c a kvs:=h.keep (λb ys e=>f.tup e) (λo e=>f.get n e)
theorem BO.same{P:N_}{w:Q_}{sh:List Bool}{H c:Hp}{a:R_}{kvs:List (NK×V)}(s:Ay H c)(h:BO P w sh H a kvs):BO P w sh c a kvs:=h.keep (λb ys e=>s _ _ e) (λo e=>s _ _ e)
noncomputable def frM(g:GA)(kn:R_):List Addr:=[g.lv,g.pt,g.nm,kn]
section
variable{P:N_}{w:Q_}{K:O_}{mg:C_}{base:T_}{a:Ad}
inductive WP(vs:List V)(H:Hp)(Q:VK):Prop
|mk (s e h:Int) (_:vs=[.int s,.int e,.int h]) (_:∀(c0 c1 cc:R_)(H':Hp),Ay H H'->H' cc=some (.tup [.ref c0,.ref c1])->H' c0=some (.tup [.int (spl s e h 0).1,.int (spl s e h 0).2])->H' c1=some (.tup [.int (spl s e h 1).1,.int (spl s e h 1).2])->Q (.ref cc) H'):WP vs H Q
def Ou:Sp:=λvs H Q _=>WP vs H Q
theorem ok_split(F:Fun K "split_stretch" "split_stretch" Fo f fd)(T:Top K mg a):AN P w K mg base CX0 1 f fd Oh Ou:=by
 refine F.ok MZ (λvs H Q E h=>?_) (λv A m s H vs Q E B h=>?_)
 .apply AO;intro j b;obtain⟨C,e,h',rfl,_⟩:=h;apply b;clear b j;rfl
 .apply AO;intro j b;obtain⟨g,d,c,rfl,k⟩:=h;apply b;clear b j;refine⟨_,(Af (Au (Dx (AV (Aa (pv 0) (Aa (AJ (FK Z) Z T.b_min A0b (Aa (pv 1) (Aa (pv 2) Ac))) Ac)) (AV (Aa (AJ (Lq Z) Z T.b_max A1d (Br Bm (pv 0) (pv 2) (AF Ac))) (Br Bm (pv 1) (pv 2) Ac)) Ac))))),?_⟩
  try dsimp only[cxK]
  refine xw3 Z Z Z ⟨_,_,Z,S_2,λi x=>?_⟩;have r:=AK (o:=.tup [.int g,.int (if c<d then c else d)]) x;have q:upd H i (.tup [.int g,.int (if c<d then c else d)]) i=some (.tup [.int (spl g d c 0).1,.int (spl g d c 0).2]):=Ag;show ∃_,_;generalize upd H i (.tup [.int g,.int (if c<d then c else d)])=z at r q⊢;refine xw2 Z Z (xq2 Z Z ⟨_,_,Z,(xw2 Z Z (xq2 Z Z ⟨S_2,λp y=>⟨S_2,λu l=>?_⟩⟩))⟩);have t:=AK (o:=.tup [.int (if 0 > g-c then 0 else g-c),.int (d-c)]) y;have n:=AK (o:=.tup [.ref i,.ref p]) l;exact k i p u _ (r.trans (t.trans n)) Ag (n _ _ (t _ _ q)) (n _ _ Ag)
inductive SpMQ(a:Ad)(P:N_)(w:Q_)(n:Nat)(vs:List V)(H:Hp)(Q:VK):Prop
|mk (g:GA) (G:Gv) (c:Mc) (kn tk tp:R_) (kvs:List (NK×V)) (i o N:Nat) (l t r b:Int) (_:vs=[.ref g.p,.ref tk,.int (2^N),.ref kn]) (_:AS a H g G) (_:BO P w shM H kn kvs) (_:kn∉Dg g) (_:H tk=some (.tup [.int i,.int o,.ref tp])) (_:H tp=some (.tup [.int l,.int t,.int r,.int b])) (_:KOk G c kvs) (_:Clo G c.S) (_:c.s<8) (_:Pd G c (N+1) i o) (_:N<n) (_:N<=47) (_:(0<=l/\0<=t/\r<=2^(N+1)/\b<=2^(N+1))) (_:Lw c.A c.R (N+1) l r) (_:Lw c.T c.B (N+1) t b) (_:(G.length+16*c.S.length<8000000+kvs.length/\16*c.S.length<4000000)) (_:∀(m:Nat)(G':Gv)(kvs':List (NK×V))(H':Hp),Fx (frM g kn) H H'->AS a H' g G'->BO P w shM H' kn kvs'->KOk G' c kvs'->kvs.length<=kvs'.length->AG G G' (kvs'.length-kvs.length+1)->Un G N kvs kvs'->NO G' (N+1) i o l t r b m->Q (.int m) H'):SpMQ a P w n vs H Q
def spMQ(a:Ad)(P:N_)(w:Q_)(n:Nat):Sp:=λvs H Q _=>SpMQ a P w n vs H Q
inductive SpMxd(a:Ad)(P:N_)(w:Q_)(n:Nat)(vs:List V)(H:Hp)(Q:VK):Prop
|mk (g:GA) (G:Gv) (c:Mc) (kn tp:R_) (kvs:List (NK×V)) (i o N:Nat) (l t r b:Int) (_:vs=[.ref g.p,.int i,.int o,.ref tp,.ref kn]) (_:AS a H g G) (_:BO P w shM H kn kvs) (_:kn∉Dg g) (_:H tp=some (.tup [.int l,.int t,.int r,.int b])) (_:KOk G c kvs) (_:Clo G c.S) (_:c.s<8) (_:Pd G c N i o) (_:N<n) (_:N<=48) (_:(0<=l/\0<=t/\r<=2^N/\b<=2^N)) (_:(l<r->Lw c.A c.R N l r)) (_:(t<b->Lw c.T c.B N t b)) (_:(G.length+16*c.S.length<8000000+kvs.length/\16*c.S.length<4000000)) (_:∀(m:Nat)(G':Gv)(kvs':List (NK×V))(H':Hp),Fx (frM g kn) H H'->AS a H' g G'->BO P w shM H' kn kvs'->KOk G' c kvs'->kvs.length<=kvs'.length->AG G G' (kvs'.length-kvs.length)->Un G N kvs kvs'->NO G' N i o l t r b m->Q (.int m) H'):SpMxd a P w n vs H Q
def Tc(a:Ad)(P:N_)(w:Q_)(n:Nat):Sp:=λvs H Q _=>SpMxd a P w n vs H Q
theorem ok_mixS{n d:Nat}(F:Fun K "mixed" "mixed" OB f fd)(T:Top K mg a)(cU:Cal P w K mg base CX0 d "mixed_quarters" Dp (spMQ a P w n)):AN P w K mg base CX0 (d+1) f fd Lg (Tc a P w (n+1)):=by
 refine F.ok Iy (λvs H Q E h=>?_) (λax A ar s H vs Q E hr h=>?_)
 .apply AO;intro S u;obtain⟨g,G,c,kn,I,kvs,i,o,N,l,t,r,b,rfl,_⟩:=h;apply u;clear u S;rfl
 .apply AO;intro S u;obtain⟨g,G,c,kn,I,kvs,i,o,N,l,t,r,b,rfl,fu,na,nk,C,aa,ai,s8,pd,Nn,aw,bd,sx,sy,few,k⟩:=h;apply u;clear u S;refine⟨_,(Ab (AQ (PW.pt (Gd (Az op_ge (Ai Al (pv 3) Ae R_9) (Ai Al (pv 3) Ae R_9) (AD _)) (El (Az op_ge (Ai Al (pv 3) Ae R_9) (Ai Al (pv 3) Ae R_9) (AD _))))) (Af (Au (pv 2))) Ax) (Ab (Ao (i:=5) Iy.nd Z O_9 (AA Jd Ae (Ai Aw (AB (pv 0) Z) (pv 1) R_9))) (Ab (AQ (PW.pt (Gd (Az De (pv 1) (pv 2) (AD _)) (El (Az (Ys hr.units) (pv 3) (Dx (AF (AF (Aa (pv 5) (Aa (pv 5) Ac))))) (AD _))))) (Af (Au (pv 1))) Ax) (Ab (Ao (i:=6) Iy.nd Z O_9 (Dx (Aa (pv 1) (Aa (pv 2) (Aa (pv 3) Ac))))) (Ab (Ao (i:=7) Iy.nd Z O_9 (pe_dgetN (sh:=[false,false,true]) hr.units (pv 4) (pv 6) ⟨Z,Z,Z,Z⟩)) (Ab (AQ (Az Je (pv 7) DK (AD _)) (Ab (Ao (i:=7) Iy.nd Z O_9 (Aq cU (rm hr) Z Am (Aa (pv 0) (Aa (pv 6) (Br CQ (pv 5) Ae (Aa (pv 4) Ac)))))) (Af (ZX (sh:=[false,false,true]) hr.units (pv 4) (pv 6) (pv 7) Z))) Ax) (Af (Au (pv 7))))))))),?_⟩
  try dsimp only[cxK]
  have li:=pd.li;have lo:=pd.lo;have B:∀{m:Nat}{U:Hp},Ay H U->NO G N i o l t r b m->Q (.int m) U:=λ{m U} s' mx=>k m G kvs U (Ay.fx s') (fu.same s') (BO.same s' na) aa (C0 _) ((AG.refl fu.ok).mono A0) (Un.refl _ _ _) mx;refine ev_test (c:=tOr (VH (tOp (rI0 λi j=>V.bl (decide (j<=i))) (tOp (GC K) (Fa 3) (tC (V.int 0))) (tOp (GC K) (Fa 3) (tC (V.int 2))))) (VH (tOp (rI0 λi j=>V.bl (decide (j<=i))) (tOp (GC K) (Fa 3) (tC (V.int 1))) (tOp (GC K) (Fa 3) (tC (V.int 3)))))) (decide (r<=l) || decide (b<=t)) (λQ' q'=>?_) ?_
  .refine xwi Z Z Z (SqT.of C) (Ah (j:=0) Z) (xwi Z Z Z (SqT.of C) (Ah (j:=2) Z) (xq2 Z Z (xq1 Z ?_)));revert q';generalize decide (r<=l)=b1;cases b1
   .intro q';exact AX (xwi Z Z Z (SqT.of C) (Ah (j:=1) Z) (xwi Z Z Z (SqT.of C) (Ah (j:=3) Z) (xq2 Z Z (xq1 Z (q')))))
   .intro q';exact Cg q'
  refine GD (λhc=>?_) (λhc=>?_)
  .refine xq1 Z (B (Ay.refl H) ⟨lo,λx y _ _=>?_⟩);rw[Z4];rcases(Bool.or_eq_true _ _).mp hc with z|z
   .have:=X7 z;lia
   .have:=X7 z;lia
  have hl:l<r:=by
   refine Int.lt_of_not_ge λz=>hc ?_;rw[Z5 (show r<=l from z)];rfl
  have ht:t<b:=by
   refine Int.lt_of_not_ge λz=>hc ?_;rw[Z5 (show b<=t from z),Bool.or_true]
  clear hc;obtain⟨qi,ei,aj⟩:=id li;refine⟨_,Z,g.p,_,g.dx,_,_,Z,fu.at'.hp,T.cl_Grove,T.na_Grove_levels,EL g,_,Z,g.lv,_,(i:Int),.int qi.lev,Z,Z,SqL.of fu.at'.lv,Ah (by rw[B8,ei];rfl),?_⟩;rw[aj];refine xq2 Z Z ⟨⟨by lia,by lia,by decide⟩,?_⟩;have e1:(1:Int)*2^((N:Int)).toNat=2^N:=by rw[Int.one_mul,F4]
  show(Zs _ _) _ [some (.ref g.p),some (.int i),some (.int o),some (.ref I),some (.ref kn),some (.int (1*2^((N:Int)).toNat)),none,none] H;rw[e1];refine xw2 Z Z ⟨Z,(xq1 Z (GD (λL=>?_) (λ_=>?_)))⟩
  .have L:=X7 L;injection L with L
   obtain rfl:i=o:=Z9 L;exact Cg (xq1 Z (B (Ay.refl H) ⟨li,λx y _ _=>by split<;>rfl⟩))
  refine xw3 Z Z Z ⟨S_4,λt1 am=>?_⟩;have s1:=AK (o:=.tup [.int 0,.int 0,.int (2^N),.int (2^N)]) am;have h1:upd H t1 (.tup [.int 0,.int 0,.int (2^N),.int (2^N)]) t1=some (.tup [.int 0,.int 0,.int (2^N),.int (2^N)]):=Ag;show ∃_,_;generalize upd H t1 (.tup [.int 0,.int 0,.int (2^N),.int (2^N)])=H1 at s1 h1⊢;refine⟨I,t1,[l,t,r,b],[0,0,2^N,2^N],Z,Z,SqT.of (s1 _ _ C),SqT.of h1,(xq1 Z (GD (λD=>?_) (λD=>?_)))⟩
  .have D:=X7 D;injection D with z1 D
   injection D with z2 D
   injection D with z3 D
   injection D with z4 D
   refine xq1 Z (B s1 ⟨li,λx y hx hy=>?_⟩);have px:(x:Int)<2^N:=by have:(x:Int)<((2^N:Nat):Int):=A0;rw[J7]at this;exact this
   have py:(y:Int)<2^N:=by have:(y:Int)<((2^N:Nat):Int):=A0;rw[J7]at this;exact this
   rw[Z7 (by subst z1 z2 z3 z4;exact⟨⟨by lia,px⟩,by lia,py⟩)]
  have N1:1<=N:=by
   refine Nat.one_le_iff_ne_zero.mpr λz=>D ?_;subst z;have b1:r<=1:=bd.2.2.1;have b2:b<=1:=bd.2.2.2;have au:l=0/\t=0/\r=1/\b=1:=by lia
   apply AO;intro S u;obtain⟨rfl,rfl,rfl,rfl⟩:=au;apply u;clear u S;exact Z5 Z
  obtain⟨M,rfl⟩:∃M,N=M+1:=⟨N-1,by lia⟩
  refine xw3 Z Z Z ⟨(by show 3<=sizeLine;decide),λtk an=>?_⟩;have s2:=AK (o:=.tup [.int i,.int o,.ref I]) an;have h2:upd H1 tk (.tup [.int i,.int o,.ref I]) tk=some (.tup [.int i,.int o,.ref I]):=Ag;show(Zs _ _) _ _ (upd H1 tk (.tup [.int i,.int o,.ref I]));generalize upd H1 tk (.tup [.int i,.int o,.ref I])=H2 at s2 h2⊢;have R:=s1.trans s2;have ab:=BO.same R na;have ak:=fu.same R;have O:=R _ _ C;have ae:∀{U:Hp},U tk=some (.tup [.int i,.int o,.ref I])->U I=some (.tup [.int l,.int t,.int r,.int b])->Iv U tk (kMx i o l t r b):=λz1 z2=>⟨_,z1,.cons Z (.cons Z (.cons ⟨I,Z,z2⟩ .nil))⟩
  refine xq1 Z ⟨kn,Z,⟨kvs,ab⟩,(xq1 Z ⟨tk,kMx i o l t r b,kvs,Z,ab,ae h2 O,Z,?_⟩)⟩;cases ev:Bo kvs (kMx i o l t r b)with
  |some v =>
   apply AO;intro S u;obtain⟨n',i',o',l',t',r',b',m,en⟩:=aa.val _ (Zm ev);apply u;clear u S;have e2:=en.e;injection e2 with e2 e3
   apply AO;intro S u;obtain⟨rfl,rfl,rfl,rfl,rfl,rfl⟩:=WA e2;apply u;clear u S;subst e3;have:n'=M+1:=Z9 (en.pd.lo.uniq lo);subst this;exact xq1 Z ⟨Z,(xq1 Z (AX (xq1 Z (B R en.mx))))⟩
  |none =>
   refine xq1 Z ⟨Z,(xq1 Z (Cg ?_))⟩;refine xw3 Z Z Z (xq2 Z Z ⟨⟨by decide,by decide⟩,(xq1 Z ?_)⟩);have e4:(2:Int)^(M+1)/2=2^M:=by rw[R4,Int.mul_ediv_cancel _ A4]
   refine⟨g,G,c,kn,tk,I,kvs,i,o,M,l,t,r,b,by rw[<-e4];rfl,ak,ab,nk,h2,O,aa,ai,s8,pd,by lia,by lia,bd,sx hl,sy ht,few,λm G' X H3 x3 ad ac W az Y ah ag=>?_⟩;have aq:Bo X (kMx i o l t r b)=none:=ah i o l t r b (M+1) lo A0 ev;have l3:=W.len ad.ok;have g3:=Y.few;refine xw3 Z Z Z ⟨kn,tk,kMx i o l t r b,X,Z,Z,ac,ae (x3.tup h2) (x3.tup O),Z,Dv A0,λH4 x4 ao=>?_⟩;obtain⟨af,av⟩:=W.put ⟨Z,pd.go Y,ag,sx hl,sy ht⟩ aq;have as:Fx (frM g kn) H3 H4:=λcc oo e z=>x4 cc oo e λy=>by
    subst y;obtain⟨xs,e9,_⟩:=ac.ex;rw[e9]at e;cases e;exact z (by simp[frM])
   have al:=ad.fx (l:=[kn]) (λcc oo e z=>x4 cc oo e λy=>by
    subst y;obtain⟨xs,e9,_⟩:=ac.ex;rw[e9]at e;cases e;exact z A6) λy hy z=>nk (by rw[D1]at z;rw[<-z];exact hy)
   refine xq1 Z (k m G' _ H4 (((Ay.fx R).trans x3).trans as) al ao af A0 (Y.mono A0) ?_ ag);intro i' o' l' t' r' b' N' hN ay z;rw[FN,Z4]
   .exact ah i' o' l' t' r' b' N' hN A0 z
   .intro q;obtain⟨_,rfl,_⟩:=WA q;have:=Z9 (hN.uniq lo);lia
end
noncomputable def ZP(q:It3):List Int:=q.y::q.x::q.r
theorem len_pre{α:Type}{f:Nat->List α}{j:Nat}(a:j<=4):((List.range j).flatMap f).length<=((List.range 4).flatMap f).length:=by
 match j,a with
 |0,_=>simp
 |1,_=>simp[M5]
 |2,_=>simp[M5]
 |3,_=>simp[M5]
 |4,_=>exact C0 _
section
variable{P:N_}{w:Q_}{K:O_}{mg:C_}{base:T_}{a:Ad}
theorem ok_rowG(F:Fun K "by_rows" "by_rows" Nh f fd)(T:Top K mg a):AN P w K mg base CX0 1 f fd YG Lx:=by
 refine F.ok UL (λvs H Q E h=>?_) (λd A b s H vs Q E g h=>?_)
 .obtain⟨t,x,y,r,rfl,_⟩:=h;rfl
 .obtain⟨t,x,y,r,rfl,c,k⟩:=h;refine⟨_,(Af (Au (Dx (Aa (Ai Al (pv 0) Ae R_9) (Aa (Ai Al (pv 0) Ae R_9) Ac))))),?_⟩
  try dsimp only[cxK]
  exact⟨_,Z,t,_,1,.int y,Z,Z,SqT.of c,Ah (j:=1) Z,_,Z,t,_,0,.int x,Z,Z,SqT.of c,Ah (j:=0) Z,S_2,λu e=>k u e⟩
inductive SpGa(a:Ad)(n:Nat)(vs:List V)(H:Hp)(Q:VK):Prop
|mk (g:GA) (G:Gv) (i l:Nat) (x y:Int) (L:R_) (it0:List It3) (_:vs=[.ref g.p,.int i,.int x,.int y,.ref L]) (_:AS a H g G) (_:Ak G i (l:Int)) (_:l<n) (_:H L=some (.lst (it0.map λq=>V.ref q.a))) (_:L∉Dg g) (_:(it0.length:Int)+BW G l i<=5000) (_:∀(items:List It3)(H':Hp),Fx [L] H H'->H' L=some (.lst ((it0++items).map λq=>V.ref q.a))->(∀q∈items,H' q.a=some (.tup (q.ns.map V.int)))->items.map ZP=EM G l i x y->Q .non H'):SpGa a n vs H Q
def spGa(a:Ad)(n:Nat):Sp:=λvs H Q _=>SpGa a n vs H Q
theorem ok_ga(F:Fun K "gather_cells" "gather_cells" FW f fd)(T:Top K mg a)(hm:mg "gather_cells" = some (.ref f))(Bi:Ci K fd Dc [])(aJ:BJ P w K mg base CX0 4 a.c_Grove "state_of" JP (VQ a)):∀n,AN P w K mg base CX0 (n+5) f fd Dc (spGa a n)
|0=>by
 refine F.ok Cb (λvs H Q E h=>?_) (λah A ac s H vs Q E hr h=>?_)
 .obtain⟨g,G,i,l,x,y,L,it0,rfl,_,_,h0,_⟩:=h;exact absurd h0 (L8 _)
 .obtain⟨g,G,i,l,x,y,L,it0,rfl,_,_,h0,_⟩:=h;exact absurd h0 (L8 _)
|n+1=>by
 have b7:Cal P w K mg base CX0 (n+5) "gather_cells" Dc (spGa a n):=⟨f,fd,ok_ga F T hm Bi aJ n,hm,F.kp,Bi⟩
 refine F.ok Cb (λvs H Q E h=>?_) (λah A ac s H vs Q E hr h=>?_)
 .obtain⟨g,G,i,l,x,y,L,it0,rfl,_⟩:=h;rfl
 .obtain⟨g,G,i,l,x,y,L,it0,rfl,d,hl,ln,hL,nL,cn,k⟩:=h;obtain⟨W,R,l0⟩:=id hl;have am:l<=48:=by have:=(d.ok.lev R).2;lia
  obtain⟨r0,e0⟩:=d.g0;have an:∀z∈Dg g,z∉[L]:=λz hz m=>nL (by rw[D1]at m;rw[<-m];exact hz);refine⟨_,(Ab (Ao (i:=5) Cb.nd Z O_9 (Ai Aw (AB (pv 0) Z) (pv 1) R_9)) (Ab (AQ (Az De (pv 1) (Ai Aw (AB (pv 0) Z) (pv 5) R_9) (AD _)) (Af Wj) Ax) (Ab (AQ (Az De (pv 5) Ae (AD _)) (Ab (BC (Fe K2 K3 K4 Cc (pv 4) (AV (Aa (pv 2) (Aa (pv 3) (Aa (AC (pv 0) aJ (rm hr) Am (Aa (pv 1) Ac)) Ac))) Ac))) (Af Wj)) Ax) (Ab (Ao (i:=6) Cb.nd Z O_9 (AA Jd Ae (AA Bm (pv 5) Ae))) (Af (CK X8 Z (Mu true Z T.b_enumerate (Aa (Ai Aw (AB (pv 0) Z) (pv 1) R_9) Ac)) (Nm Z (CA (Bv (i:=7) Cb.nd Z O_9) (CA (Bv (i:=8) Cb.nd Z O_9) Ld))) (Af (BC (Aq b7 (rm hr) Z Am (Aa (pv 0) (Aa (pv 8) (Br AZ (pv 2) (AA EJ (pv 6) (AA Bz (pv 7) Ae)) (Br AZ (pv 3) (AA EJ (pv 6) (AA CQ (pv 7) Ae)) (Aa (pv 4) Ac)))))))))))))),?_⟩
  try dsimp only[cxK]
  refine⟨_,Z,g.p,_,g.dx,_,_,Z,d.at'.hp,T.cl_Grove,T.na_Grove_levels,EL g,_,Z,g.lv,_,(i:Int),.int W.lev,Z,Z,SqL.of d.at'.lv,Ah (by rw[B8,R];rfl),?_⟩;refine⟨_,Z,_,Z,g.p,_,g.dx,_,_,Z,d.at'.hp,T.cl_Grove,T.na_Grove_bares,Jh g,_,Z,g.br,_,W.lev,.int (bareN l:Int),Z,Z,SqL.of d.br,by rw[l0];exact Ah (bareL_at' A0),Z,_,Z,?_⟩;by_cases z:i=bareN l
  .rw[Z5 (by rw[z])];refine Cg (k [] H (Fx.refl _ _) (by rw[P0];exact hL) (λq C=>nomatch C) ?_);refine(List.eq_nil_iff_forall_not_mem.mpr λr hr=>?_).symm;obtain⟨u,v,hu,hv,ne,_⟩:=(FH d.ok hl).mp hr;rw[z]at ne;exact ne (DW e0 d.ok am hu hv)
  rw[Z8 (by intro e;injection e with e;exact z A0)];refine AX ⟨_,Z,Z,_,Z,?_⟩;cases l with
  |zero =>
   rw[Z5 (by rw[l0];rfl)];have i0:i≠0:=λq=>z (by rw[q];rfl);have B:=EZ G 0 i;refine Cg ⟨_,Z,.inl ⟨Z,_,SqL.of hL⟩,_,Z,_,Z,_,Z,g.p,g.dx,_,Z,d.at'.hp,Pu g,_,Z,g,G,i,W,Z,d.at',R,l0,(by show 3<=sizeLine;decide),λt ht=>?_⟩;have s1:=AK (o:=.tup [.int x,.int y,.int i]) ht;have Y:=s1 _ _ hL;refine⟨L,_,.ref t,Z,Z,Y,Dv (by rw[B6];lia),k [⟨t,x,y,[(i:Int)]⟩] _ ((Ay.fx s1).trans (fx_up Y (λz=>z))) ?_ (λq C=>?_) ?_⟩
   .rw[C6];exact Ag
   .rw[D1.mp C,As (AE Ag Y A3)];exact Ag
   .show _=if i=0 then []else [[y,x,(i:Int)]];rw[Z4 i0];rfl
  |succ m =>
   rw[Z8 (by rw[l0];intro z;injection z with z;lia)];obtain⟨q,B,I,M,N,nd⟩:=Bk d.ok hl;have eq:W=q:=X4 (R.symm.trans nd.g);subst eq;obtain⟨ts,t,h3,et,ht⟩:=GK d.at' nd;have ao:=GJ m;have aq:=Wk (l:=m) A0;refine AX ⟨_,Z,_,_,Z,Z,_,_,Z,Z,⟨by lia,by lia,by decide⟩,?_⟩;rw[show(λ(i j:Int)=>V.int (i*2^j.toNat)) 1 (W.lev-1)=V.int (2^m)from K0 V.int (by show(1:Int)*2^(W.lev-1).toNat=2^m;rw[show(W.lev-1).toNat=m by lia];lia)];refine⟨_,Z,g.p,_,g.dx,_,_,Z,d.at'.hp,T.cl_Grove,T.na_Grove_parts,BX g,_,Z,g.pt,_,(i:Int),.ref t,Z,Z,SqL.of h3,Ah et,t,Z,⟨_,SqT.of ht⟩,?_⟩;have D:=Ji nd x y;have ag:=DT d.ok (x:=x) (y:=y) hl;rw[D]at ag;refine JT (b:=true) (xs:=[.int (B:Int),.int (I:Int),.int (M:Int),.int (N:Int)]) (λj σ U=>∃(c:List It3)(u7 u8:Option V),σ=[some (.ref g.p),some (.int i),some (.int x),some (.int y),some (.ref L),some (.int W.lev),some (.int (2^m)),u7,u8]/\Fx [L] H U/\U L=some (.lst ((it0++c).map λq=>V.ref q.a))/\(∀q∈c,U q.a=some (.tup (q.ns.map V.int)))/\c.map ZP=(List.range j).flatMap (Id G m (f4 B I M N) x y)) ⟨[],none,none,Z,Fx.refl _ _,(by rw[P0];exact hL),(λq C=>nomatch C),Z⟩ (λj σ U _ z=>SqT.of (by obtain⟨_,_,_,_,fx,_⟩:=z;exact fx.tup ht)) ?_ ?_
   .rintro j v σ U T' O ⟨c,u7,u8,rfl,X,aa,ab,ei⟩ nT;have hj:j<4:=(B7.mp O).1;have ai:v=.int (f4 B I M N j:Int):=by
     match j,hj,O with
     |0,_,O=>cases O;rfl
     |1,_,O=>cases O;rfl
     |2,_,O=>cases O;rfl
     |3,_,O=>cases O;rfl
    subst ai;have s4:=AK (o:=.tup [.int j,.int (f4 B I M N j)]) nT;refine Rh Ag ?_;generalize upd U T' (.tup [.int j,.int (f4 B I M N j)])=H4 at s4⊢;have ae:=X.trans (Ay.fx s4);have aj:=d.fx ae an;have lj:=(nd.nat hj).2;have next:(List.range (j+1)).flatMap (Id G m (f4 B I M N) x y)=(List.range j).flatMap (Id G m (f4 B I M N) x y)++EM G m (f4 B I M N j) (x+((j%2:Nat):Int)*2^m) (y+((j/2:Nat):Int)*2^m):=by
     rw[M5,List.flatMap_append];simp only[S9,List.flatMap_nil,P0];rfl
    have bd:=len_pre (f:=Id G m (f4 B I M N) x y) (j:=j+1) hj;rw[next,C3,<-ei,B6]at bd;have lc:=DT d.ok (x:=x+((j%2:Nat):Int)*2^m) (y:=y+((j/2:Nat):Int)*2^m) lj;have ex:x+2^m*((j:Int)%2)=x+((j%2:Nat):Int)*2^m:=by rw[Z1];rfl
    have ey:y+2^m*((j:Int)/2)=y+((j/2:Nat):Int)*2^m:=by rw[Z1];rfl
    refine⟨_,Z,_,Z,_,Z,_,Z,_,Z,_,_,Z,Z,B1,_,_,Z,Z,.inl ⟨by lia,by lia⟩,_,_,Z,Z,?_⟩;refine⟨_,Z,_,Z,_,Z,_,_,Z,Z,⟨by decide,by decide⟩,_,_,Z,Z,.inl ⟨by lia,by lia⟩,_,_,Z,Z,_,Z,?_⟩;refine⟨g,G,f4 B I M N j,m,x+2^m*((j:Int)%2),y+2^m*((j:Int)/2),L,it0++c,Z,aj,lj,by lia,s4 _ _ aa,nL,by rw[C3];lia,λS H5 af ak al ad=>?_⟩;refine⟨c++S,_,_,Z,ae.trans af,by rw[<-Q4];exact ak,λq C=>?_,?_⟩
    .rcases D8.mp C with C|C
     .exact af.tup (s4 _ _ (ab q C))
     .exact al q C
    .rw[ex,ey]at ad;rw[next,C6,ei,ad]
   .rintro σ U ⟨c,u7,u8,rfl,X,aa,ab,ei⟩;exact k c U X aa ab (by rw[ei,D];rfl)
theorem VC {out:List It3} (h:Qq out) (nd:(out.map λq=>(q.x,q.y)).Nodup):(out.map ZP).Pairwise (λp q=>Cp q p=false):=by
 rw[F7,N4]at nd;rw[N4];refine(h.and nd).imp λ{p q} ⟨b,e⟩=>?_;show(if q.y=p.y then(if q.x=p.x then Cp q.r p.r else decide (q.x<p.x))else decide (q.y<p.y))=false;have b:(if q.y=p.y then(if q.x=p.x then Cp [] []else decide (q.x<p.x))else decide (q.y<p.y))=false:=b;by_cases c:q.y=p.y
 .rw[Z7 c]at b⊢;by_cases d:q.x=p.x
  .exact absurd (by rw[c,d]) e
  .rw[Z4 d]at b⊢;exact b
 .rw[Z4 c]at b⊢;exact b
noncomputable def frL(g:GA):List Addr:=[g.am,g.bx]
inductive SpCo(a:Ad)(vs:List V)(H:Hp)(Q:VK):Prop
|mk (g:GA) (G:Gv) (f n:Nat) (_:vs=[.ref g.p,.int f]) (_:AS a H g G) (_:Ak G f ((n+1:Nat):Int)) (_:n<48) (_:G.length<9000000) (_:BW G (n+1) f<=63) (_:∀(L:R_)(out:List It3)(H':Hp),Fx (frL g) H H'->AS a H' g G->H L=none->H' L=some (.lst (out.map λq=>V.ref q.a))->(∀q∈out,H' q.a=some (.tup (q.ns.map V.int)))->(out.map ZP).Perm (EM G (n+1) f (-(2^n)) (-(2^n)))->Qq out->Q (.ref L) H'):SpCo a vs H Q
def spCo(a:Ad):Sp:=λvs H Q _=>SpCo a vs H Q
theorem ok_co(F:Fun K "cells_of" "cells_of" LN f fd)(T:Top K mg a)(bM:BJ P w K mg base CX0 51 a.c_Grove "living" JP (ZC a))(aC:Cal P w K mg base CX0 4 "reach_of" UX (GF a))(b7:Cal P w K mg base CX0 55 "gather_cells" Dc (spGa a 50))(cV:Cal P w K mg base CX0 1 "by_rows" YG Lx):AN P w K mg base CX0 56 f fd UX (spCo a):=by
 refine F.ok Ju D_9 λaa A U s H vs Q E I h=>?_
 obtain⟨g,G,f,n,rfl,D,M,S,few,cn,k⟩:=h;refine⟨_,(Ab (AQ (Az NU (AC (pv 0) bM (rm I) Am (Aa (pv 1) Ac)) (BT Z T.k_MOST_CELLS) (AD _)) (Af AY) Ax) (Ab (Ao (i:=2) Ju.nd Z O_9 (Aq aC (rm I) Z Am (Aa (pv 0) (Aa (pv 1) Ac)))) (Ab (Ao (i:=3) Ju.nd Z O_9 (CL Ac)) (Ab (BC (Aq b7 (rm I) Z Am (Aa (pv 0) (Aa (pv 1) (Aa (Fd CU (pv 2)) (Aa (Fd CU (pv 2)) (Aa (pv 3) Ac))))))) (Af (Au (Pp cV (rm I) Z T.b_sorted Z (Aa (pv 3) Ac)))))))),?_⟩
 try dsimp only[cxK]
 refine⟨_,Z,g.p,g.dx,_,Z,D.at'.hp,Yx g,_,Z,g,G,f,n+1,Z,D,M,few,λN O c=>?_⟩;refine⟨_,_,Z,Z,_,Z,?_⟩;rw[Z8 A0];refine AX ⟨_,Z,_,Z,g,G,f,n,Z,c.at',M,S,S_0,λL R=>?_⟩;have W:=AK (o:=.lst []) R;have v:upd N L (.lst []) L=some (.lst (([]:List It3).map λq=>V.ref q.a)):=Ag;generalize upd N L (.lst [])=H2 at W v⊢;have r:=c.same W;have nL:L∉Dg g:=λz=>by
  obtain⟨o,e⟩:=c.nw.s L z;rw[R]at e;cases e
 have x1:=FrQ.fx O D;refine⟨_,Z,_,Z,_,Z,_,Z,_,Z,_,Z,_,Z,g,G,f,n+1,-(2^n),-(2^n),L,[],Z,r,M,by lia,v,nL,(by show(0:Int)+_<=5000;lia),λb Y u B C ei=>?_⟩;have x3:Fx (frL g) N Y:=Fx.fresh W (u.mono A6) R;have t:=r.fx u λz hz m=>nL (by rw[D1]at m;rw[<-m];exact hz);have li:b.length<=63:=by
  have:=DT D.ok (x:=-(2^n)) (y:=-(2^n)) M;rw[<-ei,B6]at this;lia
 refine⟨_,Z,L,b,Z,SqL.of (by rw[List.nil_append]at B;exact B),by lia,C,λl out H4 X d pm ru=>?_⟩;have s5:=AK (o:=.lst (out.map λq=>V.ref q.a)) d;have j:Ay Y (upd H4 l (.lst (out.map λq=>V.ref q.a))):=Ay.trans X s5;refine k l out _ ((x1.trans x3).trans (Ay.fx j)) (t.same j) ?_ Ag (λq hq=>j _ _ (C q (pm.mem_iff.mp hq))) (by rw[<-ei];exact pm.map _) ru;cases e:H l with
 |none=>rfl
 |some o =>
  exfalso;by_cases m:l∈Dg g
  .obtain⟨o2,e2⟩:=t.nw.s l m;have:=X _ _ e2;rw[d]at this;cases this
  .have:=X _ _ ((x1.trans x3).get (λz=>m (by simp[frL,Dg]at *;lia)) e);rw[d]at this;cases this
end
def FrO(d:R_)(H H':Hp):Prop:=∀b o,H b=some o->b≠d->H' b=some o
theorem FrO.fx{c:R_}{H d:Hp}{kvs:List (List Key×V)}(a:Rd H c (.dT kvs))(f:FrO c H d):Fx [c] H d:=λb o e z=>by
 refine f b o e λy=>?_;subst y;have z:=z (D1.mpr Z);rcases a with a|⟨g,a⟩<;>rw[e]at a<;>cases a<;>exact z
theorem Mg:∀(cs:List Cl)(x y:Int),(∃c∈cs,c.x=x/\c.y=y/\stC cs x y=c.s)\/((∀c∈cs,¬(c.x=x/\c.y=y))/\stC cs x y=0)
|[],_,_=>.inr ⟨(λc g=>nomatch g),Z⟩
|c::cs,x,y=>by
 by_cases z:x=c.x/\y=c.y
 .exact .inl ⟨c,C2,z.1.symm,z.2.symm,Z7 z⟩
 .have e:stC (c::cs) x y=stC cs x y:=Z4 z;rw[e];rcases Mg cs x y with ⟨d,a,h⟩|⟨b,f⟩
  .exact .inl ⟨d,C4 _ a,h⟩
  .refine .inr ⟨λd a=>?_,f⟩;rcases C1.mp a with rfl|a
   .exact λq=>z ⟨q.1.symm,q.2.symm⟩
   .exact b d a
def ByC(es:List Cl):Prop:=es.Pairwise λp q=>Cp [q.y,q.x] [p.y,p.x]=false
noncomputable def clI(q:It3):Cl:=⟨q.x,q.y,(q.r.headD 0).toNat⟩
theorem Wg{H:Hp}:∀{g:H_}{e:List Cl},Paired (MU H) g e->∃b:List It3,(b.map λq=>V.ref q.a)=g.map V.ref/\b.map clI=e/\∀q∈b,MU H q.a (clI q)/\H q.a=some (.tup (q.ns.map V.int))
|_,_,.nil=>⟨[],Z,Z,λq d=>by cases d⟩
|t::g,c::e,.cons h pr=>by
 obtain⟨b,j,k,f⟩:=Wg pr;have i:clI ⟨t,c.x,c.y,[(c.s:Int)]⟩=c:=rfl;refine⟨⟨t,c.x,c.y,[(c.s:Int)]⟩::b,by rw[D9,j];rfl,by rw[D9,k,i],λq d=>?_⟩;rcases C1.mp d with rfl|d
 .exact⟨by rw[i];exact h,h⟩
 .exact f q d
theorem Pr{H:Hp}:∀{out:List It3},(∀q∈out,MU H q.a (clI q))->Paired (MU H) (out.map (·.a)) (out.map clI)
|[],_=>.nil
|q::out,h=>.cons (h q (C2 ..)) (Pr λq b=>h q (C4 _ b))
theorem Oq.perm{a b:List Cl}{φ:D_}(h:Oq a φ)(p:b.Perm a):Oq b φ:=⟨(p.map _).nodup_iff.mpr h.nd,λc=>by rw[p.mem_iff];exact h.mem c⟩
structure Dd(ds:List Cl)(n:Nat)(x y:Int):Prop where
nd:(ds.map λc=>(c.x,c.y)).Nodup
ok:∀c∈ds,(ClOk c/\1<=c.s)/\x<=c.x/\c.x<x+6/\y<=c.y/\c.y<y+3
len:ds.length<=n
theorem Dd.nil(x y:Int):Dd [] 0 x y:=⟨by simp,(λc a=>by cases a),C0 _⟩
theorem Dd.put{a:List Cl}{n:Nat}{x y:Int}{c:Cl}(h:Dd a n x y)(g:ClOk c)(e:1<=c.s)(f:x<=c.x/\c.x<x+6/\y<=c.y/\c.y<y+3):Dd (LQ a c) (n+1) x y:=by
 refine⟨nd_putC h.nd,λd b=>?_,C9 (len_putC a c) (Q8 h.len)⟩;rcases mem_putC.mp b with rfl|⟨b,_⟩
 .exact⟨⟨g,e⟩,f⟩
 .exact h.ok d b
theorem same_s {b:List Cl} (nd:(b.map λc=>(c.x,c.y)).Nodup) {c d:Cl} (h:c∈b) (i:d∈b) (e:d.x=c.x) (f:d.y=c.y):d.s=c.s:=by
 have g:=MI nd h;have a:=MI nd i;rw[e,f,g]at a;injection a with a
 injection a with a
 lia
theorem Dd.dk{a:List Cl}{n:Nat}{x y:Int}(h:Dd a n x y):Oq a (stC a):=by
 refine⟨h.nd,λc=>⟨λg=>⟨(h.ok c g).1.2,?_⟩,λ⟨k,j⟩=>?_⟩⟩
 .rcases Mg a c.x c.y with ⟨d,i,b,f,e⟩|⟨no,_⟩
  .rw[e];exact same_s h.nd g i b f
  .exact absurd ⟨Z,Z⟩ (no c g)
 .rcases Mg a c.x c.y with ⟨d,i,b,f,e⟩|⟨_,e⟩
  .rw[e]at j;have:d=c:=by
    cases d;cases c;cases b;cases f;cases j;rfl
   exact this▸i
  .lia
section
variable{P:N_}{w:Q_}{K:O_}{mg:C_}{base:T_}{a:Ad}
theorem ok_row(F:Fun K "_law_by_rows" "_law_by_rows" FY f fd)(T:Top K mg a):AN P w K mg base CX0 1 f fd PJ Lx:=by
 refine F.ok Oc (λvs H Q E h=>?_) (λd A b s H vs Q E e h=>?_)
 .obtain⟨t,x,y,r,rfl,_⟩:=h;rfl
 .obtain⟨t,x,y,r,rfl,c,k⟩:=h;exact⟨_,(Af (Au (Dx (Aa (Ai Al (pv 0) Ae R_9) (Aa (Ai Al (pv 0) Ae R_9) Ac))))),(xwi Z Z Z (SqT.of c) (Ah (j:=1) Z) (xwi Z Z Z (SqT.of c) (Ah (j:=0) Z) ⟨S_2,k⟩))⟩
inductive SpLsd(vs:List V)(H:Hp)(Q:VK):Prop
|mk (D:R_) (ds:List Cl) (_:vs=[.ref D]) (_:Rd H D (.dT (kvC ds))) (_:(ds.map λc=>(c.x,c.y)).Nodup) (_:ds.length<=40) (_:∀(o:Obj)(L:R_)(ts:H_)(cs:List Cl)(H':Hp),FrO D H H'->H' D=some (.frz o (.dT (kvC ds)))->H L=none->H' L=some (.lst (ts.map V.ref))->Paired (MU H') ts cs->cs.Perm ds->ByC cs->Q (.ref L) H'):SpLsd vs H Q
def ZB:Sp:=λvs H Q _=>SpLsd vs H Q
theorem ok_lsd(F:Fun K "_law_listed" "_law_listed" GX f fd)(T:Top K mg a)(bR:Cal P w K mg base CX0 1 "_law_by_rows" PJ Lx):AN P w K mg base CX0 5 f fd Ii ZB:=by
 refine F.ok FR D_9 λae A ac s H vs Q E hr h=>?_
 obtain⟨D,g,rfl,rd,nd,af,k⟩:=h;refine⟨_,(Ab (Ao (i:=1) FR.nd Z O_9 (CL Ac)) (Ab (CK X8 Z (Ts (pv 0)) (Bv (i:=2) FR.nd Z O_9) (Af (BC (Fe K2 K3 K4 Cc (pv 1) (AV (Aa (Ai Al (pv 2) Ae R_9) (Aa (Ai Al (pv 2) Ae R_9) (Aa (Mx (DV hr) (pv 0) (pv 2) R_9) Ac))) Ac))))) (Af (Au (Pp bR (rm hr) Z T.b_sorted Z (Aa (pv 1) Ac)))))),?_⟩
 try dsimp only[cxK]
 have Y:∀{x:R_},H x=none->x≠D:=λ{x} n z=>by
  rw[z]at n;rcases rd with y|⟨o,y⟩
  .rw[y]at n;cases n
  .rw[y]at n;cases n
 refine⟨S_0,λS r=>?_⟩;have s1:=AK (o:=.lst []) r;have h1:upd H S (.lst []) S=some (.lst []):=Ag;generalize upd H S (.lst [])=H1 at s1 h1⊢;have ad:Rd H1 D (.dT (kvC g)):=by
  rcases rd with y|⟨o,y⟩
  .exact .inl (s1 _ _ y)
  .exact .inr ⟨o,s1 _ _ y⟩
 refine xq1 Z ⟨D,kvC g,Z,ad,λo H2 p I=>?_⟩;have h2:=I _ _ h1 (Y r);have m:FrO D H H2:=λb u e n=>I _ _ (s1 _ _ e) n;have ab:(kvC g).length=g.length:=B6 _;refine for_dT (kvs:=kvC g) (λj σ l=>∃(C:H_)(u2:Option V),σ=[some (.ref D),some (.ref S),u2]/\(∀b u,H2 b=some u->b≠S->l b=some u)/\l S=some (.lst (C.map V.ref))/\Paired (MU l) C (g.take j)) ⟨[],none,Z,λb u e _=>e,h2,.nil⟩ (λj σ l _ z=>by obtain⟨_,_,_,z,_⟩:=z;exact z _ _ p (X5 (Y r))) ?_ ?_
 .rintro j kb kv v σ l ev hb ⟨C,u2,rfl,B,X,W⟩;obtain⟨c,G,ee⟩:∃c,g[j]?=some c/\(kOf [c.x,c.y],V.int (c.s:Int))=(kv,v):=by
   unfold kvC at ev;rw[B8]at ev;obtain⟨c,G,e⟩:=D6.mp ev;exact⟨c,G,e⟩
  cases ee;have jl:j<g.length:=(B7.mp G).1;have N:l kb=some (.tup [.int c.x,.int c.y]):=hb;have aa:=B _ _ p (X5 (Y r));have lt:=K5 W;rw[L7]at lt;refine xq1 Z ⟨.inl ⟨Z,_,SqL.of X⟩,(xwi Z Z Z (SqT.of N) (Ah (j:=0) Z) (xwi Z Z Z (SqT.of N) (Ah (j:=1) Z) (xw2 Z Z ⟨D,.int (c.s:Int),Z,?_,?_⟩)))⟩
  .exact .inr ⟨kvC g,kOf [c.x,c.y],kb,.inr ⟨o,aa⟩,Z,hb,(MI nd (D5 G)).symm⟩
  refine⟨(by show 3<=sizeLine;decide),λt ht=>?_⟩;have s6:=AK (o:=.tup [.int c.x,.int c.y,.int (c.s:Int)]) ht;have R:MU (upd l t (.tup [.int c.x,.int c.y,.int (c.s:Int)])) t c:=Ag;generalize upd l t (.tup [.int c.x,.int c.y,.int (c.s:Int)])=H6 at s6 R⊢;have h6:=s6 _ _ X;refine⟨S,(xq2 Z Z ⟨h6,by rw[B6];exact Dv A0,?_⟩)⟩;have tp:∀{b:R_}{ys:List V},H6 b=some (.tup ys)->upd H6 S (.lst (C.map V.ref++[.ref t])) b=some (.tup ys):=λ{b ys} e=>by rw[As (AE e h6 A3)];exact e
  refine⟨C++[t],(xq1 Z ⟨λb u e n=>?_,by rw[Ag,C6];rfl,?_⟩)⟩
  .rw[As n];exact s6 _ _ (B _ _ e n)
  .rw[J3,G,P9];exact A2b (PairedM.imp (λb c z=>tp (s6 _ _ z)) W) (tp R)
 .rintro σ l ⟨C,u2,rfl,B,X,W⟩;rw[ab,L6]at W;obtain⟨d,e1,e2,O⟩:=Wg W;have li:d.length=g.length:=by rw[<-e2,B6]
  refine xq1 Z ⟨S,d,Z,by rw[e1];exact SqL.of X,by lia,λq hq=>(O q hq).2,λL out H4 kp U pm ru=>?_⟩;have M:=kp _ _ (B _ _ p (X5 (Y r)));have s5:=AK (o:=.lst (out.map λq=>V.ref q.a)) U;have h5:upd H4 L (.lst (out.map λq=>V.ref q.a)) L=some (.lst ((out.map (·.a)).map V.ref)):=by rw[Ag,L9];rfl
  generalize upd H4 L (.lst (out.map λq=>V.ref q.a))=H5 at s5 h5⊢;refine k o L (out.map (·.a)) (out.map clI) H5 (λb u e n=>s5 _ _ (kp _ _ (B _ _ (m _ _ e n) (Av e r)))) (s5 _ _ M) ?_ h5 (Pr λq hq=>s5 _ _ (kp _ _ (O q (pm.mem_iff.mp hq)).1)) (by rw[<-e2];exact pm.map _) (N4.mpr ru);cases e:H L with
  |none=>rfl
  |some u =>
   by_cases z:L=D
   .rw[z,M]at U;cases U
   .rw[kp _ _ (B _ _ (m _ _ e z) (Av e r))]at U;cases U
theorem cpow2{n:Int}(h:0<=n)(l:n<=100):CPow 2 n:=⟨h,by lia,by decide⟩
inductive SpBase(vs:List V)(H:Hp)(Q:VK):Prop
|mk (c:Int) (_:vs=[.int c]) (_:∀v:Int,-(2^38)<=v->v<2^38->Q (.int v) H):SpBase vs H Q
def UJ:Sp:=λvs H Q _=>SpBase vs H Q
theorem ok_base(F:Fun K "_law_base" "_law_base" JA f fd)(T:Top K mg a):AN P w K mg base CX0 1 f fd PJ UJ:=by
 refine F.ok RJ D_9 λd A b s H vs Q E e h=>?_
 obtain⟨c,rfl,k⟩:=h;refine⟨_,(Ab (AQ (Az De (AA Bz (pv 0) Ae) Ae (AD _)) (Af (Au (AA Bm (AA Bz (AA CQ (pv 0) Ae) (AA op_pow Ae Ae)) (AA op_pow Ae Ae)))) Ax) (Af (Au (AA Bm (AA Bz (AA CQ (pv 0) Ae) Ae) Ae)))),?_⟩
 try dsimp only[cxK]
 refine xwb Z Z Z ⟨(by show(0:Int)<4;decide),Z,(xq1 Z (GD (λ_=>?_) (λ_=>?_)))⟩
 .refine xwb Z Z Z ⟨⟨by decide,by decide⟩,(xq2 Z Z ⟨cpow2 A4 A4,(xq2 Z Z ⟨(by show(0:Int)<2^39;decide),(xq2 Z Z ⟨cpow2 A4 A4,(xq2 Z Z (k _ ?_ ?_))⟩)⟩)⟩)⟩
  .show -(2^38)<=c/4%2^39-2^38;lia
  .show c/4%2^39-2^38<2^38;lia
 .refine xwb Z Z Z ⟨⟨by decide,by decide⟩,(xq2 Z Z ⟨(by show(0:Int)<12;decide),(xq2 Z Z (k _ ?_ ?_))⟩)⟩
  .show -(2^38)<=c/4%12-8;lia
  .show c/4%12-8<2^38;lia
inductive SpHeap(K:O_)(vs:List V)(H:Hp)(Q:VK):Prop
|mk (l:R_) (ns:I_) (fi x y:Int) (m:Nat) (_:vs=[.ref l,.int fi,.int (m:Int),.int x,.int y]) (_:SqL K H l (ns.map V.int)) (_:0<=fi) (_:m<=100) (_:-(2^39)<=x) (_:x<2^39) (_:-(2^39)<=y) (_:y<2^39) (_:∀(D:R_)(ds:List Cl)(H':Hp),Ay H H'->H D=none->H' D=some (.dT (kvC ds))->Dd ds m x y->Q (.ref D) H'):SpHeap K vs H Q
def UF(K:O_):Sp:=λvs H Q _=>SpHeap K vs H Q
theorem ok_heap(F:Fun K "_law_heap" "_law_heap" Jz f fd)(T:Top K mg a)(X:Cal P w K mg base CX0 1 "_law_at" YI (Yi K)):AN P w K mg base CX0 2 f fd JH (UF K):=by
 refine F.ok Ed D_9 λY A M s H vs Q E S h=>?_
 obtain⟨l,ns,C,x,y,m,rfl,hS,f0,m1,x1,x2,y1,y2,k⟩:=h;refine⟨_,(Ab (Ao (i:=5) Ed.nd Z O_9 Mv) (Ab (CK X8 Z (EF Z T.b_range (Aa (pv 2) Ac)) (Bv (i:=6) Ed.nd Z O_9) (Ab (Ao (i:=7) Ed.nd Z O_9 (Aq X (rm S) Z Am (Aa (pv 0) (Br AZ (pv 1) (pv 6) Ac)))) (Ab (Ao (i:=8) Ed.nd Z O_9 (AA AZ (pv 7) (AA EJ Ae (pv 6)))) (Af (Fz (DV S) (pv 5) (Dx (Br AZ (pv 3) (AA Bz (pv 8) Ae) (Br AZ (pv 4) (AA Bz (AA CQ (pv 8) Ae) Ae) Ac))) (AA AZ Ae (AA Bz (AA AZ (AA CQ (pv 7) Ae) (pv 6)) Ae)) Z))))) (Af (Au (pv 5))))),?_⟩
 try dsimp only[cxK]
 refine λD G=>?_;have U:=AK (o:=.dT []) G;have q:upd H D (.dT []) D=some (.dT (kvC [])):=Ag;generalize upd H D (.dT [])=H1 at U q⊢;refine xw2 Z Z ⟨by lia,by lia,?_⟩;rw[F4];refine EK (n:=m) (λj σ g=>∃(p:List Cl)(N O R:Option V),σ=[some (.ref l),some (.int C),some (.int (m:Int)),some (.int x),some (.int y),some (.ref D),N,O,R]/\Ay H g/\g D=some (.dT (kvC p))/\Dd p j x y) ⟨[],none,none,none,Z,U,q,Dd.nil x y⟩ ?_ ?_
 .rintro j σ g hj ⟨p,N,O,R,rfl,B,d,u⟩;refine xq1 Z (xq1 Z (xq1 Z (xq2 Z Z ⟨l,ns,_,Z,B.seq hS,by show 0<=C+(0+(j:Int));lia,?_⟩)));generalize atN ns (C+(0+(j:Int)))=v;refine xw2 Z Z (xq2 Z Z ⟨.inl ⟨by decide,by decide⟩,(xq2 Z Z ?_)⟩);refine xwb Z Z Z ⟨⟨by decide,by decide⟩,(xwb Z Z Z (xq2 Z Z ⟨B4,(xq2 Z Z (xq1 Z ?_))⟩))⟩;obtain⟨r,L⟩:=F5 (show 0<=1+(v/18+(0+(j:Int)))%7 by lia);refine xw2 Z Z (xq2 Z Z ⟨(by show(0:Int)<6;decide),(xq2 Z Z (xw2 Z Z (xq2 Z Z ⟨⟨by decide,by decide⟩,(xq2 Z Z ⟨B5,(xq2 Z Z ⟨S_2,λt ht=>?_⟩)⟩)⟩)))⟩);have e1:(λ(i j:Int)=>V.int (i+j)) 1 ((v/18+(0+(j:Int)))%7)=V.int (r:Int):=K0 V.int L;rw[e1];have W:=AK (o:=.tup [.int (x+(v+3*(0+(j:Int)))%6),.int (y+(v+3*(0+(j:Int)))/6%3)]) ht;have h6:upd g t (.tup [.int (x+(v+3*(0+(j:Int)))%6),.int (y+(v+3*(0+(j:Int)))/6%3)]) t=some (.tup [.int (x+(v+3*(0+(j:Int)))%6),.int (y+(v+3*(0+(j:Int)))/6%3)]):=Ag;have I:=W _ _ d;have dl:=u.len;refine⟨D,(xq1 Z ⟨dput (c:=⟨x+(v+3*(0+(j:Int)))%6,y+(v+3*(0+(j:Int)))/6%3,r⟩) I h6 A0,?_⟩)⟩;refine⟨LQ p ⟨x+(v+3*(0+(j:Int)))%6,y+(v+3*(0+(j:Int)))/6%3,r⟩,_,_,_,Z,λb o e=>?_,Ag,u.put ⟨?_,?_⟩ ?_ ?_⟩
  .rw[As (Av e G)];exact W _ _ (B _ _ e)
  .unfold Ev;dsimp only;generalize v+3*(0+(j:Int))=z;refine⟨by lia,by lia,by lia,by lia⟩
  .show r<8;lia
  .show 1<=r;lia
  .dsimp only;generalize v+3*(0+(j:Int))=z;refine⟨by lia,by lia,by lia,by lia⟩
 .rintro σ g ⟨p,N,O,R,rfl,B,d,u⟩;exact xq1 Z (k D p g B G d u)
theorem fld_fv{g:GA}{G:Gv}{H:Hp}{Q:VK}{L:R_}{C:H_}{cs o:List Cl}{φ:D_}(E:AS a H g G)(F:H L=some (.lst (C.map V.ref)))(ap:Ap g L)(M:Paired (MU H) C cs)(B:cs.Perm o)(dk:Oq o φ)(ok:∀c∈o,ClOk c)(l:o.length<=40)(few:G.length<6000000)(k:∀(r:Nat)(q:Gv)(x:Hp),Fr g H x->AS a x g q->AG G q 16000->Fv q r φ->Q (.int r) x):SpFld a [.ref g.p,.ref L] H Q:=by
 have O:=B.length_eq;have m:∀c∈cs,ClOk c:=λc A=>ok c (B.mem_iff.mp A);refine⟨g,G,L,C,cs,Z,E,F,ap.1,ap.2.1,M,m,by lia,λD I t y f b h j i e=>?_⟩;obtain⟨N,z⟩:=b.g0;obtain⟨n,d⟩:=YX z b.ok e (λc A=>(m c (V0.mp A)).s);exact k D t y f b (h.mono A0) ⟨I,j,i,n,λu v=>by rw[d,stC_ds (dk.perm B)]⟩
end
end J
namespace J
open PySem L2
theorem Js.new{a:Ad}{H b:Hp}{g:GA}{G:Gv}{N M:Nat}{r:AI}{m:MA}(c:AM a H g G)(nl:H m.l=none)(nk:H m.kc=none)(j:b m.tp=some (.tup [.ref m.l,.ref m.kc]))(k:b m.l=some (.lst (m.ds.map V.ref)))(o:b m.kc=some (.dT []))(q:∀d∈m.ds,b d=some (.dK []))(s:m.ds.length=47)(t:m.ds.Nodup):Js b g G N M r m:=by
 obtain⟨w,i,_⟩:=c.pt;exact⟨j,k,⟨X5 (Av c.lv nl),X5 (Av i nl),X5 (Av c.nm nk)⟩,s,t,λe d h=>⟨[],q d (D5 h),J0 _,λp u=>(nomatch u),λn v f=>by cases f⟩,⟨[],o,J0 _,λks v f=>by cases f⟩⟩
noncomputable def zL(g:GA)(m:MA):List Addr:=[g.lv,g.pt,g.nm,g.am,g.bx,m.kc]++m.ds
section
variable{a:Ad}{H H':Hp}{g:GA}{G G':Gv}{Κ:KTy}{N b i:Nat}{p dx mem pr:R_}{r:AI}{m:MA}
theorem FrZ.fx(h:ZS a H g G Κ N b p dx mem pr r m)(f:FrZ g m H H'):Fx (zL g m) H H':=λx o e z=>by
 obtain⟨A,q,_⟩:=h.fu.at'.pt;obtain⟨t,d,_⟩:=h.fu.am;obtain⟨u,k,_⟩:=h.fu.bx;obtain⟨v,l,_⟩:=h.jz.jw.me.ce;refine f x o e (λy=>?_) (λy=>?_)
 .have c:=z (D8.mpr (.inl y));clear z;simp only[C1,D7,K6]at y;rcases y with y|y|y|y|y|y<;>subst y
  .rw[h.fu.at'.lv]at e;cases e;exact c
  .rw[q]at e;cases e;exact c
  .rw[h.fu.at'.nm]at e;cases e;exact c
  .rw[d]at e;cases e;exact c
  .rw[k]at e;cases e;exact c
  .rw[l]at e;cases e;exact c
 .have c:=z (D8.mpr (.inr y));obtain⟨j,s⟩:=L5 y;obtain⟨w,n,_⟩:=h.jz.jw.me.sq j x s;rw[n]at e;cases e;exact c
theorem ZS.fx{l:H_}(h:ZS a H g G Κ N b p dx mem pr r m)(f:Fx l H H')(n:∀x∈[g.br,m.l]++zL g m,x∉l):ZS a H' g G Κ N b p dx mem pr r m:=by
 have k:∀x∈zL g m,x∉l:=λx v=>n x (D8.mpr (.inr v));have j:g.br∉l:=n _ A6;have A:m.l∉l:=n _ A6;have q:=h.fu.fx f λx v=>by
  simp only[Dg,C1,D7,K6]at v;rcases v with z|z|z|z|z|z<;>subst z
  .exact k _ (by simp[zL])
  .exact k _ (by simp[zL])
  .exact k _ (by simp[zL])
  .exact j
  .exact k _ (by simp[zL])
  .exact k _ (by simp[zL])
 have c:=h.jz.jw;obtain⟨y,F,_⟩:=c.me.ce;have s:∀d∈m.ds,∀o,H d=some o->H' d=some o:=λd D o e=>f.get (k d (D8.mpr (.inr D))) e;have t:∀o,H m.kc=some o->H' m.kc=some o:=λo e=>f.get (k _ (by simp[zL])) e;have u:Js H' g G N (b+10*N) r m:=c.me.kp c.ok (AG.refl c.ok) λx o e w=>by
  rcases w with rfl|rfl|w|rfl
  .rw[c.me.tp]at e;cases e;exact f.tup c.me.tp
  .exact f.get A e
  .exact s x w o e
  .exact t o e
 obtain⟨C,B⟩:=h.jz.cn;refine⟨⟨⟨q.at',c.ok,c.bs,f.get j c.br,c.nbr,f _ _ c.hp λ_=>True.intro,c.ru.kp λx o e E=>f _ _ e λ_=>?_,c.rok,c.rest,u⟩,C,B.kp (i:=0) c.ok (AG.refl c.ok) s λy e=>⟨y,t _ e,C0 _⟩⟩,q,h.na,h.nb⟩;cases E<;>exact True.intro
theorem jnew{Q:VK}{c:Hp}(v:AS a c g G)(ro:MS r)(rz:Du r 0 CT=0)(V:Cy a c pr (DS r) r)(W:c p=none)(P:c dx=none)(S:dx≠p)(few:G.length<=b)(k:∀(n:Hp)(mem:R_)(m:MA),Ay c n->ZS a n g G Κ N b p dx mem pr r m->(∀y∈m.l::m.kc::m.ds,c y=none)->n mem=some (.dK (mK [(DS r,m)]))->c mem=none->mem∉m.ds->Q .non n):SK a [.ref p,.ref g.p,.ref pr] (upd (upd c dx (.own p)) p (.ins a.c_Jumps dx [])) Q:=by
 have nq:upd c dx (.own p) p=none:=by rw[As (X5 S)];exact W
 have U:Ay c (upd (upd c dx (.own p)) p (.ins a.c_Jumps dx [])):=(show Ay c _ from AH P).trans (AH nq);refine⟨p,dx,g.p,pr,DS r,r,Z,Ag,V.same U,λn mem m F D K q f L hl B A O R T=>?_⟩;have s:Ay c n:=λb o e=>F b o (U b o e) (Av e W);have t:∀{y:R_},upd (upd c dx (.own p)) p (.ins a.c_Jumps dx []) y=none->c y=none:=λ{y} e=>Ay.noneN U e;have d:=v.same s;have hw:Js n g G N (b+10*N) r m:=(Js.new (N:=0) (M:=0) v.at' (t f.2.1) (t f.2.2.1) L hl B A O R).mono (J0 _) (J0 _);have h:∀u∈m.ds,c u=none:=λu I=>t (f.2.2.2 u I);obtain⟨aa,X⟩:=v.g0;have E:Bs G:=λj hj=>by
  have:=OH j hj;rw[X];exact ML this
 obtain⟨ka,w,_⟩:=v.am;obtain⟨kb,x,_⟩:=v.bx;refine k n mem m s ⟨⟨⟨d.at',d.ok,E,d.br,⟨d.n1,d.n2⟩,K,V.same s,ro,rz,hw⟩,λ_=>0,λe u Y=>⟨[],A u (D5 Y),Z,O5,λk hk=>nomatch hk⟩,C9 few (U9 _ _),[],B,J0 _⟩,d,λz=>?_,λz=>?_⟩ (λy C=>?_) q (t D) (λz=>T mem z Z)
 .rw[h _ z]at w;cases w
 .rw[h _ z]at x;cases x
 .rcases C1.mp C with rfl|C
  .exact t f.2.1
  .rcases C1.mp C with rfl|C
   .exact t f.2.2.1
   .exact h y C
end
seal L2.PA L2.PE L2.PS L2.PSs L2.PT L2.PW
theorem DQ.at4{G:Gv}{n i:Nat}{q:Sq}{a b c d:Nat}(h:DQ G n i q a b c d){k:Nat}(e:k<4):(q.parts.map V.int)[k]?=some (.int (f4 a b c d k:Nat)):=by
 rw[h.ps]
 match k,e with
 |0,_=>rfl
 |1,_=>rfl
 |2,_=>rfl
 |3,_=>rfl
section
variable{P:N_}{w:Q_}{K:O_}{mg:C_}{base:T_}{a:Ad}
theorem ok_mq{n d:Nat}(hd:2<=d)(F:Fun K "mixed_quarters" "mixed_quarters" Dj f fd)(T:Top K mg a)(aO:Cal P w K mg base CX0 1 "split_stretch" Oh Ou)(a8:BJ P w K mg base CX0 2 a.c_Grove "linked" AU (DI a))(cP:Cal P w K mg base CX0 d "mixed" Lg (Tc a P w n)):AN P w K mg base CX0 (d+1) f fd Dp (spMQ a P w n):=by
 refine F.ok AT (λvs H Q E h=>?_) (λch A b6 s H vs Q E hr h=>?_)
 .apply AO;intro X v;obtain⟨g,G,c,kn,tk,tp,kvs,i,o,N,l,t,r,b,rfl,_⟩:=h;apply v;clear v X;rfl
 .apply AO;intro X v;obtain⟨g,G,c,kn,tk,tp,kvs,i,o,N,l,t,r,b,rfl,Y,na,nk,ah,ak,b2,ax,s8,pd,Nn,cg,bd,sx,sy,⟨few,ay⟩,k⟩:=h;apply v;clear v X;refine⟨_,(Ab (Ao (i:=4) AT.nd Z O_9 (Ai Aw (AB (pv 0) Z) (Ai Al (pv 1) Ae R_9) R_9)) (Ab (Ao (i:=5) AT.nd Z O_9 (Ai Aw (AB (pv 0) Z) (Ai Al (pv 1) Ae R_9) R_9)) (Ab (Ao (i:=6) AT.nd Z O_9 (Ai Al (pv 1) Ae R_9)) (Ab (Ao (i:=7) AT.nd Z O_9 (Aq aO (rm hr) Z Am (Aa (Ai Al (pv 6) Ae R_9) (Aa (Ai Al (pv 6) Ae R_9) (Aa (pv 2) Ac))))) (Ab (Ao (i:=8) AT.nd Z O_9 (Aq aO (rm hr) Z Am (Aa (Ai Al (pv 6) Ae R_9) (Aa (Ai Al (pv 6) Ae R_9) (Aa (pv 2) Ac))))) (Ab (Ao (i:=9) AT.nd Z O_9 (CL Ac)) (Ab (CK X8 Z (EF Z T.b_range (AF Ac)) (Bv (i:=10) AT.nd Z O_9) (Ab (Ao (i:=11) AT.nd Z O_9 (Ai Al (pv 7) (AA Bz (pv 10) Ae) R_9)) (Ab (Ao (i:=12) AT.nd Z O_9 (Ai Al (pv 8) (AA CQ (pv 10) Ae) R_9)) (Ab (Ao (i:=13) AT.nd Z O_9 (Dx (Aa (Ai Al (pv 11) Ae R_9) (Aa (Ai Al (pv 12) Ae R_9) (Aa (Ai Al (pv 11) Ae R_9) (Aa (Ai Al (pv 12) Ae R_9) Ac)))))) (Af (BC (Fe K2 K3 K4 Cc (pv 9) (Aa (Aq cP (rm hr) Z Am (Aa (pv 0) (Aa (Ai Al (pv 4) (pv 10) R_9) (Aa (Ai Al (pv 5) (pv 10) R_9) (Aa (pv 13) (Aa (pv 3) Ac)))))) Ac)))))))) (Af (Au (AC (pv 0) a8 (rm hr) Am (Aa (BG BV Z T.b_tuple K7 (Aa (pv 9) Ac)) Ac))))))))))),?_⟩
  try dsimp only[cxK]
  have li:=pd.li;have lo:=pd.lo;apply AO;intro X v;obtain⟨qi,i0,i1,i2,i3,ni⟩:=Bk Y.ok li;obtain⟨qo,o0,o1,o2,o3,no⟩:=Bk Y.ok lo;obtain⟨ts,h3,h4⟩:=Y.at'.pt;obtain⟨ti,br,ag⟩:=PairedM.get h4 ni.g;apply v;clear v X;have ag:H ti=some (.tup (qi.parts.map V.int)):=ag;obtain⟨bn,bt,aj⟩:=PairedM.get h4 no.g;have aj:H bn=some (.tup (qo.parts.map V.int)):=aj;refine xwf Z Z Y.at'.hp T.cl_Grove T.na_Grove_parts (BX g) (xwi Z Z Z (SqT.of ah) (Ah (j:=0) Z) (xq4 Z Z (SqL.of h3) (Ah (by rw[B8,br];rfl)) ?_));refine xwf Z Z Y.at'.hp T.cl_Grove T.na_Grove_parts (BX g) (xwi Z Z Z (SqT.of ah) (Ah (j:=1) Z) (xq4 Z Z (SqL.of h3) (Ah (by rw[B8,bt];rfl)) ?_));refine xwi Z Z Z (SqT.of ah) (Ah (j:=2) Z) ?_;refine xwi Z Z Z (SqT.of ak) (Ah (j:=0) Z) (xwi Z Z Z (SqT.of ak) (Ah (j:=2) Z) (xq1 Z ⟨l,r,2^N,Z,λc0 c1 cc H1 s1 a4 a0 a3=>?_⟩));have R:=s1 _ _ ak;refine xwi Z Z Z (SqT.of R) (Ah (j:=1) Z) (xwi Z Z Z (SqT.of R) (Ah (j:=3) Z) (xq1 Z ⟨t,b,2^N,Z,λr0 r1 rr H2 s2 bc ba bb=>?_⟩));refine⟨S_0,λmd af=>?_⟩;have s3:=AK (o:=.lst []) af;have a6:upd H2 md (.lst []) md=some (.lst []):=Ag;show(Zs _ _) _ _ (upd H2 md (.lst []));generalize upd H2 md (.lst [])=H3 at s3 a6⊢;have S:=(s1.trans s2).trans s3;have am:H md=none:=Ay.noneOf (s1.trans s2) af;have bo:∀{u:Nat},u<2->∃x,[V.ref c0,V.ref c1][u]?=some (.ref x)/\H3 x=some (.tup [.int (spl l r (2^N) u).1,.int (spl l r (2^N) u).2]):=λ{u} hu=>by
   match u,hu with
   |0,_=>exact⟨c0,Z,s3 _ _ (s2 _ _ a0)⟩
   |1,_=>exact⟨c1,Z,s3 _ _ (s2 _ _ a3)⟩
  have b8:∀{u:Nat},u<2->∃x,[V.ref r0,V.ref r1][u]?=some (.ref x)/\H3 x=some (.tup [.int (spl t b (2^N) u).1,.int (spl t b (2^N) u).2]):=λ{u} hu=>by
   match u,hu with
   |0,_=>exact⟨r0,Z,s3 _ _ ba⟩
   |1,_=>exact⟨r1,Z,s3 _ _ bb⟩
  have a5:=s3 _ _ (s2 _ _ a4);have be:=s3 _ _ bc;have bf:=S _ _ ag;have bg:=S _ _ aj;have bu:=Y.same S;have b4:=BO.same S na;have aa:md∉Dg g:=λz=>by
   obtain⟨oo,e⟩:=(Y.same (s1.trans s2)).nw.s md z;rw[af]at e;cases e
  have bi:md≠kn:=λz=>by
   obtain⟨xs,e,_⟩:=na.ex;rw[z]at am;rw[am]at e;cases e
  have mF:md∉frM g kn:=λz=>by
   simp only[frM,C1,D7,K6]at z;rcases z with z|z|z|z
   .exact aa (by rw[z];simp[Dg])
   .exact aa (by rw[z];simp[Dg])
   .exact aa (by rw[z];simp[Dg])
   .exact bi z
  clear R a0 a3 ba bb a4 bc s1 s2 s3;refine⟨4,Z,by decide,by decide,?_⟩;refine EK (n:=4) (λj σ H4=>∃(O:Gv)(B:List (NK×V))(I:L_)(an aq ar as:Option V),σ=[some (.ref g.p),some (.ref tk),some (.int (2^N)),some (.ref kn),some (.ref ti),some (.ref bn),some (.ref tp),some (.ref cc),some (.ref rr),some (.ref md),an,aq,ar,as]/\Fx (md::frM g kn) H3 H4/\H4 md=some (.lst ((List.range j).map λx=>V.int (I x:Nat)))/\AS a H4 g O/\BO P w shM H4 kn B/\KOk O c B/\kvs.length<=B.length/\AG G O (B.length-kvs.length)/\Un G N kvs B/\∀x,x<j->NO O N (f4 i0 i1 i2 i3 x) (f4 o0 o1 o2 o3 x) (spl l r (2^N) (x%2)).1 (spl t b (2^N) (x/2)).1 (spl l r (2^N) (x%2)).2 (spl t b (2^N) (x/2)).2 (I x)) ⟨G,kvs,λ_=>0,none,none,none,none,Z,Fx.refl _ H3,a6,bu,b4,b2,C0 _,(AG.refl Y.ok).mono A0,Un.refl _ _ _,λx W=>absurd W (L8 _)⟩ ?_ ?_
  .rintro j σ H4 hj ce;apply AO;intro X v;obtain⟨O,B,I,an,aq,ar,as,rfl,x4,ae,C,al,M,bm,q,au,L⟩:=ce;apply v;clear v X;have u2:j%2<2:=J1 _ A4;have v2:j/2<2:=by lia
   obtain⟨cx,bp,bv⟩:=bo u2;obtain⟨ry,bq,b0⟩:=b8 v2;have ab:=x4.tup bv;have ac:=x4.tup b0;have cm:(0+(j:Int))%2=((j%2:Nat):Int):=by lia
   have cd:(0+(j:Int))/2=((j/2:Nat):Int):=by lia
   refine xq1 Z (xq1 Z (xq2 Z Z ⟨B1,cc,_,_,.ref cx,Z,Z,SqT.of (x4.tup a5),?_,?_⟩))
   .show atI [V.ref c0,V.ref c1] ((0+(j:Int))%2)=_;rw[cm];exact Ah bp
   refine xq1 Z (xq1 Z (xq2 Z Z ⟨⟨by decide,by decide⟩,rr,_,_,.ref ry,Z,Z,SqT.of (x4.tup be),?_,?_⟩))
   .show atI [V.ref r0,V.ref r1] ((0+(j:Int))/2)=_;rw[cd];exact Ah bq
   refine xwi Z Z Z (SqT.of ab) (Ah (j:=0) Z) (xwi Z Z Z (SqT.of ac) (Ah (j:=0) Z) (xwi Z Z Z (SqT.of ab) (Ah (j:=1) Z) (xwi Z Z Z (SqT.of ac) (Ah (j:=1) Z) ⟨S_4,λqp bz=>?_⟩)));have U:=AK (o:=.tup [.int (spl l r (2^N) (j%2)).1,.int (spl t b (2^N) (j/2)).1,.int (spl l r (2^N) (j%2)).2,.int (spl t b (2^N) (j/2)).2]) bz;have h5:upd H4 qp (.tup [.int (spl l r (2^N) (j%2)).1,.int (spl t b (2^N) (j/2)).1,.int (spl l r (2^N) (j%2)).2,.int (spl t b (2^N) (j/2)).2]) qp=some (.tup [.int (spl l r (2^N) (j%2)).1,.int (spl t b (2^N) (j/2)).1,.int (spl l r (2^N) (j%2)).2,.int (spl t b (2^N) (j/2)).2]):=Ag;show ∃_,_;generalize upd H4 qp (.tup [.int (spl l r (2^N) (j%2)).1,.int (spl t b (2^N) (j/2)).1,.int (spl l r (2^N) (j%2)).2,.int (spl t b (2^N) (j/2)).2])=H5 at U h5⊢;have x5:=x4.trans (Ay.fx U);have a7:=U _ _ ae;have ai:atI (qi.parts.map V.int) (0+(j:Int))=some (.int (f4 i0 i1 i2 i3 j:Nat)):=by
    rw[T9];exact Ah (ni.at4 hj)
   have ao:atI (qo.parts.map V.int) (0+(j:Int))=some (.int (f4 o0 o1 o2 o3 j:Nat)):=by
    rw[T9];exact Ah (no.at4 hj)
   have b7:Pd O c N (f4 i0 i1 i2 i3 j) (f4 o0 o1 o2 o3 j):=(pd.part Y.ok ax ni no hj).go q;have pN:(0:Int)<2^N:=GJ N;have e2:(2:Int)^(N+1)=2^N+2^N:=by rw[R4];lia
   rw[e2]at bd;have av:∀{s0 e0:Int}{u:Nat},0<=s0->e0<=2^N+2^N->0<=(spl s0 e0 (2^N) u).1/\(spl s0 e0 (2^N) u).2<=2^N:=λ{s0 e0 u} a1 a2=>by
    unfold spl;split
    .dsimp only;split<;>lia
    .dsimp only;split<;>lia
   have bx:=av (u:=j%2) bd.1 bd.2.2.1;have aw:=av (u:=j/2) bd.2.1 bd.2.2.2
   have g4:=q.few;refine xq1 Z ⟨.inl ⟨Z,_,SqL.of a7⟩,(xw3 Z Z Z (xq4 Z Z (SqT.of (x5.tup bf)) ai (xwj Z Z Z Z (SqT.of (x5.tup bg)) ao (xw2 Z Z ?_))))⟩;refine⟨g,O,c,kn,qp,B,f4 i0 i1 i2 i3 j,f4 o0 o1 o2 o3 j,N,_,_,_,_,Z,C.same U,BO.same U al,nk,h5,M,ax.app q,s8,b7,Nn,by lia,⟨bx.1,aw.1,bx.2,aw.2⟩,λz=>sx.spl z,λz=>sy.spl z,⟨by lia,ay⟩,λm G6 bl H6 x6 ad b5 bj ci D b9 b3=>?_⟩;have a9:=x6.get mF a7;refine⟨md,_,.int m,Z,Z,a9,by rw[B6,F9];exact Dv A0,?_⟩;have x7:=fx_up (o':=.lst (((List.range j).map λx=>V.int (I x:Nat))++[.int m])) a9 (λz=>z);have cf:G.length<=O.length:=q.le;refine⟨G6,bl,λx=>if x=j then m else I x,_,_,_,_,Z,(x5.trans (x6.mono (by simp[frM]))).trans (x7.mono A6),?_,ad.fx x7 λy hy z=>aa (by rw[D1]at z;rw[<-z];exact hy),BO.fx x7 (by simpa using X5 bi) b5,bj,by lia,(q.trans D).mono A0,au.trans q b9,λx W=>?_⟩
   .rw[Ag,M5,C6];congr 3
    .exact List.map_congr_left λx W=>by
      show V.int (I x:Nat)=V.int ((if x=j then m else I x:Nat):Int);rw[Z4 (by have:=F1.mp W;lia)]
    .show [V.int m]=[V.int ((if j=j then m else I j:Nat):Int)]
     rw[Z7 rfl]
   .dsimp only;by_cases z:x=j
    .subst z;rw[Z7 rfl];exact b3
    .rw[Z4 z];have bh:x<4:=by lia
     have l1:Ak O (f4 o0 o1 o2 o3 x) (N:Int):=q.lev (by
      match x,bh with
      |0,_=>exact no.hx
      |1,_=>exact no.hy
      |2,_=>exact no.hz
      |3,_=>exact no.hw)
     have l2:Ak O (f4 i0 i1 i2 i3 x) (N:Int):=q.lev (ni.nat bh).2;exact(L x A0).app C.ok D l2 l1
  .rintro σ H4 cb;apply AO;intro X v;obtain⟨O,B,I,an,aq,ar,as,rfl,x4,ae,C,al,M,bm,q,au,L⟩:=cb;apply v;clear v X;have g4:=q.few;have l4:=M.len C.ok;refine xq1 Z ⟨g.p,g.dx,(xq1 Z ⟨C.at'.hp,BM g,(xq1 Z ⟨md,(xq1 Z (.inl ⟨SqL.of ae,λtl b1=>?_⟩))⟩)⟩)⟩;have U:=AK (o:=.tup [.int (I 0:Nat),.int (I 1:Nat),.int (I 2:Nat),.int (I 3:Nat)]) b1;refine⟨g,O,tl,I 0,I 1,I 2,I 3,(N:Int),Z,C.at'.same U,C.ok,Ag,⟨(L 0 A4).lev,(L 1 A4).lev,(L 2 A4).lev,(L 3 A4).lev⟩,by lia,by lia,λm G6 H6 az bw D e6=>?_⟩;have x6:=az.fx (C.at'.same U);have ad:=(C.same U).fr az bw D;have ca:Fx (md::frM g kn) H3 H6:=(x4.trans (Ay.fx U)).trans (x6.mono (by simp[frM]));have kf:kn∉[g.lv,g.pt,g.nm]:=λz=>nk (by simp[Dg]at *;lia);refine k m G6 B H6 (Fx.fresh S ca am) ad (BO.fx x6 kf (BO.same U al)) (M.go C.ok s8 D) bm (q.trans D) au ?_;exact NO.join (ni.app (q.trans D)) (no.app (q.trans D)) (λx W=>(L x W).app C.ok D (q.lev (ni.nat W).2) (q.lev (by
    match x,W with
    |0,_=>exact no.hx
    |1,_=>exact no.hy
    |2,_=>exact no.hz
    |3,_=>exact no.hw))) e6
theorem ok_mix{f:R_}{p:E_}{v:R_}{j:E_}(F:Fun K "mixed" "mixed" OB f p)(q:Fun K "mixed_quarters" "mixed_quarters" Dj v j)(T:Top K mg a)(D:mg "mixed" = some (.ref f))(z:Ci K p Lg [])(m:mg "mixed_quarters" = some (.ref v))(k:Ci K j Dp [])(C:Cal P w K mg base CX0 1 "split_stretch" Oh Ou)(B:BJ P w K mg base CX0 2 a.c_Grove "linked" AU (DI a)):∀n,AN P w K mg base CX0 (2*n+2) f p Lg (Tc a P w n)
|0=>by
 refine F.ok Iy (λvs H Q E h=>?_) (λI A y s H vs Q E O h=>?_)
 .apply AO;intro u e;obtain⟨g,G,c,L,M,kvs,i,o,N,l,t,r,b,rfl,_,_,_,_,_,_,_,_,x,_⟩:=h;apply e;clear e u;exact absurd x (L8 _)
 .apply AO;intro u e;obtain⟨g,G,c,L,M,kvs,i,o,N,l,t,r,b,rfl,_,_,_,_,_,_,_,_,x,_⟩:=h;apply e;clear e u;exact absurd x (L8 _)
|n+1=>ok_mixS F T ⟨v,j,ok_mq (d:=2*n+2) A0 q T C B ⟨f,p,ok_mix F q T D z m k C B n,D,F.kp,z⟩,m,q.kp,k⟩
end
end J
namespace J
open PySem L2
structure FS(G:Gv)(f B:Nat):Prop where
ex:∃S:List Nat,f∈S/\(∀j,j<=48->bareN j∈S)/\Clo G S/\S.length<=B
theorem FS.app{G b:Gv}{k f B:Nat}(go:AG G b k)(h:FS G f B):FS b f B:=by
 apply AO;intro c a;obtain⟨S,d,e,g,i⟩:=h.ex;apply a;clear a c;exact⟨S,d,e,g.app go,i⟩
theorem fs_bare{G r:Gv}(c:G=G0++r)(ok:GOk G){j:Nat}(h:j<=48):FS G (bareN j) 49:=by
 refine⟨(List.range 49).map bareN,C8.mpr ⟨j,F1.mpr A0,Z⟩,λi b=>C8.mpr ⟨i,F1.mpr A0,Z⟩,λo d=>?_,by rw[B6,F9];exact C0 _⟩;obtain⟨i,b,rfl⟩:=C8.mp d;have b:=F1.mp b;cases i with
 |zero=>exact .inl A4
 |succ i =>
  have m:bareN i∈(List.range 49).map bareN:=C8.mpr ⟨i,F1.mpr A0,Z⟩;have a:=Eu c (n:=i) A0;have g:G[bareN (i+1)]?=some ⟨[(bareN i:Int),(bareN i:Int),(bareN i:Int),(bareN i:Int)],(i:Int)+1⟩:=by
   have:=Ss c i A0;exact this
  exact .inr ⟨i,_,bareN i,bareN i,bareN i,bareN i,⟨g,Z,Z,a,a,a,a⟩,m,m,m,m⟩
seal L2.PA L2.PE L2.PS L2.PSs L2.PT L2.PW
theorem Ul{G:Gv}(ok:GOk G){s:Nat}(b:s<8):∀{n i x y:Nat},Sol G s n i->x<2^n->y<2^n->cellF G n i x y=s
|0,i,x,y,h,_,_=>h
|n+1,i,x,y,h,hx,hy=>by
 obtain⟨m,a,e⟩:=h;have lm:=Sol.lev ok b a;have nd:DQ G n i _ m m m m:=⟨e,Z,Z,lm,lm,lm,lm⟩
 rw[Bc nd hx hy];have:f4 m m m m (quad n x y)=m:=by unfold f4;split<;>rfl
 rw[this];exact Ul ok b a (J1 _ (Ba n)) (J1 _ (Ba n))
def InB(x y wd ht u v:Int):Prop:=(x<=u/\u<x+wd)/\(y<=v/\v<y+ht)
instance(x y wd ht u v:Int):Decidable (InB x y wd ht u v):=by unfold InB;infer_instance
theorem YJ{G:Gv}(ok:GOk G){n s i o m:Nat}{x y b a:Int}(j:s<8)(k:Sol G s (n+1) i)(g:Ev x y b a (2^n))(h:NO G (n+1) i o (x+2^n) (y+2^n) (x+2^n+b) (y+2^n+a) m)(u v:Int):fieldF G n m u v=if InB x y b a u v then s else fieldF G n o u v:=by
 unfold fieldF;by_cases z:-(2^n)<=u/\u<2^n/\-(2^n)<=v/\v<2^n
 .rw[Z7 z,Z7 z];have c:=Ew z.1 z.2.1;have d:=Ew z.2.2.1 z.2.2.2;rw[h.cell _ _ c d,Ul ok j k c d];have e:((u+2^n).toNat:Int)=u+2^n:=O1 A0;have f:((v+2^n).toNat:Int)=v+2^n:=O1 A0;rw[e,f];by_cases q:InB x y b a u v
  .rw[Z7 q,Z7 (by unfold InB at q;lia)]
  .rw[Z4 q,Z4 (by unfold InB at q;lia)]
 .rw[Z4 z,Z4 z,Z4];unfold InB;unfold Ev at g;lia
noncomputable def clL(v:Int):Int:=if 0 > v then 0 else v
noncomputable def clR(n:Nat)(v:Int):Int:=if 2*2^n<v then 2*2^n else v
theorem clL_id{v:Int}(h:0<=v):clL v=v:=by unfold clL;rw[Z4 A0]
theorem clR_id{n:Nat}{v:Int}(h:v<=2*2^n):clR n v=v:=by unfold clR;rw[Z4 A0]
section
variable{P:N_}{w:Q_}{K:O_}{mg:C_}{base:T_}{a:Ad}
inductive SpChB(vs:List V)(H:Hp)(Q:VK):Prop
|mk (t:R_) (x y wd ht:Int) (_:vs=[.ref t]) (_:H t=some (.tup [.int x,.int y,.int wd,.int ht])) (_:0<=wd) (_:0<=ht) (_:Q .non H):SpChB vs H Q
def ZJ:Sp:=λvs H Q _=>SpChB vs H Q
theorem ok_chb(F:Fun K "check_box" "check_box" Jy f fd)(T:Top K mg a):AN P w K mg base CX0 1 f fd TH ZJ:=by
 refine F.ok RI D_9 λd A b s H vs Q E l h=>?_
 obtain⟨t,x,y,g,e,rfl,c,m,i,k⟩:=h;refine⟨_,(Af (AQ (PW.pt (Gd (Az GN (Ai Al (pv 0) Ae R_9) Ae (AD _)) (El (Az GN (Ai Al (pv 0) Ae R_9) Ae (AD _))))) (Af AY) Ax)),?_⟩
 try dsimp only[cxK]
 refine xwi Z Z Z (SqT.of c) (Ah (j:=2) Z) (xq2 Z Z (xq1 Z ?_));rw[Z8 (by lia:¬g<0)];refine AX (xwi Z Z Z (SqT.of c) (Ah (j:=3) Z) (xq2 Z Z (xq1 Z ?_)));rw[Z8 (by lia:¬e<0)];exact AX k
inductive SpPI(a:Ad)(vs:List V)(H:Hp)(Q:VK):Prop
|mk (g:GA) (G:Gv) (f n:Nat) (t:R_) (x y wd ht:Int) (_:vs=[.ref g.p,.int f,.ref t]) (_:AS a H g G) (_:Ak G f ((n+1:Nat):Int)) (_:n<48) (_:H t=some (.tup [.int x,.int y,.int wd,.int ht])) (_:∀(t':R_)(H':Hp),Ay H H'->H' t'=some (.tup [.int (clL (x+2^n)),.int (clL (y+2^n)),.int (clR n (x+2^n+wd)),.int (clR n (y+2^n+ht))])->Q (.ref t') H'):SpPI a vs H Q
def spPI(a:Ad):Sp:=λvs H Q _=>SpPI a vs H Q
theorem ok_pi(F:Fun K "part_in" "part_in" Ng f fd)(T:Top K mg a)(l:Cal P w K mg base CX0 4 "reach_of" UX (GF a)):AN P w K mg base CX0 5 f fd En (spPI a):=by
 refine F.ok FQ D_9 λm A e s H vs Q E q h=>?_
 obtain⟨g,G,o,n,t,x,y,v,u,rfl,p,r,d,b,k⟩:=h;refine⟨_,(Ab (Ao (i:=3) FQ.nd Z O_9 (Aq l (rm q) Z Am (Aa (pv 0) (Aa (pv 1) Ac)))) (Ab (Ao (i:=4) FQ.nd Z O_9 (AA AZ (Ai Al (pv 2) Ae R_9) (pv 3))) (Ab (Ao (i:=5) FQ.nd Z O_9 (AA AZ (Ai Al (pv 2) Ae R_9) (pv 3))) (Ab (Ao (i:=6) FQ.nd Z O_9 (AA EJ Ae (pv 3))) (Af (Au (Dx (Aa (AJ (Lq Z) Z T.b_max A1d (Aa (pv 4) (AF Ac))) (Aa (AJ (Lq Z) Z T.b_max A1d (Aa (pv 5) (AF Ac))) (Aa (AJ (FK Z) Z T.b_min A0b (Br AZ (pv 4) (Ai Al (pv 2) Ae R_9) (Aa (pv 6) Ac))) (Aa (AJ (FK Z) Z T.b_min A0b (Br AZ (pv 5) (Ai Al (pv 2) Ae R_9) (Aa (pv 6) Ac))) Ac))))))))))),?_⟩
 try dsimp only[cxK]
 refine xw2 Z Z ⟨g,G,o,n,Z,p.at',r,d,?_⟩;refine xwi Z Z Z (SqT.of b) (Ah (j:=0) Z) (xwb Z Z Z ?_);refine xwi Z Z Z (SqT.of b) (Ah (j:=1) Z) (xwb Z Z Z ?_);refine xwb Z Z Z ⟨.inl ⟨by decide,by decide⟩,?_⟩;refine xq1 Z ⟨_,_,Z,(xq1 Z ⟨_,_,Z,(xwj Z Z Z Z (SqT.of b) (Ah (j:=2) Z) (xq2 Z Z (xq1 Z ⟨_,_,Z,(xwj Z Z Z Z (SqT.of b) (Ah (j:=3) Z) (xq2 Z Z (xq1 Z ⟨_,_,Z,S_4,λt' c=>?_⟩)))⟩)))⟩)⟩;exact k t' _ (AK c) Ag
end
theorem Zf{G r:Gv}(a:G=G0++r)(ok:GOk G){n j w:Nat}(h:n+j<=46)(i:Ak G (bareN (n+1)) ((n+1:Nat):Int))(g:MR G n (bareN (n+1)) j w)(f:Ak G w ((n+j+1:Nat):Int)):w=bareN (n+j+1):=by
 refine Lo ok f (Eu a A0) λx y b d=>?_;rw[DW a ok A0 b d];have c:=Fc (n+j);have s:=Pm (n+j);have e:=FM a ok A0 g ((x:Int)-2^(n+j)) ((y:Int)-2^(n+j));unfold fieldF at e;rw[Z7 ⟨by lia,by lia,by lia,by lia⟩,show((x:Int)-2^(n+j)+2^(n+j)).toNat=x by lia,show((y:Int)-2^(n+j)+2^(n+j)).toNat=y by lia]at e;rw[e];split
 .rename_i z;exact DW a ok A0 (Ew z.1 z.2.1) (Ew z.2.2.1 z.2.2.2)
 .rfl
section
variable{P:N_}{w:Q_}{K:O_}{mg:C_}{base:T_}{a:Ad}
inductive Vz(a:Ad)(vs:List V)(H:Hp)(Q:VK):Prop
|mk (g:GA) (G:Gv) (f n:Nat) (t:R_) (x y wd ht:Int) (s:Nat) (_:vs=[.ref g.p,.int f,.ref t,.int s]) (_:AS a H g G) (_:Ak G f ((n+1:Nat):Int)) (_:n<=40) (_:Jk G n f) (_:H t=some (.tup [.int x,.int y,.int wd,.int ht])) (_:0<=wd) (_:0<=ht) (_:(0<wd->0<ht->Ev x y wd ht (2^40))) (_:s<8) (_:f=bareN (n+1)) (_:G.length<7400000) (_:∀(r m:Nat)(G':Gv)(H':Hp),Fr g H H'->AS a H' g G'->AG G G' 5000->Ak G' r ((m+1:Nat):Int)->m<=40->Jk G' m r->(∀u v,fieldF G' m r u v=if InB x y wd ht u v then s else fieldF G n f u v)->Q (.int r) H'):Vz a vs H Q
def UI(a:Ad):Sp:=λvs H Q _=>Vz a vs H Q
theorem ok_fill(F:Fun K "filled" "filled" Pf f fd)(T:Top K mg a)(cH:Cal P w K mg base CX0 1 "check_box" TH ZJ)(aD:Cal P w K mg base CX0 1 "lies_within" QE QV)(aU:Cal P w K mg base CX0 2 "is_state" UY ZD)(aS:Cal P w K mg base CX0 5 "widened_over" En (spWO a))(aX:BJ P w K mg base CX0 4 a.c_Grove "solid" EX (Ov a))(a9:BJ P w K mg base CX0 3 a.c_Grove "level_of" JP (Mi a))(cT:Cal P w K mg base CX0 5 "part_in" En (spPI a))(cP:Cal P w K mg base CX0 102 "mixed" Lg (Tc a P w 50))(aR:Cal P w K mg base CX0 4 "trimmed" Lf (MW a)):AN P w K mg base CX0 103 f fd Ps (UI a):=by
 refine F.ok Lb D_9 λa1 A ay s H vs Q E U h=>?_
 obtain⟨g,G,f',n,t,x,y,d,B,st,rfl,fu,lf,ak,tr,hb,w0,h0,ao,s8,hC,few,k⟩:=h;refine⟨_,(Ab (BC (Aq cH (rm U) Z Am (Aa (pv 2) Ac))) (Ab (Ao (i:=4) Lb.nd Z O_9 (JD (Em NU (Ai Al (pv 2) Ae R_9) Ae (AD _)) (LR (Em NU (Ai Al (pv 2) Ae R_9) Ae (AD _))))) (Ab (AQ (PW.pt (LP (BI (pv 4)) (IU (BU (BI (Aq aD (rm U) Z Am (Aa (pv 2) (Aa (BT Z T.k_LIMIT) Ac)))))))) (Af AY) Ax) (Ab (AQ (BU (BI (Aq aU (rm U) Z Am (Aa (pv 3) Ac)))) (Af AY) Ax) (Ab (AQ (BU (BI (pv 4))) (Af (Au (pv 1))) Ax) (Ab (Ao (i:=5) Lb.nd Z O_9 (Aq aS (rm U) Z Am (Aa (pv 0) (Aa (pv 1) (Aa (pv 2) Ac))))) (Ab (Ao (i:=6) Lb.nd Z O_9 (AC (pv 0) aX (rm U) Am (Aa (AC (pv 0) a9 (rm U) Am (Aa (pv 5) Ac)) (Aa (pv 3) Ac)))) (Af (Au (Aq aR (rm U) Z Am (Aa (pv 0) (Aa (Aq cP (rm U) Z Am (Aa (pv 0) (Aa (pv 6) (Aa (pv 5) (Aa (Aq cT (rm U) Z Am (Aa (pv 0) (Aa (pv 5) (Aa (pv 2) Ac)))) (Aa (pe_dnewN (sh:=[false,false,true])) Ac)))))) Ac)))))))))))),?_⟩
 try dsimp only[cxK]
 refine xq1 Z ⟨t,x,y,d,B,Z,hb,w0,h0,?_⟩;refine ev_val (t:=tAndV (tOp (rI0 λi j=>V.bl (decide (j<i))) (tOp (GC K) (Fa 2) (tC (V.int 2))) (tC (V.int 0))) (tOp (rI0 λi j=>V.bl (decide (j<i))) (tOp (GC K) (Fa 2) (tC (V.int 3))) (tC (V.int 0)))) (λv H1=>v=.bl (decide (0<d) && decide (0<B))/\H=H1) (λQ' q'=>?_) ?_
 .refine xwi Z Z Z (SqT.of hb) (Ah (j:=2) Z) (xq2 Z Z (xq1 Z ?_));revert q';generalize decide ((0:Int)<d)=b1;cases b1
  .intro q';exact AX (q' _ _ ⟨Z,Z⟩)
  .intro q';exact Cg (xwi Z Z Z (SqT.of hb) (Ah (j:=3) Z) (xq2 Z Z (q' _ _ ⟨Z,Z⟩)))
 rintro v H1 ⟨rfl,rfl⟩;by_cases hp:0<d/\0<B
 .have li:=ao hp.1 hp.2;rw[Z5 hp.1,Z5 hp.2];refine xq1 Z ⟨true,Z,Cg (xq1 Z ⟨t,x,y,d,B,2^40,Z,hb,(xq1 Z ?_)⟩)⟩;rw[Z5 li];refine AX (xq1 Z ⟨(st:Int),Z,by lia,by lia,true,Z,AX (xq1 Z ⟨true,Z,AX ?_⟩)⟩);refine xw3 Z Z Z ⟨g,G,f',n,t,x,y,d,B,Z,fu,lf,ak,hb,li,by lia,λj w' G1 H1 Y c ab nk wi lw C _=>?_⟩;have g1:=ab.few;have ar:H1 t=some (.tup [.int x,.int y,.int d,.int B]):=Y.tup fu.at' hb;obtain⟨qw,ew,am⟩:=id lw;refine xq1 Z ⟨g.p,g.dx,(xq1 Z ⟨c.at'.hp,Ty g,(xq1 Z ⟨g.p,g.dx,(xq1 Z ⟨c.at'.hp,DP g,(xq1 Z ⟨g,G1,w',qw,Z,c.at',ew,(xq1 Z ?_)⟩)⟩)⟩)⟩)⟩;refine⟨g,G1,n+j+1,st,by rw[am];rfl,c.at',c.ok,by lia,s8,by lia,λi G2 H2 L av o ad=>?_⟩;have l:=c.fr L av o;have g2:=o.few;have as:H2 t=some (.tup [.int x,.int y,.int d,.int B]):=L.tup c.at' ar;have ac:=o.lev lw;refine xw3 Z Z Z (xw3 Z Z Z (xq1 Z ⟨g,G2,w',n+j,t,x,y,d,B,Z,l,ac,by lia,as,λtp H3 s3 ag=>?_⟩));rw[clL_id (by unfold Ev at C;lia),clL_id (by unfold Ev at C;lia),clR_id (by unfold Ev at C;lia),clR_id (by unfold Ev at C;lia)]at ag;intro W H4 R s4 na;have ae:=(l.same s3).same s4;have ah:=s4 _ _ ag;have ax:H W=none:=by
   cases e:H W with
   |none=>rfl
   |some oo =>
    have z:W=g.lv\/W=g.pt\/W=g.nm:=by
     refine X6 λz=>?_;have q1:=Y _ _ e (λq=>z (.inl q)) (λq=>z (.inr (.inl q))) (λq=>z (.inr (.inr q)));have q2:=L _ _ q1 (λq=>z (.inl q)) (λq=>z (.inr (.inl q))) (λq=>z (.inr (.inr q)));rw[s3 _ _ q2]at R;cases R
    have w3:=(l.same s3).nw;obtain⟨o1,I⟩:=w3.s W (by simp[Dg];lia);rw[R]at I;cases I
  have kg:W∉Dg g:=λz=>by
   obtain⟨o1,I⟩:=(l.same s3).nw.s W z;rw[R]at I;cases I
  obtain⟨r0,e0⟩:=ae.g0;obtain⟨S,m1,al,lS⟩:∃S:List Nat,w'∈S/\Clo G2 S/\S.length<=49:=by
   subst hC;have I:=Classical.choose_spec c.g0;have eb:=Zf I c.ok A0 (Eu I (n:=n+1) A0) wi lw;obtain⟨S,h1,h2,h3,h4⟩:=((fs_bare I c.ok (j:=n+j+1) A0).app o).ex;exact⟨S,by rw[eb];exact h1,h3,h4⟩
  have p2:=GJ (n+j);have e2:(2:Int)^(n+j+1)=2^(n+j)+2^(n+j):=by rw[R4];lia
  have aj:=C;unfold Ev at aj;have sx:Lw (x+2^(n+j)) (x+2^(n+j)+d) (n+j+1) (x+2^(n+j)) (x+2^(n+j)+d):=Lw.top A0 A0 A0;have sy:Lw (y+2^(n+j)) (y+2^(n+j)+B) (n+j+1) (y+2^(n+j)) (y+2^(n+j)+B):=Lw.top A0 A0 A0;refine⟨g,G2,⟨st,S,x+2^(n+j),x+2^(n+j)+d,y+2^(n+j),y+2^(n+j)+B,false⟩,W,tp,[],i,w',n+j+1,x+2^(n+j),y+2^(n+j),x+2^(n+j)+d,y+2^(n+j)+B,Z,ae,na,kg,ah,kok0 _ _,al,s8,⟨Sol.lev l.ok s8 ad,ac,ad,m1⟩,by lia,by lia,⟨by lia,by lia,by lia,by lia⟩,λ_=>sx,λ_=>sy,⟨by show G2.length+16*S.length<8000000+0;lia,by show 16*S.length<4000000;lia⟩,λm G5 D H5 x5 M a4 ai a3 N a5 X=>?_⟩;have l5:=ai.len M.ok;have l5:D.length<=16*S.length:=l5;have g5:=N.few;have g5:G5.length<=G2.length+(D.length-0):=g5;refine⟨g,G5,m,n+j,Z,M,X.lev,by lia,λr G6 H6 aq aa O a0=>?_⟩;have g6:=O.few;obtain⟨r6,e6⟩:=aa.g0;obtain⟨m6,a2,aw,az,an⟩:=FP e6 aa.ok A0 (O.lev X.lev) a0;have af:AG G2 G6 (D.length-0+48):=N.trans O;have au:AG G G6 5000:=((ab.trans o).trans af).mono A0;refine k r m6 G6 H6 ?_ aa au aw A0 az (λu v=>?_)
  .intro bb oo e n1 n2 n3;have q1:=L _ _ (Y _ _ e n1 n2 n3) n1 n2 n3;have q2:=s4 _ _ (s3 _ _ q1);have q3:=x5.get (b:=bb) (by
    simp only[frM,C1,D7,K6,A4e];exact⟨n1,n2,n3,λz=>by rw[z,ax]at e;cases e⟩) q2
   exact aq _ _ q3 n1 n2 n3
  .obtain⟨ra,ea⟩:=c.g0;rw[an u v,Dt M.ok O X.lev,YJ M.ok s8 (Sol.goes N ad) C X,Dt l.ok N ac,Dt c.ok o lw,FM ea c.ok A0 wi,Dt fu.ok ab lf]
 .have e:(decide (0<d) && decide (0<B))=false:=by
   by_cases z:0<d
   .rw[Z8 (λq=>hp ⟨z,q⟩),Bool.and_false]
   .rw[Z8 z,Bool.false_and]
  rw[e];refine xq1 Z ⟨false,Z,AX (AX (xq1 Z ⟨(st:Int),Z,by lia,by lia,true,Z,AX (xq1 Z ⟨false,Z,Cg (xq1 Z ?_)⟩)⟩))⟩;refine k f' n G H (Fr.refl g H) fu ((AG.refl fu.ok).mono A0) lf ak tr (λu v=>?_);rw[Z4];unfold InB;lia
end
end J
namespace J
open PySem L2
noncomputable def it(f:L_):Nat->Nat->Nat
|0,s=>s
|k+1,s=>f (it f k s)
structure Mp(f:L_):Prop where
z:f 0=0
le:∀s,s<=7->f s<=7
section
variable{f:L_}
theorem Cw(n s:Nat):∀m,it f (m+n) s=it f m (it f n s)
|0=>by rw[M8];rfl
|m+1=>by
 rw[show m+1+n=(m+n)+1 by lia];show f (it f (m+n) s)=f (it f m (it f n s));rw[Cw n s m]
theorem Mp.it0(h:Mp f):∀k,it f k 0=0
|0=>rfl
|k+1=>by show f (it f k 0)=0;rw[h.it0 k,h.z]
theorem Mp.itl(h:Mp f){s:Nat}(a:s<=7):∀k,it f k s<=7
|0=>a
|k+1=>h.le _ (h.itl a k)
def Per(f:L_)(c u:Nat):Prop:=it f c u=u
theorem Per.mul{c u:Nat}(h:Per f c u):∀m,Per f (m*c) u
|0=>by rw[Nat.zero_mul];rfl
|m+1=>by
 show it f ((m+1)*c) u=u;rw[V5,Cw,(h:it f c u=u)];exact h.mul m
theorem Per.at'{c u:Nat}(h:Per f c u)(i:Nat):Per f c (it f i u):=by
 show it f c (it f i u)=it f i u;rw[<-Cw,V8,Cw,(h:it f c u=u)]
def Mn(f:L_)(c u:Nat):Prop:=1<=c/\Per f c u/\∀d,1<=d->d<c->¬Per f d u
theorem mn_ex{u:Nat}:∀{c:Nat},1<=c->Per f c u->∃d,d<=c/\Mn f d u:=by
 intro c;induction c using Nat.strongRecOn with
 |ind c j =>
  intro h i;by_cases z:∃d,1<=d/\d<c/\Per f d u
  .obtain⟨d,a,b,g⟩:=z;obtain⟨e,k,b2⟩:=j d b a g;exact⟨e,by lia,b2⟩
  .exact⟨c,C0 _,h,i,λd a b g=>z ⟨d,a,b,g⟩⟩
noncomputable def cyc(f:L_)(c u:Nat):List Nat:=(List.range c).map λi=>it f i u
theorem Sk{c u s:Nat}:s∈cyc f c u ↔ ∃i,i<c/\it f i u=s:=by
 unfold cyc;rw[C8];exact⟨λ⟨i,a,b⟩=>⟨i,F1.mp a,b⟩,λ⟨i,a,b⟩=>⟨i,F1.mpr a,b⟩⟩
theorem Mn.apart{c u i j:Nat}(h:Mn f c u)(d:i<j)(g:j<c):it f i u≠it f j u:=λe=>by
 have a:it f (c-i) (it f i u)=u:=by
  rw[<-Cw,U0 A0];exact h.2.1
 have b:it f (c-i) (it f j u)=it f (j-i) u:=by
  rw[<-Cw,show c-i+j=(j-i)+c by lia,Cw,(h.2.1:it f c u=u)]
 rw[e,b]at a;exact h.2.2 (j-i) A0 A0 a
theorem Mn.nodup{c u:Nat}(h:Mn f c u):(cyc f c u).Nodup:=by
 unfold cyc;rw[F7,N4];refine A1f (λ{i j} b a lt=>h.apart lt (F1.mp a)) List.pairwise_lt_range
theorem WJ(c u:Nat):(cyc f c u).length=c:=by unfold cyc;rw[B6,F9]
theorem seven{l:J_}(nd:l.Nodup)(h:∀s∈l,1<=s/\s<=7):l.length<=7:=by
 have:=Sn (λ(x y:Nat)=>x=y) (λx c y e a=>e.trans a.symm) [1,2,3,4,5,6,7] l nd λs b=>⟨s,by have:=h s b;simp;lia,Z⟩
 exact this
theorem Mp.pos(h:Mp f){c u:Nat}(j:2<=c)(b:Mn f c u)(g:u<=7):∀s∈cyc f c u,1<=s/\s<=7:=λs d=>by
 obtain⟨i,k,rfl⟩:=Sk.mp d;refine⟨R1 λz=>?_,h.itl g i⟩;have e:u=0:=by
  have a:it f (c-i) (it f i u)=u:=by
   rw[<-Cw,U0 A0];exact b.2.1
  rw[z,h.it0]at a;exact a.symm
 subst e;exact b.2.2 1 A4 A0 (h.it0 1)
theorem Mp.round(h:Mp f){s:Nat}(n:s<=7):∃c,c<=7/\Mn f c (it f 7 s):=by
 have b:∃c,1<=c/\c<=7/\Per f c (it f 7 s):=by
  by_cases z:it f 7 s=0
  .exact⟨1,by decide,by decide,by rw[z];exact h.it0 1⟩
  .refine X6 λno=>?_;have ap:((List.range 8).map λi=>it f i s).Nodup:=by
    rw[F7,N4];refine A1f (λ{i j} a g lt e=>?_) List.pairwise_lt_range;have g:=F1.mp g;refine no ⟨j-i,by lia,by lia,?_⟩;show it f (j-i) (it f 7 s)=it f 7 s;rw[<-Cw,show j-i+7=(7-i)+j by lia,Cw,<-e,<-Cw,U0 A0]
   have:=seven ap λt o=>by
    obtain⟨i,a,rfl⟩:=C8.mp o;refine⟨R1 λq=>z ?_,h.itl n i⟩;have a:=F1.mp a;rw[show(7:Nat)=(7-i)+i by lia,Cw,q,h.it0]
   rw[B6,F9]at this;lia
 obtain⟨c,k,p,l⟩:=b;obtain⟨d,r,m⟩:=mn_ex k l;exact⟨d,by lia,m⟩
theorem Mn.mem{c u s:Nat}(h:Mn f c u)(m:s∈cyc f c u):Per f c s:=by
 obtain⟨i,_,rfl⟩:=Sk.mp m;exact h.2.1.at' i
theorem Mn.meet{c u d v s:Nat}(h:Mn f c u)(k:Mn f d v)(m:s∈cyc f c u)(n:s∈cyc f d v):Per f c v:=by
 obtain⟨j,b,e⟩:=Sk.mp n;have a:=h.mem m;have:v=it f (d-j) s:=by
  rw[<-e,<-Cw,U0 A0];exact k.2.1.symm
 rw[this];exact a.at' _
theorem Mp.two(h:Mp f){c u d v:Nat}(g:Mn f c u)(i:Mn f d v)(q:u<=7)(r:v<=7)(j:2<=c)(t:8<=c+d)(k:2<=d):Per f c v:=by
 refine X6 λno=>?_;have:=seven (l:=cyc f c u++cyc f d v) (by
  rw[O8];exact⟨g.nodup,i.nodup,λa n b o e=>no (g.meet i n (e▸o))⟩) λs p=>by
  rcases D8.mp p with m|m
  .exact h.pos j g q s m
  .exact h.pos k i r s m
 rw[C3,WJ,WJ]at this;lia
theorem Mp.period(h:Mp f):∃p,1<=p/\p<=12/\∀s,s<=7->Per f p (it f 7 s):=by
 by_cases z:∃s,s<=7/\∃c,(c=5\/c=7)/\Mn f c (it f 7 s)
 .obtain⟨s,m,c,l,b⟩:=z;have g:=h.itl m 7;refine⟨if c=5 then 10 else 7,by split<;>decide,by split<;>decide,λt a=>?_⟩;obtain⟨d,k,md⟩:=h.round a;have i:=h.itl a 7;have j:=md.1;rcases l with rfl|rfl
  .rw[Z7 rfl];rcases(show d=1\/d=2\/3<=d by lia)with rfl|rfl|d3
   .exact md.2.1.mul 10
   .exact md.2.1.mul 5
   .exact(h.two b md g i A4 A0 A0).mul 2
  .rw[Z4 A4];rcases(show d=1\/2<=d by lia)with rfl|d2
   .exact md.2.1.mul 7
   .exact h.two b md g i A4 A0 d2
 .refine⟨12,by decide,by decide,λt a=>?_⟩;obtain⟨d,k,md⟩:=h.round a;have j:=md.1;rcases(show d=1\/d=2\/d=3\/d=4\/d=6\/(d=5\/d=7) by lia)with rfl|rfl|rfl|rfl|rfl|e
  .exact md.2.1.mul 12
  .exact md.2.1.mul 6
  .exact md.2.1.mul 4
  .exact md.2.1.mul 3
  .exact md.2.1.mul 2
  .exact absurd ⟨t,a,d,e,md⟩ z
theorem Mp.few(h:Mp f)(k:Nat):∃a,a<19/\∀s,s<=7->it f k s=it f a s:=by
 by_cases z:k<7
 .exact⟨k,by lia,λ_ _=>Z⟩
 .obtain⟨p,d,g,b⟩:=h.period;have:=J1 (k-7) (show 0<p by lia);refine⟨(k-7)%p+7,by lia,λs c=>?_⟩;have e:k=(k-7)%p+(((k-7)/p)*p+7):=by
   have:=Nat.mod_add_div (k-7) p;rw[S1]at this;lia
  conv=>lhs;rw[e]
  rw[Cw,Cw,((b s c).mul _:it f _ _=_),Cw]
end
def Gl(r:AI)(f:L_)(dx dy:Int):Prop:=∀φ:Int->Int->Nat,(∀x y,φ x y<=7)->∀x y,sF r φ x y=f (φ (x+dx) (y+dy))
theorem TZ{r:AI}{f:L_}{dx dy:Int}(c:Mp f)(a:Gl r f dx dy){φ:D_}(h:∀x y,φ x y<=7):∀(k:Nat)(x y:Int),sFN r k φ x y=it f k (φ (x+k*dx) (y+k*dy))
|0,x,y=>by
 show φ x y=φ (x+(0:Nat)*dx) (y+(0:Nat)*dy);rw[show((0:Nat):Int)=0 from rfl,Int.zero_mul,Int.zero_mul,O0,O0]
|k+1,x,y=>by
 have b:=TZ c a h k;show sF r (sFN r k φ) x y=f (it f k _);rw[a _ (λu v=>by rw[b];exact c.itl (h _ _) k),b];have e:∀x dx:Int,x+dx+(k:Int)*dx=x+((k+1:Nat):Int)*dx:=λx dx=>by
  rw[N2,Int.add_mul];lia
 rw[e,e]
def Kd(f:L_)(φ:D_)(dx dy:Int)(S:J_):KTy:=λl e ψ=>l<47/\((∀x y,x<2^(l+2)->y<2^(l+2)->ψ x y=0)\/(e<=l/\∃t∈S,∃(k:Nat)(i j:Int),(e<l->k=t)/\∀x y,x<2^(l+2)->y<2^(l+2)->ψ x y=(it f k (φ ((x:Int)+2^l*i+t*dx) ((y:Int)+2^l*j+t*dy)):Nat)))
theorem kd_cl{r:AI}(E:MS r)(U:Du r 0 CT=0){f:L_}{φ:D_}{dx dy:Int}(w:Mp f)(K:Gl r f dx dy)(P:∀x y,φ x y<=7)(S:J_):ClK r (Kd f φ dx dy S):=by
 have A:∀l,2^(l+1)=2^l*2:=λl=>F6 ..;have D:∀l:Nat,(2:Int)^(l+1)=2^l*2:=λl=>R4 ..;have B:∀l,2^(l+2)=2^l*2*2:=λl=>by rw[F6,F6]
 have C:∀l,2^(l+1+2)=2^l*2*2*2:=λl=>by rw[F6,F6,F6]
 have nine:∀{l e g ψ},Kd f φ dx dy S (l+1) e ψ->g<=l->(g<l->e<l+1)->∀i j,i<3->j<3->Kd f φ dx dy S l g λx y=>ψ (x+2^(l+1)*i) (y+2^(l+1)*j):=λ{l e g ψ} h n T i j Q R=>by
  have I:2^(l+1)*i<=2^(l+1)*2:=N3 _ A0;have b2:2^(l+1)*j<=2^(l+1)*2:=N3 _ A0;have F:=A l;have G:=B l;have H:=C l;refine⟨by have:=h.1;lia,?_⟩;rcases h.2 with z|⟨_,t,o,k,a,m,d,z⟩
  .exact .inl λx y p s=>z _ _ A0 A0
  .refine .inr ⟨n,t,o,k,2*a+2*(i:Int),2*m+2*(j:Int),λq=>d (T q),λx y p s=>?_⟩;show ψ _ _=_;rw[z _ _ A0 A0];have b:∀(x i:Nat)(a:Int),((x+2^(l+1)*i:Nat):Int)+2^(l+1)*a=(x:Int)+2^l*(2*a+2*(i:Int)):=λx i a=>by
    rw[N2,N5,J7];show(x:Int)+2^(l+1)*(i:Int)+2^(l+1)*a=_;rw[D,U4,W9,W9];lia
   rw[b,b]
 refine⟨λ{l e φ} h n=>nine h n (λq=>by lia),λ{l φ} h=>nine h (C0 _) (λq=>by lia),λ{l ψ} h i j Q R=>?_⟩;have I:2^(l+1)*i<=2^(l+1)*1:=N3 _ A0;have b2:2^(l+1)*j<=2^(l+1)*1:=N3 _ A0;have F:=A l;have G:=B l;have H:=C l;refine⟨by have:=h.1;lia,?_⟩;rcases h.2 with z|⟨_,t,o,k,a,m,d,z⟩
 .refine .inl λx y p s=>?_;have:=OA E (c:=ψ) (φ:=λ_ _=>0) (X:=0) (Y:=0) (2^l) (x+(2^(l+1)*i+2^l)) (y+(2^(l+1)*j+2^l)) A0 A0 λu v L M N O=>z u v A0 A0;rw[JB U]at this;exact this
 .refine .inr ⟨C0 _,t,o,2^l+k,2*a+(2*(i:Int)+1)+dx,2*m+(2*(j:Int)+1)+dy,λq=>absurd q (O3 _),λx y p s=>?_⟩;have:=OA E (c:=ψ) (φ:=λu v=>it f k (φ (u+t*dx) (v+t*dy))) (X:=2^(l+1)*a) (Y:=2^(l+1)*m) (2^l) (x+(2^(l+1)*i+2^l)) (y+(2^(l+1)*j+2^l)) A0 A0 λu v L M N O=>z u v A0 A0;show Bp r (2^l) ψ _ _=_;rw[this,TZ w K (λu v=>w.itl (P _ _) k),<-Cw];have b:∀(x i:Nat)(a dx:Int),((x+(2^(l+1)*i+2^l):Nat):Int)+2^(l+1)*a+((2^l:Nat):Int)*dx=(x:Int)+2^l*(2*a+(2*(i:Int)+1)+dx):=λx i a dx=>by
   rw[N2,N2,N5,J7,J7];show(x:Int)+(2^(l+1)*(i:Int)+2^l)+2^(l+1)*a+2^l*dx=_;rw[D,U4,U4,U4,W9,W9,Int.mul_one];lia
  rw[b,b]
noncomputable def kw(W D l:Nat):Nat:=wl W 0 l*wl D 0 l
noncomputable def md(k W D e l:Nat):Nat:=1+k*((if e=l then 19 else if e<l then 1 else 0)*kw W D l)
noncomputable def nd(k W D:Nat):Nat:=s47 λe=>((List.range 47).map (md k W D e)).sum
noncomputable def NQ(f:L_)(φ:D_)(dx dy X Y:Int)(W D l t k:Nat):List (Nat×Sht):=(List.range (kw W D l)).map λd=>(l,λ(x y:Nat)=>((it f k (φ ((x:Int)+2^l*((X-t*dx-(0:Nat))/2^l-3+((d%wl W 0 l:Nat):Int))+t*dx) ((y:Int)+2^l*((Y-t*dy-(0:Nat))/2^l-3+((d/wl W 0 l:Nat):Int))+t*dy)):Nat):Int))
noncomputable def Ww(f:L_)(φ:D_)(dx dy X Y:Int)(W D:Nat)(S:J_)(e:Nat):List (Nat×Sht):=(List.range 47).flatMap λl=>(l,λ_ _=>0)::S.flatMap λt=>if e=l then(List.range 19).flatMap (NQ f φ dx dy X Y W D l t)else if e<l then NQ f φ dx dy X Y W D l t t else []
theorem QP(f:L_)(φ:D_)(dx dy X Y:Int)(W D l t k:Nat):(NQ f φ dx dy X Y W D l t k).length=kw W D l:=by unfold NQ;rw[B6,F9]
theorem YN(f:L_)(φ:D_)(dx dy X Y:Int)(W D:Nat)(S:J_)(e:Nat):(Ww f φ dx dy X Y W D S e).length<=((List.range 47).map (md S.length W D e)).sum:=by
 unfold Ww;refine Uc _ _ _ λl _=>?_;rw[F0];have:=Sx (λt=>if e=l then(List.range 19).flatMap (NQ f φ dx dy X Y W D l t)else if e<l then NQ f φ dx dy X Y W D l t t else []) ((if e=l then 19 else if e<l then 1 else 0)*kw W D l) S λt _=>by
  by_cases z:e=l
  .simp only[Z7 z];have:=Sx (NQ f φ dx dy X Y W D l t) (kw W D l) (List.range 19) λk _=>Nat.le_of_eq (QP ..);rw[F9]at this;exact this
  .simp only[Z4 z];by_cases y:e<l
   .simp only[Z7 y];rw[QP];lia
   .simp only[Z4 y];exact J0 _
 unfold md;lia
theorem kd_fin{f:L_}{φ:D_}{dx dy X Y:Int}{W D:Nat}(m:Mp f)(K:∀x y,φ x y<=7)(L:∀u v,φ u v≠0->X<=u/\u<X+W/\Y<=v/\v<Y+D)(S:J_):Ma (Kd f φ dx dy S) (nd S.length W D):=by
 refine⟨⟨_,C0 _,λe=>⟨Ww f φ dx dy X Y W D S e,YN f φ dx dy X Y W D S e,λl ψ h=>?_⟩⟩,λ{l e O ψ} h q=>⟨h.1,?_⟩⟩
 .obtain⟨s,c⟩:=h;have zero:(∀x y,x<2^(l+2)->y<2^(l+2)->ψ x y=0)->∃p,(l,p)∈Ww f φ dx dy X Y W D S e/\EqOn l ψ p:=λz=>⟨λ_ _=>0,Q9.mpr ⟨l,F1.mpr s,C2⟩,z⟩
  rcases c with c|⟨B,t,r,k,i,j,w,c⟩
  .exact zero c
  .by_cases z:∀x y,x<2^(l+2)->y<2^(l+2)->ψ x y=0
   .exact zero z
   .obtain⟨x,z⟩:=Classical.not_forall.mp z;obtain⟨y,z⟩:=Classical.not_forall.mp z;obtain⟨a,z⟩:=Classical.not_imp.mp z;obtain⟨b,z⟩:=Classical.not_imp.mp z;rw[c x y a b]at z;have z:φ ((x:Int)+2^l*i+t*dx) ((y:Int)+2^l*j+t*dy)≠0:=λq=>z (by rw[q,m.it0];rfl);obtain⟨P,Q,R,U⟩:=L _ _ z;obtain⟨n,C,G⟩:=Zk (T:=0) (t:=0) (W:=W) (i:=i) (X:=X-t*dx) (u:=(x:Int)+2^l*i) a (C0 _) A0 A0 A0 A0;obtain⟨g,N,H⟩:=Zk (T:=0) (t:=0) (W:=D) (i:=j) (X:=Y-t*dy) (u:=(y:Int)+2^l*j) b (C0 _) A0 A0 A0 A0;have M:0<wl W 0 l:=by unfold wl;lia
    have F:(n+wl W 0 l*g)%wl W 0 l=n:=by rw[Q0,P5 C]
    have E:(n+wl W 0 l*g)/wl W 0 l=g:=by rw[O4 _ _ M,N9 C,M8]
    have lt:n+wl W 0 l*g<kw W D l:=by
     have:wl W 0 l*(g+1)<=wl W 0 l*wl D 0 l:=N3 _ N;rw[Nat.mul_add]at this;unfold kw;lia
    have o:∀d,(l,λ(x y:Nat)=>((it f d (φ ((x:Int)+2^l*i+t*dx) ((y:Int)+2^l*j+t*dy)):Nat):Int))∈NQ f φ dx dy X Y W D l t d:=λd=>by
     refine C8.mpr ⟨n+wl W 0 l*g,F1.mpr lt,?_⟩;rw[F,E,<-G,<-H]
    by_cases q:e=l
    .obtain⟨d,A,I⟩:=m.few k;refine⟨λ(x y:Nat)=>((it f d (φ ((x:Int)+2^l*i+t*dx) ((y:Int)+2^l*j+t*dy)):Nat):Int),Q9.mpr ⟨l,F1.mpr s,C4 _ (Q9.mpr ⟨t,r,?_⟩)⟩,λx y a b=>?_⟩
     .rw[Z7 q];exact Q9.mpr ⟨d,F1.mpr A,o d⟩
     .rw[c x y a b,I _ (K _ _)]
    .have lt:e<l:=by lia
     have:=w lt;subst this;refine⟨λ(x y:Nat)=>((it f k (φ ((x:Int)+2^l*i+k*dx) ((y:Int)+2^l*j+k*dy)):Nat):Int),Q9.mpr ⟨l,F1.mpr s,C4 _ (Q9.mpr ⟨k,r,?_⟩)⟩,λx y a b=>?_⟩
     .rw[Z4 q,Z7 lt];exact o k
     .rw[c x y a b]
 .rcases h.2 with c|⟨B,t,r,k,i,j,w,c⟩
  .exact .inl λx y a b=>(q x y a b).symm.trans (c x y a b)
  .exact .inr ⟨B,t,r,k,i,j,w,λx y a b=>(q x y a b).symm.trans (c x y a b)⟩
noncomputable def sts(t k:Nat):List Nat:=((List.range 40).filter λj=>k/2^j%2==1).map λj=>k%2^j+t
theorem PY{r:AI}{f:L_}{φ:D_}{dx dy:Int}(v:Mp f)(g:Gl r f dx dy)(h:∀x y,φ x y<=7){S:J_}{t k:Nat}(c:k<2^40)(n:∀s∈sts t k,s∈S):QO (Kd f φ dx dy S) r (sFN r t φ) k:=λj l G w a m q ok u i=>by
 have b:j<40:=T1 λz=>by
  have:k/2^j=0:=N9 (F3 c (M7 A4 z));rw[this]at a;cases a
 refine⟨by lia,.inr ⟨m,k%2^j+t,n _ (C8.mpr ⟨j,R5.mpr ⟨F1.mpr b,by rw[a];rfl⟩,Z⟩),k%2^j+t,-2,-2,λ_=>Z,λx y o p=>?_⟩⟩;rw[Sw ok u o p,i,<-Ms,TZ v g h];have e:(2:Int)^(l+1)=2^l*2:=R4 ..;rw[e];have d:∀x:Nat,(x:Int)-2^l*2=(x:Int)+2^l * -2:=λx=>by lia
 rw[d,d]
seal L2.PA L2.PE L2.PS L2.PSs L2.PT L2.PW
noncomputable def plW(w:Nat)(k:Int):List (Option Int):=List.replicate w none++some k::List.replicate (7-w) none
noncomputable def glC(M:L_)(w k:Nat):Be:=if w=8 then⟨some (k:Int),[],(M k:Int)⟩else⟨none,[.pl (plW w (k:Int))],(M k:Int)⟩
noncomputable def glR(M:L_)(w:Nat):AI:=((List.range 7).map λi=>glC M w (i+1))++if w=8 then []else [⟨none,[],0⟩]
theorem ZY{w:Nat}(i:w<8)(k a b c d e f g h:Int):(BF.pl (plW w k)).holds [a,b,c,d,e,f,g,h]=decide (k=[a,b,c,d,e,f,g,h].getD w 0):=by
 match w,i with
 |0,_=>simp[BF.holds,plW,CJ]
 |1,_=>simp[BF.holds,plW,CJ]
 |2,_=>simp[BF.holds,plW,CJ]
 |3,_=>simp[BF.holds,plW,CJ]
 |4,_=>simp[BF.holds,plW,CJ]
 |5,_=>simp[BF.holds,plW,CJ]
 |6,_=>simp[BF.holds,plW,CJ]
 |7,_=>simp[BF.holds,plW,CJ]
theorem WE(M:L_)(p:Be->Bool)(C:Nat->Be)(d:∀k,(C k).makes=(M k:Int))(v:Nat)(b:∀k,1<=k->p (C k)=decide ((k:Int)=(v:Int)))(c:v<=7)(L:List Be):(v=0->(((List.range 7).map λi=>C (i+1))++L).find? p=L.find? p)/\(v≠0->(((List.range 7).map λi=>C (i+1))++L).find? p=some (C v)):=by
 have e:(((List.range 7).map λi=>C (i+1))++L)=C 1::C 2::C 3::C 4::C 5::C 6::C 7::L:=rfl;rw[e];have q:∀(k:Nat)(K:List Be),1<=k->(C k::K).find? p=if k=v then some (C k)else K.find? p:=λk K a=>by
  rw[O9,b k a];by_cases z:k=v
  .rw[Z7 z,Z5 (by rw[z])]
  .rw[Z4 z,Z8 (λy:(k:Int)=(v:Int)=>z (Z9 y))]
 rw[q 1 _ A4,q 2 _ A4,q 3 _ A4,q 4 _ A4,q 5 _ A4,q 6 _ A4,q 7 _ A4]
 match v,c with
 |0,_=>exact⟨λ_=>Z,λz=>absurd Z z⟩
 |1,_=>exact⟨λz=>(nomatch z),λ_=>Z⟩
 |2,_=>exact⟨λz=>(nomatch z),λ_=>Z⟩
 |3,_=>exact⟨λz=>(nomatch z),λ_=>Z⟩
 |4,_=>exact⟨λz=>(nomatch z),λ_=>Z⟩
 |5,_=>exact⟨λz=>(nomatch z),λ_=>Z⟩
 |6,_=>exact⟨λz=>(nomatch z),λ_=>Z⟩
 |7,_=>exact⟨λz=>(nomatch z),λ_=>Z⟩
theorem gl_bec{M:L_}(q:M 0=0){w:Nat}(p:w<8)(c a b d f g h i j:Int){v:Nat}(o:v<=7)(e:[a,b,d,f,g,h,i,j].getD w 0=(v:Int)):Du (glR M w) c [a,b,d,f,g,h,i,j]=(M v:Int):=by
 have l:w≠8:=by lia
 obtain⟨m,n⟩:=WE M (Be.fits c [a,b,d,f,g,h,i,j]) (glC M w) (λk=>by unfold glC;rw[Z4 l]) v (λk _=>by
  unfold glC;rw[Z4 l];show(true && ((BF.pl (plW w (k:Int))).holds [a,b,d,f,g,h,i,j] && true))=_;rw[ZY p,e,Bool.true_and,Bool.and_true]) o [⟨none,[],0⟩]
 unfold Du glR;rw[Z4 l];by_cases z:v=0
 .rw[m z,z,q];rfl
 .rw[n z];unfold glC;rw[Z4 l]
theorem WF{M:L_}(f:M 0=0){c:Nat}(e:c<=7)(a:I_):Du (glR M 8) (c:Int) a=(M c:Int):=by
 obtain⟨b,d⟩:=WE M (Be.fits (c:Int) a) (glC M 8) (λk=>Z) c (λk _=>by
  show(decide ((k:Int)=(c:Int)) && true)=_;rw[Bool.and_true]) e []
 unfold Du glR;rw[Z7 rfl];by_cases z:c=0
 .rw[b z,z,f];rfl
 .rw[d z];rfl
noncomputable def ofX:Nat->Int
|0=>-1|1=>0|2=>1|3=>-1|4=>1|5=>-1|6=>0|7=>1|_=>0
noncomputable def ofY:Nat->Int
|0=>-1|1=>-1|2=>-1|3=>0|4=>0|5=>1|6=>1|7=>1|_=>0
theorem gl_gl{M:L_}(c:M 0=0){w:Nat}(d:w<=8):Gl (glR M w) M (ofX w) (ofY w):=fun φ a x y=>by
 unfold sF;by_cases z:w=8
 .subst z;rw[WF c (a x y),F4];show M (φ x y)=M (φ (x+0) (y+0));rw[O0,O0]
 .have b:w<8:=by lia
  rw[gl_bec c b _ _ _ _ _ _ _ _ _ (v:=φ (x+ofX w) (y+ofY w)) (a _ _) ?_,F4]
  match w,b with
  |0,_=>rfl
  |1,_=>show((φ x (y-1):Nat):Int)=(φ (x+0) (y-1):Nat);rw[O0]
  |2,_=>rfl
  |3,_=>show((φ (x-1) y:Nat):Int)=(φ (x-1) (y+0):Nat);rw[O0]
  |4,_=>show((φ (x+1) y:Nat):Int)=(φ (x+1) (y+0):Nat);rw[O0]
  |5,_=>rfl
  |6,_=>show((φ x (y+1):Nat):Int)=(φ (x+0) (y+1):Nat);rw[O0]
  |7,_=>rfl
theorem WD{M:L_}(a:M 0=0){w:Nat}(d:w<=8):Du (glR M w) 0 CT=0:=by
 by_cases z:w=8
 .subst z;have:=WF a (c:=0) A4 CT;rw[a]at this;exact this
 .have b:w<8:=by lia
  have:=gl_bec a b 0 0 0 0 0 0 0 0 0 (v:=0) A4 (by
   match w,b with
   |0,_=>rfl
   |1,_=>rfl
   |2,_=>rfl
   |3,_=>rfl
   |4,_=>rfl
   |5,_=>rfl
   |6,_=>rfl
   |7,_=>rfl)
  rw[a]at this;exact this
theorem glC_ok{M:L_}(f:∀s,M s<=7){w k:Nat}(h:w<=8)(g:k<=7):(glC M w k).ok:=by
 have c:LE (k:Int):=⟨by lia,by lia⟩
 have e:LE (M k:Int):=⟨by lia,by have:=f k;lia⟩
 unfold glC;split
 .exact⟨c,e,J0 _,λd a=>nomatch a⟩
 .refine⟨True.intro,e,by show 1<=50;decide,λd a=>?_⟩;rw[D1.mp a];refine⟨by unfold plW;rw[C3,F0,N8,N8];lia,λv b=>?_⟩;unfold plW at b;rcases D8.mp b with q|q
  .rw[(List.mem_replicate.mp q).2];exact True.intro
  .rcases C1.mp q with q|q
   .rw[q];exact c
   .rw[(List.mem_replicate.mp q).2];exact True.intro
theorem Vm{M:L_}(g:∀s,M s<=7){w:Nat}(f:w<=8):MS (glR M w):=by
 refine⟨?_,λc a=>?_⟩
 .unfold glR;rw[C3,B6,F9];split<;>decide
 .unfold glR at a;rcases D8.mp a with q|q
  .obtain⟨i,e,rfl⟩:=C8.mp q;exact glC_ok g f (by have:=F1.mp e;lia)
  .split at q
   .cases q
   .rw[D1.mp q];exact⟨True.intro,⟨Q5 _,by show(0:Int)<8;decide⟩,J0 _,λd b=>nomatch b⟩
theorem Sz{d:Int}(a:0<=d)(b:d<=9):(Str.ofString (toString d)).length=1:=by rw[Tx.JU a b];rfl
theorem gt_8:∀k:Nat,k<8->∀m:Nat,m<8->(sgD (k:Int)++Str.ofString " ")++sgD (m:Int)=Bw ⟨some (k:Int),[],(m:Int)⟩:=by decide +kernel
theorem gt_w:∀w:Nat,w<8->∀k:Nat,k<8->∀m:Nat,m<8->(((Str.ofString "* " ++ ((UQ (Str.ofString "*") w++sgD (k:Int))++UQ (Str.ofString "*") (7-w)))++Str.ofString " ")++sgD (m:Int))=Bw ⟨none,[.pl (plW w (k:Int))],(m:Int)⟩:=by decide +kernel
theorem gt_0:Str.ofString "* 0" = Bw ⟨none,[],0⟩:=by decide +kernel
section
variable{P:N_}{w:Q_}{K:O_}{mg:C_}{base:T_}{a:Ad}
inductive SpMapB(K:O_)(vs:List V)(H:Hp)(Q:VK):Prop
|mk (l:R_) (ns:I_) (fi:Int) (_:vs=[.ref l,.int fi]) (_:SqL K H l (ns.map V.int)) (_:0<=fi) (_:∀(L:R_)(M:L_)(H':Hp),Ay H H'->M 0=0->(∀s,M s<=7)->H' L=some (.lst ((List.range 8).map λi=>V.int (M i:Int)))->Q (.ref L) H'):SpMapB K vs H Q
def UD(K:O_):Sp:=λvs H Q _=>SpMapB K vs H Q
theorem ok_mapb(F:Fun K "_law_map_by" "_law_map_by" ER f fd)(T:Top K mg a)(v:Cal P w K mg base CX0 1 "_law_at" YI (Yi K)):AN P w K mg base CX0 2 f fd LC (UD K):=by
 refine F.ok OZ D_9 λx A g s H vs Q E D h=>?_
 obtain⟨l,ns,d,rfl,B,O,k⟩:=h;refine⟨_,(Af (Au (AA op_cat (CL (AF Ac)) (Ck Z (BK.of (So:=Aj ER) (No:=LC) (N:=["_law_state","_law_script","_law_first"]) (k:=1) (cs:=[0,1]) Z Z A1) (Nl Z T.b_range (AF (AF Ac))) (λ_ _ _=>(Bj (i:=0) A1 Z Z)) (λ_ _ _=>BP) (λ_ _ _=>(AA Bz (AA AZ (pv 0) (Aq v (rm D) Z Am (Aa (pv 1) (Br Bm (AA AZ (pv 2) (pv 0)) Ae Ac)))) Ae)))))),?_⟩
 try dsimp only[cxK]
 refine⟨S_1,λz G=>?_⟩;have m:=AK (o:=.lst [.int 0]) G;have r:upd H z (.lst [.int 0]) z=some (.lst [.int 0]):=Ag;generalize upd H z (.lst [.int 0])=u at m r⊢;generalize e:(λs:Nat=>if s=0 then 0 else(((s:Int)+atN ns (d+(s:Int)-1))%8).toNat)=M;refine⟨1,8,Z,⟨by decide,by decide,by decide,by decide⟩,?_⟩;refine NM (n:=7) (λi b c=>c=u/\b=(List.range i).map λj=>V.int (M (j+1):Int)) ⟨Z,Z⟩ ?_ ?_
 .rintro i b c R ⟨rfl,rfl⟩;refine⟨⟨[some (.int (1+(i:Int)))],Z,Z⟩,by rw[B6,F9];exact Dv A0,GO (xq1 Z (xq1 Z (xq1 Z (xq1 Z (xq2 Z Z (xq2 Z Z ⟨l,ns,_,Z,m.seq B,by show 0<=d+(1+(i:Int))-1;lia,_,_,Z,Z,_,_,Z,Z,(by show(0:Int)<8;decide),Z,?_⟩))))))⟩;rw[M5,C6,<-e];congr 1;show [V.int ((1+(i:Int)+atN ns (d+(1+(i:Int))-1))%8)]=[V.int (((((i+1:Nat):Int)+atN ns (d+((i+1:Nat):Int)-1))%8).toNat:Int)]
  rw[show((i+1:Nat):Int)=1+(i:Int) by lia,O1 (N6 _ A4)]
 .rintro b c ⟨rfl,rfl⟩ L y;have p:=AK (o:=.lst ((List.range 7).map λj=>V.int (M (j+1):Int))) y;have t:upd c L (.lst ((List.range 7).map λj=>V.int (M (j+1):Int))) L=some (.lst ((List.range 7).map λj=>V.int (M (j+1):Int))):=Ag;generalize upd c L (.lst ((List.range 7).map λj=>V.int (M (j+1):Int)))=I at p t⊢;refine⟨z,L,(xq2 Z Z ⟨p _ _ r,t,by show 1+7<=sizeLine;decide,λq C=>?_⟩)⟩;refine k q M _ ((m.trans p).trans (AK C)) (by rw[<-e];rfl) (λs=>?_) ?_
  .rw[<-e];dsimp only;split
   .decide
   .have:=M0 ((s:Int)+atN ns (d+(s:Int)-1)) (by decide:(0:Int)<8);lia
  .rw[Ag,<-e];rfl
inductive SpGtx(vs:List V)(H:Hp)(Q:VK):Prop
|mk (L:R_) (M:L_) (w:Nat) (_:vs=[.ref L,.int (w:Int)]) (_:w<=8) (_:∀s,M s<=7) (_:H L=some (.lst ((List.range 8).map λi=>V.int (M i:Int)))) (_:∀H':Hp,Ay H H'->Q (.str (DS (glR M w))) H'):SpGtx vs H Q
def VX:Sp:=λvs H Q _=>SpGtx vs H Q
theorem ok_gtx(F:Fun K "_law_glide_text" "_law_glide_text" Ei f fd)(T:Top K mg a):AN P w K mg base CX0 1 f fd CP VX:=by
 refine F.ok Ct D_9 λaa A X s H vs Q E hr h=>?_
 obtain⟨L,M,w,rfl,Y,U,hL,k⟩:=h;refine⟨_,(Ab (Ao (i:=2) Ct.nd Z O_9 (CL Ac)) (Ab (CK X8 Z (Nl Z T.b_range (AF (AF Ac))) (Bv (i:=3) Ct.nd Z O_9) (Af (AQ (Az De (pv 1) Ae (AD _)) (Af (BC (Fe K2 K3 K4 Cc (pv 2) (Br DO (AA DO (BG FE Z T.b_str A1c (Aa (pv 3) Ac)) IV) (BG FE Z T.b_str A1c (Aa (Ai Aw (pv 0) (pv 3) R_9) Ac)) Ac)))) (Ab (Ao (i:=4) Ct.nd Z O_9 (AA DO (AA DO (AA Wo IV (pv 1)) (BG FE Z T.b_str A1c (Aa (pv 3) Ac))) (AA Wo IV (AA Bm Ae (pv 1))))) (Af (BC (Fe K2 K3 K4 Cc (pv 2) (Br DO (AA DO (AA DO IV (pv 4)) IV) (BG FE Z T.b_str A1c (Aa (Ai Aw (pv 0) (pv 3) R_9) Ac)) Ac)))))))) (Ab (AQ (Az GN (pv 1) Ae (AD _)) (Af (BC (Fe K2 K3 K4 Cc (pv 2) (UR Ac)))) Ax) (Af (Au (Fe A3f PySem.F.slot_str_join PySem.F.type_str_join mt_join IV (Aa (pv 2) Ac))))))),?_⟩
 try dsimp only[cxK]
 refine⟨S_0,λS B=>?_⟩;have s1:=AK (o:=.lst []) B;have h1:upd H S (.lst []) S=some (.lst []):=Ag;generalize upd H S (.lst [])=H1 at s1 h1⊢;refine⟨1,8,Z,⟨by decide,by decide,by decide,by decide⟩,?_⟩;refine EK (n:=7) (λi σ x=>∃C D:Option V,σ=[some (.ref L),some (.int (w:Int)),some (.ref S),C,D]/\Ay H x/\x S=some (.lst ((List.range i).map λj=>V.str (Bw (glC M w (j+1)))))) ⟨none,none,Z,s1,h1⟩ ?_ ?_
 .rintro i σ x hi ⟨C,D,rfl,r,l⟩;refine xq1 Z ⟨Z,(xq1 Z (GD (λd=>?_) (λd=>?_)))⟩
  .have Y:w=8:=by
    have:=X7 d;injection this with this
    lia
   subst Y;have mi:=U (i+1);have m:(Str.ofString (toString (1+(i:Int)))).length=1:=Sz A0 A0;have O:(Str.ofString (toString (M (i+1):Int))).length=1:=Sz A0 A0;have v:(Str.ofString " ").length=1:=by decide
   have N:atI ((List.range 8).map λi=>V.int (M i:Int)) (1+(i:Int))=some (.int (M (i+1):Int)):=by
    rw[show 1+(i:Int)=((i+1:Nat):Int) by lia];exact Ah (by rw[B8,N7 A0];rfl)
   refine xq1 Z ⟨.inl ⟨Z,_,SqL.of l⟩,(xq1 Z ⟨1+(i:Int),Z,La A0 A0,(xq2 Z Z ⟨Jg (by rw[m,v];decide),(xwj Z Z Z Z (SqL.of (r _ _ hL)) N ⟨(M (i+1):Int),Z,La A0 A0,(xq2 Z Z ⟨Jg (by rw[A0f,m,O,v];decide),S,(xq2 Z Z ⟨l,by rw[B6,F9];exact Dv A0,?_⟩)⟩)⟩)⟩)⟩)⟩;refine⟨_,_,Z,λb o e=>?_,?_⟩
   .rw[As (Av e B)];exact r _ _ e
   .rw[Ag,M5,C6];congr 3;have e:=gt_8 (i+1) A0 (M (i+1)) A0;rw[show((i+1:Nat):Int)=1+(i:Int) by lia]at e;have G:glC M 8 (i+1)=⟨some (1+(i:Int)),[],(M (i+1):Int)⟩:=by
     unfold glC;rw[Z7 rfl,show((i+1:Nat):Int)=1+(i:Int) by lia]
    show [V.str _]=[V.str (Bw (glC M 8 (i+1)))]
    rw[G,Tx.JU (show 0<=1+(i:Int) by lia) A0,Tx.JU (show 0<=(M (i+1):Int) by lia) A0];exact K0 (λz=>[V.str z]) e
  .have W:w≠8:=λz=>d (Z5 (by rw[z];rfl));have h8:w<8:=by lia
   have mi:=U (i+1);have m:(Str.ofString (toString (1+(i:Int)))).length=1:=Sz A0 A0;have O:(Str.ofString (toString (M (i+1):Int))).length=1:=Sz A0 A0;have v:(Str.ofString " ").length=1:=by decide
   have R:(Str.ofString "*").length=1:=by decide
   have q:(Str.ofString "* ").length=2:=by decide
   have g:=λk=>Tn R k;have N:atI ((List.range 8).map λi=>V.int (M i:Int)) (1+(i:Int))=some (.int (M (i+1):Int)):=by
    rw[show 1+(i:Int)=((i+1:Nat):Int) by lia];exact Ah (by rw[B8,N7 A0];rfl)
   refine xq1 Z ⟨_,w,Z,Z,R,by lia,(xq1 Z ⟨1+(i:Int),Z,La A0 A0,(xq2 Z Z ⟨Jg (by rw[m,g];lia),(xwb Z Z Z ⟨_,7-w,Z,K0 V.int A0,R,by lia,(xq2 Z Z ⟨Jg (by rw[A0f,m,g,g];lia),?_⟩)⟩)⟩)⟩)⟩;refine xq1 Z ⟨.inl ⟨Z,_,SqL.of l⟩,(xwb Z Z Z ⟨Jg (by rw[A0f,A0f,m,g,g,q];lia),(xq2 Z Z ⟨Jg (by rw[A0f,A0f,A0f,m,g,g,q,v];lia),(xwj Z Z Z Z (SqL.of (r _ _ hL)) N ⟨(M (i+1):Int),Z,La A0 A0,(xq2 Z Z ⟨Jg (by rw[A0f,A0f,A0f,A0f,m,O,g,g,q,v];lia),S,(xq2 Z Z ⟨l,by rw[B6,F9];exact Dv A0,?_⟩)⟩)⟩)⟩)⟩)⟩;refine⟨_,_,Z,λb o e=>?_,?_⟩
   .rw[As (Av e B)];exact r _ _ e
   .rw[Ag,M5,C6];congr 3;have e:=gt_w w h8 (i+1) A0 (M (i+1)) A0;rw[show((i+1:Nat):Int)=1+(i:Int) by lia]at e;have G:glC M w (i+1)=⟨none,[.pl (plW w (1+(i:Int)))],(M (i+1):Int)⟩:=by
     unfold glC;rw[Z4 W,show((i+1:Nat):Int)=1+(i:Int) by lia]
    show [V.str _]=[V.str (Bw (glC M w (i+1)))]
    rw[G,Tx.JU (show 0<=1+(i:Int) by lia) A0,Tx.JU (show 0<=(M (i+1):Int) by lia) A0];exact K0 (λz=>[V.str z]) e
 .rintro σ x ⟨C,D,rfl,r,l⟩;have ok:=Vm U Y;dsimp only;refine Bf ?_;intro r9 s9 k9 I E9;apply MG (T:=k9) (fun σ y=>σ=[some (.ref L),some (.int (w:Int)),some (.ref S),C,D]/\Ay H y/\y S=some (.lst (((glR M w).map Bw).map V.str)))
  .intro p;refine xwb Z Z Z (xq1 Z (GD (λd=>?_) (λd=>?_)))
   .have W:w≠8:=by
     have:=X7 d;lia
    refine xq1 Z ⟨.inl ⟨Z,_,SqL.of l⟩,S,(xq2 Z Z ⟨l,by rw[B6,F9];decide,?_⟩)⟩;refine p _ _ ⟨Z,λb o e=>?_,?_⟩
    .rw[As (Av e B)];exact r _ _ e
    .rw[Ag];unfold glR;rw[Z4 W,C6,C6,L9,L9,gt_0];rfl
   .have e8:w=8:=by
     have:¬(w:Int)<8:=λz=>d (Z5 z);lia
    refine p _ _ ⟨Z,r,?_⟩;rw[l];unfold glR;rw[Z7 e8,P0,L9,L9];rfl
  .rintro σ y ⟨rfl,s4,h4⟩;refine I ?_;have em:Str.ofString "; " = Rb:=by decide +kernel
   have u:JoinOk (Str.ofString "; ") ((glR M w).map Bw)=true:=by
    refine Tx.join_ok 1000 (λt ht=>?_) ?_
    .obtain⟨c,d,rfl⟩:=C8.mp ht;exact LY (ok.ok c d)
    .rw[B6,em,show Rb.length=2 from rfl];have:=ok.few;lia
   refine⟨Z,(xq1 Z ⟨_,S,(xq1 Z ⟨Z,SqL.of h4,u,?_⟩)⟩)⟩;rw[em];exact k y s4
end
noncomputable def tbl(M:L_):List V:=(List.range 8).map λi=>V.int (M i:Int)
theorem MV{M:L_}{s:Nat}(h:s<=7):atI (tbl M) (s:Int)=some (.int (M s:Int)):=Ah (by unfold tbl;rw[B8,N7 A0];rfl)
theorem tbl_len(M:L_):(tbl M).length=8:=by unfold tbl;rw[B6,F9]
theorem tbl_el{M:L_}{i:Nat}{v:V}(h:(tbl M)[i]?=some v):v=.int (M i:Int)/\i<8:=by
 unfold tbl at h;rw[B8]at h;obtain⟨j,e,rfl⟩:=D6.mp h;obtain⟨l,rfl⟩:=B7.mp e;rw[List.getElem_range];rw[F9]at l;exact⟨Z,l⟩
section
variable{P:N_}{w:Q_}{K:O_}{mg:C_}{base:T_}{a:Ad}
inductive SpOff(vs:List V)(H:Hp)(Q:VK):Prop
|mk (n:Nat) (_:vs=[.int (n:Int)]) (_:n<=8) (_:∀(t:R_)(H':Hp),Ay H H'->H' t=some (.tup [.int (ofX n),.int (ofY n)])->Q (.ref t) H'):SpOff vs H Q
def VS:Sp:=λvs H Q _=>SpOff vs H Q
theorem ok_off(F:Fun K "_law_offset" "_law_offset" GW f fd)(T:Top K mg a):AN P w K mg base CX0 1 f fd EV VS:=by
 refine F.ok Jv D_9 λaa A g s H vs Q E hr h=>?_
 apply AO;intro N d;obtain⟨n,rfl,e,k⟩:=h;apply d;clear d N;refine⟨_,(Ab (Ao (i:=1) Jv.nd Z O_9 (CL (AV (Aa (Fd CU Ae) (Aa (Fd CU Ae) Ac)) (AV (AF (Aa (Fd CU Ae) Ac)) (AV (AF (Aa (Fd CU Ae) Ac)) (AV (Aa (Fd CU Ae) (AF Ac)) (AV (AF (AF Ac)) (AV (Aa (Fd CU Ae) (AF Ac)) (AV (AF (AF Ac)) (AV (AF (AF Ac)) (AV (AF (AF Ac)) Ac))))))))))) (Af (Au (Ai Aw (pv 1) (pv 0) R_9)))),?_⟩
 try dsimp only[cxK]
 refine xw2 Z Z ⟨S_2,λj n0=>?_⟩;generalize e0:upd H j _=O;obtain⟨s0,h0⟩:=alc n0 e0;refine xq1 Z ⟨S_2,λl n1=>?_⟩;generalize e1:upd O l _=R;obtain⟨s1,h1⟩:=alc n1 e1;refine xq1 Z ⟨S_2,λm n2=>?_⟩;generalize e2:upd R m _=S;obtain⟨s2,h2⟩:=alc n2 e2;refine xq1 Z ⟨S_2,λo n3=>?_⟩;generalize e3:upd S o _=U;obtain⟨s3,h3⟩:=alc n3 e3;refine⟨S_2,λp n4=>?_⟩;generalize e4:upd U p _=V;obtain⟨s4,h4⟩:=alc n4 e4;refine xq1 Z ⟨S_2,λq n5=>?_⟩;generalize e5:upd V q _=W;obtain⟨s5,h5⟩:=alc n5 e5;refine⟨S_2,λr n6=>?_⟩;generalize e6:upd W r _=X;obtain⟨s6,h6⟩:=alc n6 e6;refine⟨S_2,λt n7=>?_⟩;generalize e7:upd X t _=Y;obtain⟨s7,h7⟩:=alc n7 e7;refine⟨S_2,λu e=>?_⟩;generalize e8:upd Y u _=H8;obtain⟨s8,h8⟩:=alc e e8;refine⟨(by show 9<=sizeLine;decide),λL nL=>?_⟩;generalize e9:upd H8 L _=b;obtain⟨s9,c⟩:=alc nL e9;have M:=s9;have I:=s8.trans M;have G:=s7.trans I;have D:=s6.trans G;have C:=s5.trans D;have B:=s4.trans C;have y:=s3.trans B;have x:=s2.trans y;have v:=s1.trans x;have z:=s0.trans v
 match n,e with
 |0,_=>exact⟨_,Z,_,Z,L,_,_,.ref j,Z,Z,SqL.of c,Z,k j b z (v _ _ h0)⟩
 |1,_=>exact⟨_,Z,_,Z,L,_,_,.ref l,Z,Z,SqL.of c,Z,k l b z (x _ _ h1)⟩
 |2,_=>exact⟨_,Z,_,Z,L,_,_,.ref m,Z,Z,SqL.of c,Z,k m b z (y _ _ h2)⟩
 |3,_=>exact⟨_,Z,_,Z,L,_,_,.ref o,Z,Z,SqL.of c,Z,k o b z (B _ _ h3)⟩
 |4,_=>exact⟨_,Z,_,Z,L,_,_,.ref p,Z,Z,SqL.of c,Z,k p b z (C _ _ h4)⟩
 |5,_=>exact⟨_,Z,_,Z,L,_,_,.ref q,Z,Z,SqL.of c,Z,k q b z (D _ _ h5)⟩
 |6,_=>exact⟨_,Z,_,Z,L,_,_,.ref r,Z,Z,SqL.of c,Z,k r b z (G _ _ h6)⟩
 |7,_=>exact⟨_,Z,_,Z,L,_,_,.ref t,Z,Z,SqL.of c,Z,k t b z (I _ _ h7)⟩
 |8,_=>exact⟨_,Z,_,Z,L,_,_,.ref u,Z,Z,SqL.of c,Z,k u b z (M _ _ h8)⟩
inductive SpMpd(vs:List V)(H:Hp)(Q:VK):Prop
|mk (L:R_) (M:L_) (n:Nat) (_:vs=[.ref L,.int (n:Int)]) (_:∀s,M s<=7) (_:H L=some (.lst (tbl M))) (_:∀(L':R_)(H':Hp),Ay H H'->H' L'=some (.lst (tbl (it M n)))->Q (.ref L') H'):SpMpd vs H Q
def VT:Sp:=λvs H Q _=>SpMpd vs H Q
theorem ok_mpd(F:Fun K "_law_mapped" "_law_mapped" Dz f fd)(T:Top K mg a):AN P w K mg base CX0 1 f fd EW VT:=by
 refine F.ok CV (λvs H Q E h=>?_) (λaa A O s H vs Q E hr h=>?_)
 .apply AO;intro m b;obtain⟨L,M,n,rfl,_⟩:=h;apply b;clear b m;rfl
 .apply AO;intro m b;obtain⟨L,M,n,rfl,m7,hL,k⟩:=h;apply b;clear b m;refine⟨_,(Ab (Ao (i:=2) CV.nd Z O_9 (CL (AF (AF (AF (AF (AF (AF (AF (AF Ac)))))))))) (Ab (IA X8 (Az NU (pv 1) Ae (AD _)) (Ab (AQ (Az De (AA Bz (pv 1) Ae) Ae (AD _)) (Af (Ge (i:=2) Z CV.nd Z Z (BK.of (So:=Aj Dz) (No:=Iq) (N:=["_law_state","_law_made"]) (k:=1) (cs:=[0]) Z Z A1) (CO (pv 2)) (λ_ _ _=>(Bj (i:=0) A1 Z Z)) (λ_ _ _=>BP) (λ_ _ _=>(Ai (MK (K:=K) Z) (pv 1) (pv 0) R_9)))) Ax) (Ab (Ao (i:=0) CV.nd Z (Or.inr Z) (Ck Z (BK.of (So:=Aj Dz) (No:=Iq) (N:=["_law_state","_law_made"]) (k:=1) (cs:=[0]) Z Z A1) (EF Z T.b_range (AF Ac)) (λ_ _ _=>(Bj (i:=0) A1 Z Z)) (λ_ _ _=>BP) (λ_ _ _=>(Ai (MK (K:=K) Z) (pv 1) (Ai (MK (K:=K) Z) (pv 1) (pv 0) R_9) R_9)))) (Af (Ao (i:=1) CV.nd Z O_9 (AA CQ (pv 1) Ae)))))) (Af (Au (pv 2))))),?_⟩
  try dsimp only[cxK]
  have i7:∀j s,s<=7->it M j s<=7:=λj s hs=>by
   cases j with
   |zero=>exact hs
   |succ j=>exact m7 _
  refine⟨(by show 8<=sizeLine;decide),λD nD=>?_⟩;generalize e1:upd H D _=H1;obtain⟨R,h1⟩:=alc nD e1;refine⟨fun μ σ p=>∃(j:Nat)(A B:R_),σ=[some (.ref A),some (.int ((n/2^j:Nat):Int)),some (.ref B)]/\μ=n/2^j/\Ay H p/\p A=some (.lst (tbl (it M (2^j))))/\p B=some (.lst (tbl (it M (n%2^j)))),⟨n,0,L,D,by rw[S6,Nat.div_one];rfl,by rw[S6,Nat.div_one],R,R _ _ hL,by rw[S6,Nat.mod_one];exact h1⟩,?_⟩;rintro μ σ p W;apply AO;intro m b;obtain⟨j,A,B,rfl,rfl,S,y,u⟩:=W;apply b;clear b m;refine xwb Z Z Z (xq1 Z (GD (λo=>?_) (λo=>?_)))
  .have np:0<n/2^j:=by have:=X7 o;lia
   have X:n/2^(j+1)=n/2^j/2:=by rw[F6,V7]
   have md:n%2^(j+1)=n%2^j+2^j*(n/2^j%2):=Nat.mod_pow_succ;refine⟨fun σ' d=>∃(A B:R_),σ'=[some (.ref A),some (.int ((n/2^(j+1):Nat):Int)),some (.ref B)]/\Ay H d/\d A=some (.lst (tbl (it M (2^(j+1)))))/\d B=some (.lst (tbl (it M (n%2^(j+1))))),fun σ' d ⟨q,g,e,z⟩=>⟨n/2^(j+1),by rw[X];lia,j+1,q,g,e,Z,z⟩,?_⟩;refine Bf ?_;intro r1 R k1 G E1;apply MG (T:=k1) (fun σ' d=>∃(g:R_),σ'=[some (.ref A),some (.int ((n/2^j:Nat):Int)),some (.ref g)]/\Ay H d/\d A=some (.lst (tbl (it M (2^j))))/\d g=some (.lst (tbl (it M (n%2^(j+1))))))
   .intro l;refine xwb Z Z Z ⟨B1,Z,(xq1 Z (GD (λo=>?_) (λo=>?_)))⟩
    .have od:n/2^j%2=1:=by
      have:=X7 o;injection this with this
      lia
     have ia:∀s,it M (2^j) (it M (n%2^j) s)=it M (n%2^(j+1)) s:=λs=>by rw[md,od,W4,V8,Cw]
     refine xq1 Z ⟨B,Z,⟨_,SqL.of u⟩,?_⟩;refine Et (xs:=tbl (it M (n%2^j))) (λi c d=>d=p/\c=(List.range i).map λi=>V.int (it M (n%2^(j+1)) i:Int)) ⟨Z,Z⟩ (λi c d _ h=>by rw[h.1];exact SqL.of u) ?_ ?_
     .rintro i x c d hx ⟨rfl,rfl⟩;obtain⟨rfl,i8⟩:=tbl_el hx;refine⟨⟨[some (.int (it M (n%2^j) i:Int))],Z,Z⟩,by rw[B6,F9];exact Dv A0,GO (xwj Z Z Z Z (SqL.of y) (MV (i7 _ _ A0)) ⟨Z,?_⟩)⟩;rw[ia,M5,C6];rfl
     .rintro c d ⟨rfl,rfl⟩ g nB;generalize v:upd d g _=r;obtain⟨s5,Y⟩:=alc nB v;rw[tbl_len]at Y;exact l _ _ ⟨g,Z,S.trans s5,s5 _ _ y,Y⟩
    .have ev:n/2^j%2=0:=by
      have:¬((n/2^j:Nat):Int)%2=1:=λz=>o (Z5 (K0 V.int z));lia
     exact l _ _ ⟨B,Z,S,y,by rw[md,ev,T7,Nat.add_zero];exact u⟩
   .rintro σ' d U;apply AO;intro m b;obtain⟨g,rfl,s4,t,C⟩:=U;apply b;clear b m;refine G ?_;refine Bf ?_;intro r2 s2 k2 I E2;refine xq1 Z ⟨by decide,by decide,?_⟩;refine NM (n:=8) (λi c r=>r=d/\c=(List.range i).map λi=>V.int (it M (2^(j+1)) i:Int)) ⟨Z,Z⟩ ?_ ?_
    .rintro i c r i8 ⟨rfl,rfl⟩;have ei:(0:Int)+(i:Int)=(i:Int):=T9 _;rw[ei];refine⟨⟨[some (.int (i:Int))],Z,Z⟩,by rw[B6,F9];exact Dv A0,GO (xw3 Z Z Z (xq4 Z Z (SqL.of t) (MV A0) (xq4 Z Z (SqL.of t) (MV (i7 _ _ A0)) ⟨Z,?_⟩)))⟩;rw[<-Cw,<-Nat.two_mul,show 2*2^j=2^(j+1) by rw[F6,S1],M5,C6];rfl
    .rintro c r ⟨rfl,rfl⟩ q nA;generalize v:upd r q _=H6;obtain⟨s6,h6⟩:=alc nA v;refine I ?_;refine xwb Z Z Z ⟨⟨by decide,by decide⟩,q,g,?_,s4.trans s6,h6,s6 _ _ C⟩;rw[X];exact K0 (λz:Int=>[some (V.ref q),some (V.int z),some (V.ref g)]) (show((n/2^j:Nat):Int)/2=((n/2^j/2:Nat):Int) by lia)
  .have z:n/2^j=0:=by
    have:¬(0:Int)<((n/2^j:Nat):Int):=λz=>o (Z5 z);lia
   have e:n%2^j=n:=by
    have:=M9 n (2^j);rw[z,T7,M8]at this;exact this
   rw[e]at u;exact xq1 Z (k B p S u)
theorem kit_ll(K:O_):kitOne K (.type "list") (.type "list")=some true:=by kernel_rfl
theorem kit_tt(K:O_):kitOne K (.type "tuple") (.type "tuple")=some true:=by kernel_rfl
inductive SpRt(vs:List V)(H:Hp)(Q:VK):Prop
|mk (L M:R_) (ts us:H_) (es:List Cl) (_:vs=[.ref L,.ref M]) (_:H L=some (.lst (ts.map V.ref))) (_:H M=some (.lst (us.map V.ref))) (_:Paired (MU H) ts es) (_:Paired (MU H) us es) (_:es.length<=100) (_:Q (.bl true) H):SpRt vs H Q
def spRt:Sp:=λvs H Q _=>SpRt vs H Q
theorem ok_rt(F:Fun K "_law_right" "_law_right" IO f fd)(T:Top K mg a):AN P w K mg base CX0 1 f fd Jb spRt:=by
 refine F.ok GS (λvs H Q E h=>?_) (λX A G s H vs Q E hr h=>?_)
 .apply AO;intro d b;obtain⟨L,M,W,us,q,rfl,_⟩:=h;apply b;clear b d;rfl
 .apply AO;intro d b;obtain⟨L,M,W,us,q,rfl,j,r,pt,U,l1,k⟩:=h;apply b;clear b d;refine⟨_,(Ab (AQ (PW.pt (Gd (BU (BI (AJ CC Z T.b_isinstance X9 (Aa (pv 0) (Aa (DE (v:=.ty "list") Z T.b_list PyProof.Rows.boot_list Z) Ac))))) (El (Az JK (AJ BD Z T.b_len K8 (Aa (pv 0) Ac)) (AJ BD Z T.b_len K8 (Aa (pv 1) Ac)) (AD _))))) (Af (Au IB)) Ax) (Ab (CK X8 Z (EF Z T.b_range (Aa (AJ BD Z T.b_len K8 (Aa (pv 1) Ac)) Ac)) (Bv (i:=2) GS.nd Z O_9) (Ab (AQ (PW.pt (Gd (BU (BI (AJ CC Z T.b_isinstance X9 (Aa (Ai Aw (pv 0) (pv 2) R_9) (Aa (DE (v:=.ty "tuple") Z T.b_tuple K7 Z) Ac))))) (Gd (Az JK (AJ BD Z T.b_len K8 (Aa (Ai Aw (pv 0) (pv 2) R_9) Ac)) Ae (AD _)) (El (Az (Yp hr.units) (Ai Aw (pv 0) (pv 2) R_9) (Ai Aw (pv 1) (pv 2) R_9) (AD _)))))) (Af (Au IB)) Ax) (Af (CK X8 Z (Po (Ai Aw (pv 0) (pv 2) R_9)) (Bv (i:=3) GS.nd Z O_9) (Af (AQ (PW.pt (Gd (BU (BI (AJ CC Z T.b_isinstance X9 (Aa (pv 3) (Aa (DE (v:=.ty "int") Z T.b_int A0d Z) Ac))))) (El (BI (AJ CC Z T.b_isinstance X9 (Aa (pv 3) (Aa (DE (v:=.ty "bool") Z T.b_bool A3g Z) Ac))))))) (Af (Au IB)) Ax)))))) (Af (Au IB)))),?_⟩
  try dsimp only[cxK]
  have lt:=K5 pt;have S:=K5 U;refine xq1 Z ⟨_,_,_,.type "list",true,Z,Z,.of (.lst j),kit_ll K,true,Z,AX (xq1 Z ⟨L,(xq1 Z ⟨.inl (SqL.of j),(xq1 Z ⟨M,(xq1 Z ⟨.inl (SqL.of r),Z,(xq1 Z ?_)⟩)⟩)⟩)⟩)⟩;rw[B6,B6,lt,S];refine PZ Z (xq1 Z ⟨M,(xq1 Z ⟨.inl (SqL.of r),(xq1 Z ⟨by rw[B6];lia,by rw[B6];lia,?_⟩)⟩)⟩);rw[B6,F4,S];refine EK (n:=q.length) (λi σ p=>H=p/\∃I l:Option V,σ=[some (.ref L),some (.ref M),I,l]) ⟨Z,none,none,Z⟩ ?_ ?_
  .rintro i σ p B O;apply AO;intro d b;obtain⟨rfl,I,l,rfl⟩:=O;apply b;clear b d;obtain⟨c,R⟩:∃c,q[i]?=some c:=⟨_,C5 B⟩
   obtain⟨t,Y,g⟩:=PairedM.get pt R;obtain⟨u,eu,C⟩:=PairedM.get U R;have g:H t=some (.tup [.int c.x,.int c.y,.int (c.s:Int)]):=g;have C:H u=some (.tup [.int c.x,.int c.y,.int (c.s:Int)]):=C;have o:atI (W.map V.ref) (0+(i:Int))=some (.ref t):=by
    rw[T9];exact Ah (by rw[B8,Y];rfl)
   have D:atI (us.map V.ref) (0+(i:Int))=some (.ref u):=by
    rw[T9];exact Ah (by rw[B8,eu];rfl)
   refine xwj Z Z Z Z (SqL.of j) o ⟨_,_,_,.type "tuple",true,Z,Z,.of (.tup g),kit_tt K,true,Z,AX ?_⟩;refine xwj Z Z Z Z (SqL.of j) o ⟨t,(xq1 Z ⟨.inr (SqT.of g),Z,(xq1 Z (PZ Z ?_))⟩)⟩;refine xwj Z Z Z Z (SqL.of j) o (xwj Z Z Z Z (SqL.of r) D ⟨t,u,[c.x,c.y,(c.s:Int)],[c.x,c.y,(c.s:Int)],Z,Z,SqT.of g,SqT.of C,(xq1 Z (PZ Z ?_))⟩);refine xwj Z Z Z Z (SqL.of j) o ⟨t,Z,⟨_,SqT.of g⟩,?_⟩;refine for_tup (xs:=[.int c.x,.int c.y,.int (c.s:Int)]) (λn σ m=>H=m/\∃l:Option V,σ=[some (.ref L),some (.ref M),some (.int (0+(i:Int))),l]) ⟨Z,l,Z⟩ (λn σ m _ ⟨e,_⟩=>SqT.of (e▸g)) ?_ ?_
   .rintro n v σ m ev ⟨rfl,u4,rfl⟩;obtain⟨z,rfl⟩:∃z:Int,v=.int z:=by
     have:=D5 ev;simp only[C1,D7,K6]at this;rcases this with e|e|e<;>exact⟨_,e⟩
    exact xq1 Z ⟨_,_,_,.type "int",true,Z,Z,.of (.int z),(NY K).1,true,Z,AX (xq1 Z ⟨_,_,_,.type "int",false,Z,Z,.of (.int z),(NY K).2,false,Z,AX ⟨Z,_,Z⟩⟩)⟩
   .rintro σ m ⟨rfl,u4,rfl⟩;exact⟨Z,_,_,Z⟩
  .rintro σ p N;apply AO;intro d b;obtain⟨rfl,I,l,rfl⟩:=N;apply b;clear b d;exact k
noncomputable def gC(M:L_)(dx dy:Int)(n:Nat)(c:Cl):Cl:=⟨c.x-n*dx,c.y-n*dy,it M n c.s⟩
noncomputable def gld(M:L_)(dx dy:Int)(n:Nat)(ds:List Cl):List Cl:=(ds.filter λc=>it M n c.s≠0).map (gC M dx dy n)
inductive SpGld(vs:List V)(H:Hp)(Q:VK):Prop
|mk (L D:R_) (M:L_) (w n:Nat) (ds:List Cl) (_:vs=[.ref L,.int (w:Int),.ref D,.int (n:Int)]) (_:w<=8) (_:∀s,M s<=7) (_:H L=some (.lst (tbl M))) (_:Rd H D (.dT (kvC ds))) (_:(ds.map λc=>(c.x,c.y)).Nodup) (_:∀c∈ds,c.s<=7) (_:ds.length<=100) (_:∀(o:Obj)(B:R_)(H':Hp),FrO D H H'->H' D=some (.frz o (.dT (kvC ds)))->H B=none->H' B=some (.dT (kvC (gld M (ofX w) (ofY w) n ds)))->Q (.ref B) H'):SpGld vs H Q
def ZE:Sp:=λvs H Q _=>SpGld vs H Q
theorem ZW{b:List Cl}{c:Cl}(h:∀d∈b,¬(d.x=c.x/\d.y=c.y)):LQ b c=b++[c]:=by
 unfold LQ;rw[Z4];intro z;obtain⟨d,f,e⟩:=S2.mp z;exact h d f (X7 e)
theorem nd_take {b:List Cl} (nd:(b.map λc=>(c.x,c.y)).Nodup) {j:Nat} {c:Cl} (e:b[j]?=some c):∀d∈b.take j,¬(d.x=c.x/\d.y=c.y):=λd g z=>by
 have f:c∈b.drop j:=D5 (i:=0) (by rw[List.getElem?_drop];exact e);rw[<-List.take_append_drop j b,C6,O8]at nd;exact nd.2.2 _ (C8.mpr ⟨d,g,Z⟩) _ (C8.mpr ⟨c,f,Z⟩) (by rw[z.1,z.2])
theorem gld_take{M:L_}{dx dy:Int}{n j:Nat}{b:List Cl}{c:Cl}(e:b[j]?=some c):gld M dx dy n (b.take (j+1))=if it M n c.s=0 then gld M dx dy n (b.take j)else gld M dx dy n (b.take j)++[gC M dx dy n c]:=by
 unfold gld;rw[J3,e,P9,List.filter_append,C6];by_cases z:it M n c.s=0
 .rw[Z7 z,List.filter_cons_of_neg (by simp[z])];exact P0 _
 .rw[Z4 z,List.filter_cons_of_pos (by simp[z])];rfl
theorem of_b:∀w:Nat,(-1<=ofX w/\ofX w<=1)/\-1<=ofY w/\ofY w<=1
|0|1|2|3|4|5|6|7=>by decide
|_+8=>by
 show(-1<=(0:Int)/\(0:Int)<=1)/\-1<=(0:Int)/\(0:Int)<=1;decide
theorem ok_gld(F:Fun K "_law_glided" "_law_glided" GY f fd)(T:Top K mg a)(b6:Cal P w K mg base CX0 1 "_law_mapped" EW VT)(aZ:Cal P w K mg base CX0 1 "_law_offset" EV VS):AN P w K mg base CX0 2 f fd Ij ZE:=by
 refine F.ok CW (λvs H Q E h=>?_) (λaq A am s H vs Q E hr h=>?_)
 .apply AO;intro G g;obtain⟨L,D,M,w,n,l,rfl,_⟩:=h;apply g;clear g G;rfl
 .apply AO;intro G g;obtain⟨L,D,M,w,n,l,rfl,w8,m7,hL,rd,nd,s7,l1,k⟩:=h;apply g;clear g G;refine⟨_,(Ab (Ao (i:=4) CW.nd Z O_9 (Aq b6 (rm hr) Z Am (Aa (pv 0) (Aa (pv 3) Ac)))) (Ab (Ao (i:=5) CW.nd Z O_9 (Aq aZ (rm hr) Z Am (Aa (pv 1) Ac))) (Ab (Ao (i:=6) CW.nd Z O_9 Mv) (Ab (CK X8 Z (Ts (pv 2)) (Bv (i:=7) CW.nd Z O_9) (Af (AQ (Az JK (Ai Aw (pv 4) (Mx (DV hr) (pv 2) (pv 7) R_9) R_9) Ae (AD _)) (Af (Fz (DV hr) (pv 6) (Dx (Br Bm (Ai Al (pv 7) Ae R_9) (AA EJ (pv 3) (Ai Al (pv 5) Ae R_9)) (Br Bm (Ai Al (pv 7) Ae R_9) (AA EJ (pv 3) (Ai Al (pv 5) Ae R_9)) Ac))) (Ai Aw (pv 4) (Mx (DV hr) (pv 2) (pv 7) R_9) R_9) Z)) Ax))) (Af (Au (pv 6))))))),?_⟩
  try dsimp only[cxK]
  have nD:∀{x:R_},H x=none->x≠D:=λ{x} n z=>by
   rw[z]at n;rcases rd with y|⟨o,y⟩
   .rw[y]at n;cases n
   .rw[y]at n;cases n
  refine xw2 Z Z ⟨L,M,n,Z,m7,hL,λL' H1 s1 aa=>?_⟩;refine xq1 Z ⟨w,Z,w8,λt H2 s2 ht=>?_⟩;refine λB nB=>?_;generalize e3:upd H2 B _=H3;obtain⟨s3,aj⟩:=alc nB e3;have S:=s2.trans s3;have R:=s1.trans S;have ah:Rd H3 D (.dT (kvC l)):=by
   rcases rd with y|⟨o,y⟩
   .exact .inl (R _ _ y)
   .exact .inr ⟨o,R _ _ y⟩
  have p:B≠D:=λz=>by
   rcases rd with y|⟨o,y⟩
   .have:=(s1.trans s2) _ _ y;rw[<-z,nB]at this;cases this
   .have:=(s1.trans s2) _ _ y;rw[<-z,nB]at this;cases this
  have ag:H B=none:=Ay.noneN (s1.trans s2) nB;refine xq1 Z ⟨D,kvC l,Z,ah,λo H4 N m=>?_⟩;have I:=m _ _ aj p;have ne:∀{x:R_}{xs:List V}{q:HO},(q=.lst xs\/q=.tup xs)->H3 x=some q->x≠D:=λ{x xs q} hq e z=>by
   rcases ah with y|⟨o',y⟩<;>rw[z,y]at e<;>rcases hq with hq|hq<;>rw[hq]at e<;>cases e
  have ab:=m _ _ (S _ _ aa) (ne (.inl Z) (S _ _ aa));have ae:=m _ _ (s3 _ _ ht) (ne (.inr Z) (s3 _ _ ht));have W:FrO D H H4:=λb u e n=>m _ _ (R _ _ e) n;have ak:(kvC l).length=l.length:=B6 _;refine for_dT (kvs:=kvC l) (λj σ r=>∃(u7:Option V),σ=[some (.ref L),some (.int (w:Int)),some (.ref D),some (.int (n:Int)),some (.ref L'),some (.ref t),some (.ref B),u7]/\(∀b u,H4 b=some u->b≠B->r b=some u)/\r B=some (.dT (kvC (gld M (ofX w) (ofY w) n (l.take j))))) ⟨none,Z,λb u e _=>e,I⟩ (λj σ r _ z=>by obtain⟨_,_,z,_⟩:=z;exact z _ _ N (X5 p)) ?_ ?_
  .rintro j kb kv v σ r ev hb ao;apply AO;intro G g;obtain⟨u7,rfl,C,X⟩:=ao;apply g;clear g G;obtain⟨c,U,ee⟩:∃c,l[j]?=some c/\(kOf [c.x,c.y],V.int (c.s:Int))=(kv,v):=by
    unfold kvC at ev;rw[B8]at ev;obtain⟨c,U,e⟩:=D6.mp ev;exact⟨c,U,e⟩
   cases ee;have ad:r kb=some (.tup [.int c.x,.int c.y]):=hb;have Y:=C _ _ N (X5 p);have ac:=C _ _ ab (AE ab I A3);have af:=C _ _ ae (AE ae I A3);have mc:=D5 U;have gt:=gld_take (M:=M) (dx:=ofX w) (dy:=ofY w) (n:=n) U;have look:=(MI nd mc).symm;have ai:=s7 c mc;have ob:=of_b w;refine xw3 Z Z Z ⟨D,.int (c.s:Int),Z,.inr ⟨kvC l,kOf [c.x,c.y],kb,.inr ⟨o,Y⟩,Z,hb,look⟩,(xq4 Z Z (SqL.of ac) (MV ai) ⟨Z,(xq1 Z (GD (λhc=>?_) (λhc=>?_)))⟩)⟩
   .have nz:it M n c.s≠0:=λz=>by
     rw[z]at hc;exact absurd hc A4
    refine xw3 Z Z Z ⟨D,.int (c.s:Int),Z,.inr ⟨kvC l,kOf [c.x,c.y],kb,.inr ⟨o,Y⟩,Z,hb,look⟩,(xq4 Z Z (SqL.of ac) (MV ai) (xq1 Z ?_))⟩;refine xwi Z Z Z (SqT.of ad) (Ah (j:=0) Z) (xwj Z Z Z Z (SqT.of af) (Ah (j:=0) Z) (xq2 Z Z ⟨.inr ⟨by lia,by lia⟩,(xq2 Z Z (xwi Z Z Z (SqT.of ad) (Ah (j:=1) Z) (xwj Z Z Z Z (SqT.of af) (Ah (j:=1) Z) (xq2 Z Z ⟨.inr ⟨by lia,by lia⟩,(xq2 Z Z ⟨S_2,λt6 al=>?_⟩)⟩))))⟩));generalize e6:upd r t6 _=H6;obtain⟨s6,h6⟩:=alc al e6;have h6:H6 t6=some (.tup [.int (gC M (ofX w) (ofY w) n c).x,.int (gC M (ofX w) (ofY w) n c).y]):=h6;refine⟨B,(xq1 Z ⟨dput (c:=gC M (ofX w) (ofY w) n c) (s6 _ _ X) h6 ?_,?_⟩)⟩
    .have:(gld M (ofX w) (ofY w) n (l.take j)).length<=(l.take j).length:=by
      unfold gld;rw[B6];exact List.length_filter_le _ _
     rw[L7]at this;lia
    .refine xq1 Z ⟨λb u e n=>?_,?_⟩
     .rw[As n];exact s6 _ _ (C _ _ e n)
     .rw[Ag,gt,Z4 nz,ZW];intro d hd z;obtain⟨d',O,rfl⟩:=C8.mp hd;have O:=(R5.mp O).1;have z1:d'.x-n*ofX w=c.x-n*ofX w:=z.1;have z2:d'.y-n*ofY w=c.y-n*ofY w:=z.2;exact nd_take nd U d' O ⟨by lia,by lia⟩
   .have nz:it M n c.s=0:=X6 λz=>hc (by rw[Z8 (by intro q;injection q with q;exact z A0)];rfl);exact xq1 Z ⟨C,by rw[gt,Z7 nz];exact X⟩
  .rintro σ r an;apply AO;intro G g;obtain⟨u7,rfl,C,X⟩:=an;apply g;clear g G;rw[ak,L6]at X;exact xq1 Z (k o B r (λb u e n=>C _ _ (W _ _ e n) (Av e ag)) (C _ _ N (X5 p)) ag X)
end
end J
namespace J
open PySem L2
noncomputable def bxF(x y wd ht:Int)(s:Nat)(u v:Int):Nat:=if InB x y wd ht u v then s else 0
theorem fill_b{a:Ad}{g:GA}{G:Gv}{H:Hp}{Q:VK}{s:Nat}{t:R_}{x y f d:Int}(i:AS a H g G)(z:H t=some (.tup [.int x,.int y,.int f,.int d]))(D:0<=f)(w:0<=d)(h:Ev x y f d (2^40))(B:s<8)(few:G.length<7400000)(k:∀(r:Nat)(b:Gv)(c:Hp),Fr g H c->AS a c g b->AG G b 5000->Fv b r (bxF x y f d s)->Q (.int r) c):Vz a [.ref g.p,.int ((bareN 1:Nat):Int),.ref t,.int s] H Q:=by
 obtain⟨E,q⟩:=i.g0;obtain⟨n,b2,o⟩:=bare0 q i.ok;refine⟨g,G,bareN 1,0,t,x,y,f,d,s,Z,i,n,by decide,b2,z,D,w,λ_ _=>h,B,Z,few,λr m b c fr j go A l C e=>k r b c fr j go ⟨m,l,A,C,λu v=>?_⟩⟩;rw[e,o];rfl
theorem gl_box{r:AI}{f:L_}{dx dy:Int}(g:Mp f)(h:Gl r f dx dy){x y d c:Int}{s:Nat}(i:s<=7)(n:Nat)(u v:Int):sFN r n (bxF x y d c s) u v=bxF (x-n*dx) (y-n*dy) d c (it f n s) u v:=by
 rw[TZ g h (λu v=>by unfold bxF;split<;>lia)];unfold bxF;have e:InB x y d c (u+n*dx) (v+n*dy)↔InB (x-n*dx) (y-n*dy) d c u v:=by
  unfold InB;generalize (n:Int)*dx=a;generalize (n:Int)*dy=b;lia
 by_cases z:InB (x-n*dx) (y-n*dy) d c u v
 .rw[Z7 (e.mpr z),Z7 z]
 .rw[Z4 λq=>z (e.mp q),Z4 z,g.it0]
theorem lx2{a b c d:Int}:Cp [a,b] [c,d]=false ↔ ¬(a<c\/(a=c/\b<d)):=by
 show(if a=c then(if b=d then Cp [] []else decide (b<d))else decide (a<c))=false↔_;by_cases e:a=c
 .rw[Z7 e];by_cases f:b=d
  .rw[Z7 f];exact⟨λ_=>by lia,λ_=>Z⟩
  .rw[Z4 f,decide_eq_false_iff_not];lia
 .rw[Z4 e,decide_eq_false_iff_not];lia
theorem ins_by(c:Cl):∀{e:List Cl},ByC e->∃fs:List Cl,fs.Perm (c::e)/\ByC fs
|[],_=>⟨[c],List.Perm.refl _,List.pairwise_singleton _ _⟩
|d::e,h=>by
 obtain⟨f,g⟩:=R3.mp h;by_cases z:Cp [d.y,d.x] [c.y,c.x]=false
 .refine⟨c::d::e,List.Perm.refl _,R3.mpr ⟨λq a=>?_,h⟩⟩;rcases C1.mp a with rfl|a
  .exact z
  .have:=lx2.mp (f q a);have:=lx2.mp z;exact lx2.mpr A0
 .obtain⟨fs,p,b⟩:=ins_by c g;refine⟨d::fs,(p.cons d).trans (List.Perm.swap c d e),R3.mpr ⟨λq a=>?_,b⟩⟩;rcases C1.mp (p.mem_iff.mp a)with rfl|a
  .have:¬ ¬(d.y<q.y\/(d.y=q.y/\d.x<q.x)):=λw=>z (lx2.mpr w);exact lx2.mpr A0
  .exact f q a
theorem Wb:∀a:List Cl,∃d:List Cl,d.Perm a/\ByC d
|[]=>⟨[],List.Perm.refl _,List.Pairwise.nil⟩
|c::a=>by
 obtain⟨d,p,b⟩:=Wb a;obtain⟨fs,q,b'⟩:=ins_by c b;exact⟨fs,q.trans (p.cons c),b'⟩
theorem Vl{r:AI}{f:L_}{dx dy:Int}(d:Mp f)(l:Gl r f dx dy){g:List Cl}{φ:D_}(m:∀x y,φ x y<=7)(dk:Oq g φ)(n:Nat):Oq (gld f dx dy n g) (sFN r n φ):=by
 have j:∀x y,sFN r n φ x y=it f n (φ (x+n*dx) (y+n*dy)):=TZ d l m n;refine⟨?_,λc=>⟨λo=>?_,λ⟨h,k⟩=>?_⟩⟩
 .unfold gld;rw[L9];have h:((g.filter λc=>it f n c.s≠0).map λc=>(c.x,c.y)).Nodup:=(List.filter_sublist.map _).nodup dk.nd;rw[F7,N4]at h⊢;refine h.imp λ{p q} u z=>u ?_;have w:p.x-n*dx=q.x-n*dx:=K0 (·.1) z;have A:p.y-n*dy=q.y-n*dy:=K0 (·.2) z;rw[show p.x=q.x by lia,show p.y=q.y by lia]
 .obtain⟨b,i,rfl⟩:=C8.mp o;obtain⟨t,a⟩:=R5.mp i;have a:it f n b.s≠0:=X7 a;obtain⟨_,e⟩:=(dk.mem b).mp t;refine⟨R1 a,?_⟩;show sFN r n φ (b.x-n*dx) (b.y-n*dy)=it f n b.s;rw[j,Int.sub_add_cancel,Int.sub_add_cancel,e]
 .rw[j]at k;have a:it f n (φ (c.x+n*dx) (c.y+n*dy))≠0:=by lia
  have v:φ (c.x+n*dx) (c.y+n*dy)≠0:=λz=>a (by rw[z,d.it0]);refine C8.mpr ⟨⟨c.x+n*dx,c.y+n*dy,φ (c.x+n*dx) (c.y+n*dy)⟩,R5.mpr ⟨(dk.mem _).mpr ⟨R1 v,Z⟩,Z5 a⟩,?_⟩;unfold gC;dsimp only;rw[O2,O2,k]
theorem WC(f:L_)(dx dy:Int)(n:Nat)(a:List Cl):(gld f dx dy n a).length<=a.length:=by
 unfold gld;rw[B6];exact List.length_filter_le _ _
theorem WK{H:Hp}:∀{out:List It3}{d:List Cl},out.map ZP=d.map ZQ->(∀q∈out,H q.a=some (.tup (q.ns.map V.int)))->Paired (MU H) (out.map (·.a)) d
|[],[],_,_=>.nil
|[],_::_,e,_=>by cases e
|_::_,[],e,_=>by cases e
|q::out,c::d,e,h=>by
 rw[D9,D9]at e;injection e with b e2
 refine .cons ?_ (WK e2 λp g=>h p (C4 _ g));have f:=h q (C2 ..);have b:q.y::q.x::q.r=[c.y,c.x,(c.s:Int)]:=b;injection b with y1 b
 injection b with x1 r1
 have:q.ns=[c.x,c.y,(c.s:Int)]:=by
  show q.x::q.y::q.r=_;rw[y1,x1,r1]
 rw[this]at f;exact f
noncomputable def itC(c:Cl):It3:=⟨0,c.x,c.y,[(c.s:Int)]⟩
theorem SE {a:List Cl} (h:ByC a) (nd:(a.map λc=>(c.x,c.y)).Nodup):(a.map ZQ).Pairwise (λp q=>Cp q p=false):=by
 have:=VC (out:=a.map itC) (N4.mpr h) (by rw[L9];exact nd);rw[L9]at this;exact this
theorem Wh:∀{b fs:List Cl},b.map ZQ=fs.map ZQ->b=fs
|[],[],_=>rfl
|[],_::_,e=>by cases e
|_::_,[],e=>by cases e
|c::b,d::fs,e=>by
 rw[D9,D9]at e;injection e with a e2
 have a:[c.y,c.x,(c.s:Int)]=[d.y,d.x,(d.s:Int)]:=a;injection a with y1 a
 injection a with x1 a
 injection a with s1 _
 rw[Wh e2];obtain⟨f,g,cs⟩:=c;obtain⟨dx,dy,h⟩:=d;cases y1;cases x1;cases Z9 s1;rfl
theorem by_one {a fs:List Cl} (h:ByC a) (h':ByC fs) (p:a.Perm fs) (nd:(fs.map λc=>(c.x,c.y)).Nodup):a=fs:=Wh (Pi (SE h ((p.map _).nodup_iff.mpr nd)) (SE h' nd) (p.map _))
theorem co_at{a:Ad}{g:GA}{G:Gv}{H:Hp}{Q:VK}{f:Nat}{d:List Cl}{φ:D_}(i:AS a H g G)(v:Fv G f φ)(dk:Oq d φ)(t:ByC d)(z:d.length<=63)(few:G.length<9000000)(k:∀(L:R_)(s:H_)(b:Hp),Fx (frL g) H b->AS a b g G->H L=none->b L=some (.lst (s.map V.ref))->Paired (MU b) s d->Q (.ref L) b):SpCo a [.ref g.p,.int f] H Q:=by
 obtain⟨n,A,l,E,e⟩:=v.ex;have o:Of G n f d:=⟨dk.nd,λc=>by rw[e];exact dk.mem c⟩
 refine⟨g,G,f,n,Z,i,l,by lia,few,by rw[o.cnt i.ok l];lia,λL out b x j B u w C D=>?_⟩;have h:=C.trans (o.perm i.ok l);have nd:(out.map λq=>(q.x,q.y)).Nodup:=by
  have m:=h.map λr=>(r.getD 1 0,r.getD 0 0)
  rw[L9,L9]at m;exact m.nodup_iff.mpr dk.nd
 have eq:=Pi (VC D nd) (SE t dk.nd) h;refine k L (out.map (·.a)) b x j B ?_ (WK eq w);rw[L9];exact u
theorem Ma.mono{Κ:KTy}{N a:Nat}(h:Ma Κ N)(e:N<=a):Ma Κ a:=by
 obtain⟨M,b,c⟩:=h.ls;exact⟨⟨M,C9 b e,c⟩,h.ext⟩
theorem stC_in{a:List Cl}{n:Nat}{x y:Int}(h:Dd a n x y){u v:Int}(z:stC a u v≠0):x<=u/\u<x+6/\y<=v/\v<y+3:=by
 rcases Mg a u v with ⟨c,f,b,d,_⟩|⟨_,e⟩
 .subst b;subst d;exact(h.ok c f).2
 .exact absurd e z
theorem stC_7{a:List Cl}{n:Nat}{x y:Int}(h:Dd a n x y)(u v:Int):stC a u v<=7:=by
 rcases Mg a u v with ⟨c,b,_,_,e⟩|⟨_,e⟩
 .have:=(h.ok c b).1.1.s;lia
 .lia
theorem Wt{k a W D:Nat}(h:k<=a):nd k W D<=nd a W D:=by
 unfold nd s47;refine Md (f:=λe=>((List.range 47).map (md k W D e)).sum) (g:=λe=>((List.range 47).map (md a W D e)).sum) λe _=>?_;refine Md (f:=md k W D e) (g:=md a W D e) λl _=>?_;unfold md;have:=Nat.mul_le_mul_right ((if e=l then 19 else if e<l then 1 else 0)*kw W D l) h;lia
noncomputable def pc(n:Nat):Nat:=if h:n=0 then 0 else n%2+pc (n/2)
termination_by n
decreasing_by exact Nat.div_lt_self (R1 h) A4
theorem Wl(n:Nat):pc n=n%2+pc (n/2):=by
 by_cases h:n=0
 .subst h;rw[pc];simp
 .conv=>lhs;rw[pc,dif_neg h]
theorem pc_succ(n:Nat):pc (n+1)<=pc n+1:=by
 induction n using Nat.strongRecOn with
 |ind n a =>
  rw[Wl (n+1),Wl n];by_cases z:n%2=0
  .rw[show(n+1)/2=n/2 by lia];lia
  .have:=a (n/2) A0;rw[show(n+1)/2=n/2+1 by lia];lia
theorem pc_sh(a:Nat):∀b,pc (a*2^b)=pc a
|0=>by rw[S6,W4]
|b+1=>by
 rw[Wl,F6,<-Nat.mul_assoc,show a*2^b*2%2=0 by lia,show a*2^b*2/2=a*2^b by lia,pc_sh a b];lia
theorem pc_3{a:Nat}(h:a<=3):pc a<=2:=by
 match a,h with
 |0,_=>decide +kernel
 |1,_=>decide +kernel
 |2,_=>decide +kernel
 |3,_=>decide +kernel
theorem WM:∀(n k:Nat),((List.range n).filter λj=>k/2^j%2==1).length<=pc k
|0,k=>J0 _
|n+1,k=>by
 rw[List.range_succ_eq_map,List.filter_cons,List.filter_map,Wl];have:=WM n (k/2);have e:((λj=>k/2^j%2==1) ∘ Nat.succ)=λj=>k/2/2^j%2==1:=by
  funext j
  show(k/2^(j+1)%2==1)=_;rw[F6,S1,V7]
 rw[e];rw[S6,Nat.div_one];by_cases z:k%2=1
 .rw[z];rw[Z7 (by rfl),F0,B6];lia
 .rw[Z4 (by simp;lia),B6];lia
theorem Mf(t k:Nat):(sts t k).length<=pc k:=by
 unfold sts;rw[B6];exact WM 40 k
seal L2.PA L2.PE L2.PS L2.PSs L2.PT L2.PW
theorem few8:∀{i:Nat},i<2->7000+20000*i+12000+10*540000<7900000
|0,_=>by decide
|1,_=>by decide
|i+2,h=>absurd h A0
theorem few9:∀{i:Nat},i<2->7000+20000*i+12048+10*540000<7400000
|0,_=>by decide
|1,_=>by decide
|i+2,h=>absurd h A0
theorem mon8(i:Nat):7000+20000*i+12048+5000<=7000+20000*(i+1):=by lia
theorem one8{n:Nat}{o x w:Int}(h:n<=193)(a:-1<=o/\o<=1)(c:-20<=x/\x<10)(b:w<=40):-2^40<=x-n*o/\x-n*o+w<=2^40:=by
 rcases(show o=-1\/o=0\/o=1 by lia)with rfl|rfl|rfl<;>lia
theorem far8{n:Nat}{o q x y w h:Int}(a:n<=193)(c:-1<=o/\o<=1)(d:-1<=q/\q<=1)(f:-20<=x/\x<10)(g:-20<=y/\y<10)(e:w<=40)(b:h<=40):Ev (x-n*o) (y-n*q) w h (2^40):=⟨(one8 a c f e).1,(one8 a d g b).1,(one8 a c f e).2,(one8 a d g b).2⟩
theorem ZS.tup{a:Ad}{H c:Hp}{g:GA}{G:Gv}{Κ:KTy}{N b:Nat}{p dx mem d:R_}{r:AI}{m:MA}{t:R_}{xs:List V}(e:ZS a H g G Κ N b p dx mem d r m)(f:FrZ g m H c)(h:H t=some (.tup xs)):c t=some (.tup xs):=e.keep f h (by intro xs z;cases z) (by intro xs z;cases z) (by intro xs z;cases z)
theorem ne1{X x:Int}{W k:Nat}(c:-2^39<=X)(d:X+W+k<=2^40)(e:k<=2^39)(a:X<=x)(b:x<X+W):-(2^40)+(k:Int)<=x/\x+k<2^40:=by lia
theorem ner{φ:D_}{X Y:Int}{W D k:Nat}(j:∀u v,φ u v≠0->X<=u/\u<X+W/\Y<=v/\v<Y+D)(f:-2^39<=X)(g:X+W+k<=2^40)(h:-2^39<=Y)(i:Y+D+k<=2^40)(a:k<=2^39):LZ φ k:=λu v z=>by
 obtain⟨b,c,d,e⟩:=j u v z;have q:=ne1 f g a b c;exact⟨q.1,q.2,ne1 h i a d e⟩
theorem nd5b:nd 5 40 40<=540000:=by decide +kernel
theorem Tf{G r:Gv}(e:G=G0++r)(ok:GOk G):∀{l n:Nat},l<=48->Sol G 0 l n->n=bareN l
|0,n,_,h=>h
|l+1,n,hl,h=>by
 obtain⟨m,a,b⟩:=h;have:=Tf e ok A0 a;subst this;exact ok.one b (Ss e l A0) Z
theorem nn_of{H:Hp}{g:GA}{m:MA}(a:∀y∈Dg g,H y=none)(fr:∀y∈m.l::m.kc::m.ds,H y=none):∀y∈[g.br,m.l]++zL g m,H y=none:=λy b=>by
 simp only[zL,List.cons_append,List.nil_append,C1]at b;rcases b with rfl|rfl|rfl|rfl|rfl|rfl|rfl|rfl|b
 .exact a _ (by simp[Dg])
 .exact fr _ A6
 .exact a _ (by simp[Dg])
 .exact a _ (by simp[Dg])
 .exact a _ (by simp[Dg])
 .exact a _ (by simp[Dg])
 .exact a _ (by simp[Dg])
 .exact fr _ A6
 .exact fr _ (by simp[b])
section
variable{a:Ad}{Hd H H':Hp}{g:GA}{G G':Gv}{Κ:KTy}{N b i:Nat}{p dx mem pr:R_}{r:AI}{m:MA}
structure Y8(a:Ad)(Hd H:Hp)(g:GA)(G:Gv)(Κ:KTy)(N b:Nat)(p dx mem pr:R_)(r:AI)(m:MA):Prop where
zs:ZS a H g G Κ N b p dx mem pr r m
sm:Ay Hd H
nn:∀y∈zL g m,Hd y=none
theorem Y8.fr(h:Y8 a Hd H g G Κ N b p dx mem pr r m)(f:Fr g H H')(c:AS a H' g G')(go:AG G G' i):Y8 a Hd H' g G' Κ N (b+i) p dx mem pr r m:=⟨h.zs.fr f c go,Ay.fxn h.sm ((Fr.z f).fx h.zs) h.nn,h.nn⟩
theorem Y8.same(h:Y8 a Hd H g G Κ N b p dx mem pr r m)(s:Ay H H'):Y8 a Hd H' g G Κ N b p dx mem pr r m:=⟨h.zs.same s,h.sm.trans s,h.nn⟩
theorem Y8.frz(h:Y8 a Hd H g G Κ N b p dx mem pr r m)(f:FrZ g m H H'){G':Gv}{b':Nat}(z:ZS a H' g G' Κ N b' p dx mem pr r m):Y8 a Hd H' g G' Κ N b' p dx mem pr r m:=⟨z,Ay.fxn h.sm (f.fx h.zs) h.nn,h.nn⟩
theorem Y8.mono{b':Nat}(h:Y8 a Hd H g G Κ N b p dx mem pr r m)(e:b<=b'):Y8 a Hd H g G Κ N b' p dx mem pr r m:=⟨h.zs.mono e,h.sm,h.nn⟩
end
section
variable{P:N_}{w:Q_}{K:O_}{mg:C_}{base:T_}{a:Ad}
inductive SpBxr(K:O_)(vs:List V)(H:Hp)(Q:VK):Prop
|mk (l Lm:R_) (ns:I_) (M:L_) (w:Nat) (_:vs=[.ref l,.ref Lm,.int (w:Int)]) (_:SqL K H l (ns.map V.int)) (_:M 0=0) (_:∀s,M s<=7) (_:w<=8) (_:H Lm=some (.lst (tbl M))) (_:∀H':Hp,Ay H H'->Q (.bl true) H'):SpBxr K vs H Q
def ZK(K:O_):Sp:=λvs H Q _=>SpBxr K vs H Q
theorem ok_bxr(F:Fun K "_law_box_right" "_law_box_right" EC f fd)(T:Top K mg a)(cM:Qs P w K mg base CX0 2 "Grove" a.c_Grove FD (Oy a))(aA:Cal P w K mg base CX0 1 "_law_at" YI (Yi K))(aZ:Cal P w K mg base CX0 1 "_law_offset" EV VS)(aN:Cal P w K mg base CX0 1 "_law_glide_text" CP VX)(bC:Cal P w K mg base CX0 8 "read_rule" Ig (spRR a))(cL:Qs P w K mg base CX0 3 "Jumps" a.c_Jumps Sd (Ox a))(aX:BJ P w K mg base CX0 4 a.c_Grove "solid" EX (Ov a))(cQ:Cal P w K mg base CX0 103 "filled" Ps (UI a))(bX:Cal P w K mg base CX0 151 "jump" RP (VW a))(b6:Cal P w K mg base CX0 1 "_law_mapped" EW VT):AN P w K mg base CX0 152 f fd EI (ZK K):=by
 refine F.ok AL (λvs H Q E h=>?_) (λcy A ch s H vs Q E k h=>?_)
 .apply AO;intro O c;obtain⟨l,Lm,ns,M,w,rfl,_⟩:=h;apply c;clear c O;rfl
 .apply AO;intro O c;obtain⟨l,Lm,ns,M,w,rfl,hS,m0,m7,w8,hM,kq⟩:=h;apply c;clear c O;refine⟨_,(Ab (Ao (i:=3) AL.nd Z O_9 (AA Jd (AA Bz (AA CQ (Aq aA (rm k) Z Am (Aa (pv 0) (AF Ac))) Ae) Ae) (AA Bz (Aq aA (rm k) Z Am (Aa (pv 0) (AF Ac))) Ae))) (Ab (Ao (i:=4) AL.nd Z O_9 (AA Bm (AA Bz (Aq aA (rm k) Z Am (Aa (pv 0) (AF Ac))) Ae) Ae)) (Ab (Ao (i:=5) AL.nd Z O_9 (AA Bm (AA Bz (Aq aA (rm k) Z Am (Aa (pv 0) (AF Ac))) Ae) Ae)) (Ab (Ao (i:=6) AL.nd Z O_9 (AA AZ Ae (AA Bz (Aq aA (rm k) Z Am (Aa (pv 0) (AF Ac))) Ae))) (Ab (Ao (i:=7) AL.nd Z O_9 (AA AZ Ae (AA Bz (Aq aA (rm k) Z Am (Aa (pv 0) (AF Ac))) Ae))) (Ab (Ao (i:=8) AL.nd Z O_9 (AA AZ Ae (AA Bz (Aq aA (rm k) Z Am (Aa (pv 0) (AF Ac))) Ae))) (Ab (Ao (i:=9) AL.nd Z O_9 (Aq aZ (rm k) Z Am (Aa (pv 2) Ac))) (Ab (Ao (i:=10) AL.nd Z O_9 (Tu cM (rm k) Z Am)) (Ab (Ao (i:=11) AL.nd Z O_9 (Le cL (rm k) Z Am (Aa (pv 10) (Aa (Aq bC (rm k) Z Am (Aa (Aq aN (rm k) Z Am (Aa (pv 1) (Aa (pv 2) Ac))) Ac)) Ac)))) (Ab (Ao (i:=12) AL.nd Z O_9 (AC (pv 10) aX (rm k) Am (AF (AF Ac)))) (Ab (Ao (i:=13) AL.nd Z O_9 (Aq cQ (rm k) Z Am (Aa (pv 10) (Aa (pv 12) (AV (Aa (pv 4) (Aa (pv 5) (Aa (pv 6) (Aa (pv 7) Ac)))) (Aa (pv 8) Ac)))))) (Ab (CK X8 Z (CO (CL (Aa (pv 3) (Br AZ (pv 3) Ae Ac)))) (Bv (i:=14) AL.nd Z O_9) (Ab (Ao (i:=15) AL.nd Z O_9 (Dx (Br Bm (pv 4) (AA EJ (pv 14) (Ai Al (pv 9) Ae R_9)) (Br Bm (pv 5) (AA EJ (pv 14) (Ai Al (pv 9) Ae R_9)) (Aa (pv 6) (Aa (pv 7) Ac)))))) (Ab (Ao (i:=16) AL.nd Z O_9 (Aq bX (rm k) Z Am (Aa (pv 11) (Aa (pv 13) (Aa (pv 14) Ac))))) (Ab (AQ (PW.pt (Gd (BU (BI (AJ CC Z T.b_isinstance X9 (Aa (pv 16) (Aa (DE (v:=.ty "int") Z T.b_int A0d Z) Ac))))) (El (BI (AJ CC Z T.b_isinstance X9 (Aa (pv 16) (Aa (DE (v:=.ty "bool") Z T.b_bool A3g Z) Ac))))))) (Af (Au IB)) Ax) (Af (AQ (Az JK (pv 16) (Aq cQ (rm k) Z Am (Aa (pv 10) (Aa (pv 12) (Aa (pv 15) (Aa (Ai Aw (Aq b6 (rm k) Z Am (Aa (pv 1) (Aa (pv 14) Ac))) (pv 8) R_9) Ac))))) (AD _)) (Af (Au IB)) Ax)))))) (Af (Au IB)))))))))))))),?_⟩
  try dsimp only[cxK]
  refine Bf ?_;intro r1 s1 k1 b4 E1;obtain⟨u,hu⟩:=F5 (N6 (atN ns 8/3) (by decide:(4:Int)≠0));have u3:u<=3:=by have:=M0 (atN ns 8/3) (by decide:(0:Int)<4);lia
  obtain⟨v,hv⟩:=F5 (N6 (atN ns 9) (by decide:(7:Int)≠0));have v6:v<=6:=by have:=M0 (atN ns 9) (by decide:(0:Int)<7);lia
  refine xq1 Z ⟨l,ns,8,Z,hS,by decide,(xq2 Z Z ⟨⟨by decide,by decide⟩,(xq2 Z Z ⟨(by show(0:Int)<4;decide),(xq1 Z ⟨l,ns,9,Z,hS,by decide,(xq2 Z Z ⟨B4,(u:Int),(v:Int),K0 V.int hu,K0 V.int hv,⟨by lia,by lia,by lia⟩,?_⟩)⟩)⟩)⟩)⟩;rw[show(λi j:Int=>V.int (i*2^j.toNat)) (u:Int) (v:Int)=V.int ((u*2^v:Nat):Int)from K0 V.int (by rw[F4,N5,J7];rfl)];have bh:u*2^v<=192:=Nat.mul_le_mul u3 (M7 (show 0<2 by decide) v6);generalize hn:u*2^v=n at bh;clear hu hv;refine b4 ?_;refine Bf ?_;intro r2 s2 k2 b5 E2;refine xq1 Z ⟨l,ns,10,Z,hS,by decide,(xq2 Z Z ⟨(by show(0:Int)<30;decide),(xq2 Z Z ?_)⟩)⟩;obtain⟨x,hx⟩:∃x,atN ns 10%30-20=x:=⟨_,Z⟩
  have x1:-20<=x/\x<10:=by lia
  rw[show(λi j:Int=>V.int (i-j)) _ _=V.int x from K0 V.int hx];clear hx;refine b5 ?_;refine Bf ?_;intro r3 s3 k3 b7 E3;refine xq1 Z ⟨l,ns,11,Z,hS,by decide,(xq2 Z Z ⟨(by show(0:Int)<30;decide),(xq2 Z Z ?_)⟩)⟩;obtain⟨y,hy⟩:∃y,atN ns 11%30-20=y:=⟨_,Z⟩
  have y1:-20<=y/\y<10:=by lia
  rw[show(λi j:Int=>V.int (i-j)) _ _=V.int y from K0 V.int hy];clear hy;refine b7 ?_;refine Bf ?_;intro r4 s4 k4 b8 E4;refine xq1 Z ⟨l,ns,13,Z,hS,by decide,(xq2 Z Z ⟨(by show(0:Int)<40;decide),(xq2 Z Z ?_)⟩)⟩;obtain⟨wd,hw⟩:∃x,1+atN ns 13%40=x:=⟨_,Z⟩
  have w1:1<=wd/\wd<=40:=by lia
  rw[show(λi j:Int=>V.int (i+j)) _ _=V.int wd from K0 V.int hw];clear hw;refine b8 ?_;refine Bf ?_;intro r5 s5 k5 b9 E5;refine xq1 Z ⟨l,ns,14,Z,hS,by decide,(xq2 Z Z ⟨(by show(0:Int)<40;decide),(xq2 Z Z ?_)⟩)⟩;obtain⟨ht,hh⟩:∃x,1+atN ns 14%40=x:=⟨_,Z⟩
  have h1:1<=ht/\ht<=40:=by lia
  rw[show(λi j:Int=>V.int (i+j)) _ _=V.int ht from K0 V.int hh];clear hh;refine b9 ?_;refine Bf ?_;intro r6 s6 k6 ca E6;obtain⟨st,bf⟩:=F5 (show 0<=1+atN ns 15%7 by lia);have s7:1<=st/\st<=7:=by lia
  refine xq1 Z ⟨l,ns,15,Z,hS,by decide,(xq2 Z Z ⟨B4,(xq2 Z Z ?_)⟩)⟩;rw[show(λi j:Int=>V.int (i+j)) _ _=V.int (st:Int)from K0 V.int bf];clear bf;refine ca ?_;refine Bf ?_;intro r7 di k7 cb E7;refine xq1 Z ⟨w,Z,w8,λt H1 al ce=>?_⟩;refine cb ?_;refine Bf ?_;intro r8 s8 k8 cc E8;refine λx' b1 nx cf c5=>⟨x',b1,Z,Ag,λg H2 a2 N=>⟨Z,?_⟩⟩
  have ao:Ay H1 H2:=λb o e=>N.kp b o (by rw[As (Av e nx),As (Av e cf)];exact e) (a2▸Av e nx);subst a2;have az:=AS.new N;have ng:=N.none;clear N;refine cc ?_;refine Bf ?_;intro r9 s9 k9 cd E9;have mp:Mp M:=⟨m0,λs _=>m7 s⟩
  have gl:=gl_gl m0 w8;have ro:=Vm m7 w8;have re:=WD m0 w8;generalize Y:bxF x y wd ht st=φ;have h7:∀u v,φ u v<=7:=λu v=>by rw[<-Y];unfold bxF;split<;>lia
  have hb:∀u v,φ u v≠0->x<=u/\u<x+(40:Nat)/\y<=v/\v<y+(40:Nat):=λu v z=>by
   rw[<-Y]at z;have:InB x y wd ht u v:=X6 λq=>z (Z4 q);unfold InB at this;lia
  have sl:(sts 0 n++sts 0 (n+1)).length<=5:=by
   rw[C3];have q1:=Mf 0 n;have q2:=Mf 0 (n+1);have q3:=pc_succ n;have q4:pc n<=2:=by rw[<-hn,pc_sh];exact pc_3 u3
   lia
  have fin:Ma (Kd M φ (ofX w) (ofY w) (sts 0 n++sts 0 (n+1))) 540000:=(kd_fin mp h7 hb _).mono (C9 (Wt sl) nd5b);have cl:ClK (glR M w) (Kd M φ (ofX w) (ofY w) (sts 0 n++sts 0 (n+1))):=kd_cl ro re mp gl h7 _;have aa:QO (Kd M φ (ofX w) (ofY w) (sts 0 n++sts 0 (n+1))) (glR M w) φ n:=PY (t:=0) mp gl h7 A0 λs hs=>D8.mpr (.inl hs);have ab:QO (Kd M φ (ofX w) (ofY w) (sts 0 n++sts 0 (n+1))) (glR M w) φ (n+1):=PY (t:=0) mp gl h7 A0 λs hs=>D8.mpr (.inr hs);generalize Kd M φ (ofX w) (ofY w) (sts 0 n++sts 0 (n+1))=Κ at fin cl aa ab;have a8:=(al.trans ao) _ _ hM;refine xw3 Z Z Z ⟨Lm,M,w,Z,w8,m7,a8,λH3 aq=>⟨glR M w,Z,ro,re,λpr H4 ar hR=>?_⟩⟩;refine λp af np bm bn=>jnew (Κ:=Κ) (N:=540000) (b:=1000) ((az.same aq).same ar) ro re hR np bm bn (by rw[LX];decide) λH5 mem m bq bw ax _ _ _=>⟨Z,?_⟩
  refine cd ?_;refine Bf ?_;intro c6 dd cz a9 co;have am:=(ao.trans aq).trans ar;have y5:Y8 a H1 H5 g G0 Κ 540000 1000 p af mem pr (glR M w) m:=⟨bw,am.trans bq,λy hy=>nn_of ng (λy hy=>Ay.noneN am (ax y hy)) y (D8.mpr (.inr hy))⟩
  clear bw ax bq am ao aq ar a8 hR ng az np bm bn;refine xq1 Z ⟨g.p,g.dx,(xq1 Z ⟨y5.zs.fu.at'.hp,Ty g,g,G0,1,0,Z,y5.zs.fu.at',y5.zs.fu.ok,by decide,by decide,by rw[LX];decide,λnn G6 H6 ag a3 W bt=>?_⟩)⟩;have S:=y5.zs.fu.fr ag a3 W;have y6:=y5.fr ag S W;have g6:=W.few;rw[LX]at g6;obtain⟨dc,e6⟩:=S.g0;have:=Tf e6 S.ok A4 bt;subst this;clear y5 ag a3 W bt e6;refine a9 ?_;refine Bf ?_;intro c7 de c0 ba cp;refine xw3 Z Z Z (xw3 Z Z Z ⟨S_4,λtb cg=>?_⟩);generalize e7:upd H6 tb _=H7;obtain⟨br,bg⟩:=alc cg e7;have y7:=y6.same br;refine xq1 Z ?_;refine fill_b y7.zs.fu bg A0 A0 (by unfold Ev;lia) A0 A0 λfl G8 H8 ay b2 ah fv=>?_;have y8:=y7.fr ay b2 ah;have g8:=ah.few;rw[Y]at fv;clear y7 y6 bg e7 br ay ah S;refine ba ?_;refine Bf ?_;intro c8 bp c1 bb cq;have es:bp=[some (.ref l),some (.ref Lm),some (.int (w:Int)),some (.int (n:Int)),some (.int x),some (.int y),some (.int wd),some (.int ht),some (.int (st:Int)),some (.ref t),some (.ref g.p),some (.ref p),some (.int ((bareN 1:Nat):Int)),some (.int (fl:Int)),none,none,none]:=rfl
  clear_value bp
  subst es;refine xw2 Z Z (xq2 Z Z ⟨S_2,λLl bj=>?_⟩);generalize e9:upd H8 Ll _=H9;obtain⟨ci,a6⟩:=alc bj e9;have y9:=(y8.same ci).mono (b':=7000) A0;have R:=y8.zs.ap bj;refine⟨Ll,Z,⟨_,SqL.of a6⟩,?_⟩;refine Ub (xs:=[.int (n:Int),.int ((n:Int)+1)]) (λi σ H'=>∃(G':Gv)(as au av:Option V),σ=[some (.ref l),some (.ref Lm),some (.int (w:Int)),some (.int (n:Int)),some (.int x),some (.int y),some (.int wd),some (.int ht),some (.int (st:Int)),some (.ref t),some (.ref g.p),some (.ref p),some (.int ((bareN 1:Nat):Int)),some (.int (fl:Int)),as,au,av]/\Y8 a H1 H' g G' Κ 540000 (7000+20000*i) p af mem pr (glR M w) m/\Fv G' fl φ/\H' Ll=some (.lst [.int (n:Int),.int ((n:Int)+1)])) ⟨G8,none,none,none,Z,y9,fv,a6⟩ (λi σ H' _ z=>by obtain⟨_,_,_,_,_,_,_,z⟩:=z;exact SqL.of z) ?_ ?_
  .rintro i v σ H' ev cn;apply AO;intro O c;obtain⟨G',as,au,av,rfl,yi,U,ai⟩:=cn;apply c;clear c O;have ck:∃C:Nat,v=.int (C:Int)/\C<=193/\QO Κ (glR M w) φ C:=by
    match i,ev with
    |0,ev=>cases ev;exact⟨n,Z,by lia,aa⟩
    |1,ev=>cases ev;exact⟨n+1,Z,by lia,ab⟩
   apply AO;intro O c;obtain⟨C,rfl,bi,b0⟩:=ck;apply c;clear c O;have i2:i<2:=(B7.mp ev).1;have ob:=of_b w;have aj:=yi.sm _ _ ce;refine Bf ?_;intro c9 df c2 bc cr;refine xw3 Z Z Z (xq4 Z Z (SqT.of aj) (Ah (j:=0) Z) (xq2 Z Z ⟨.inr ⟨by lia,by lia⟩,(xq2 Z Z (xw3 Z Z Z (xq4 Z Z (SqT.of aj) (Ah (j:=1) Z) (xq2 Z Z ⟨.inr ⟨by lia,by lia⟩,(xq2 Z Z (xw2 Z Z ⟨S_4,λtx bo=>?_⟩))⟩))))⟩));generalize aw:upd H' tx _=bz;obtain⟨I,X⟩:=alc bo aw;have X:bz tx=some (.tup [.int (x-C*ofX w),.int (y-C*ofY w),.int wd,.int ht]):=X;have B:=yi.same I;have ae:=I _ _ ai;clear yi ai I aw bo aj;refine bc ?_;refine Bf ?_;intro da dg c3 bd cs;have nr:LZ φ C:=ner hb A0 A0 A0 A0 A0;have sz:=B.zs.jz.sz fin;refine xw3 Z Z Z ⟨p,af,mem,pr,g,G',Κ,φ,540000,_,glR M w,m,fl,C,Z,B.zs,fin,cl,b0,U,nr,few8 i2,λd G2 cu j2 r bv ad b3=>?_⟩;have bu:=B.frz r bv;have ak:=B.zs.tup r X;have a4:=r _ _ ae R.n0 R.n1;have a0:=U.app B.zs.fu.ok ad;clear B X ae U r bv ad;refine bd ?_;refine Bf ?_;intro db dh c4 be ct;refine xq1 Z ⟨_,_,_,.type "int",true,Z,Z,.of (.int (d:Int)),(NY K).1,true,Z,AX (xq1 Z ⟨_,_,_,.type "int",false,Z,Z,.of (.int (d:Int)),(NY K).2,false,Z,AX (be ?_)⟩)⟩;have a7:=bu.sm _ _ (al _ _ hM);refine xw3 Z Z Z (xw3 Z Z Z ⟨Lm,M,C,Z,m7,a7,λcx cv an a5=>?_⟩);refine xwi Z Z Z (SqL.of a5) (MV s7.2) ?_;have L:=bu.same an;refine fill_b L.zs.fu (an _ _ ak) A0 A0 (far8 bi ob.1 ob.2 x1 y1 w1.2 h1.2) (Nat.lt_succ_of_le (mp.itl s7.2 C)) (J8 (L.zs.jz.sz fin) (few9 i2)) λf2 bx cw ac D G a1=>?_;have cj:=L.fr ac D G;have ed:d=f2:=by
    obtain⟨r0,e0⟩:=D.g0;refine Fv.eq e0 D.ok (b3.app L.zs.fu.ok G) a1 λu v=>?_;rw[<-Y];exact gl_box mp gl s7.2 C u v
   subst ed;refine⟨Z,false,K0 (λb=>V.bl (!b)) (Z5 Z),AX ⟨bx,_,_,_,Z,cj.mono (mon8 i),a0.app L.zs.fu.ok G,Fr.z ac _ _ (an _ _ a4) R.n0 R.n1⟩⟩
  .rintro σ H' cm;apply AO;intro O c;obtain⟨G',as,au,av,rfl,yi,U,ai⟩:=cm;apply c;clear c O;refine bb ?_;exact kq H' (al.trans yi.sm)
end
end J
namespace J
open PySem L2
theorem nd6:nd 6 6 3<=310000:=by decide +kernel
theorem rd_get{l:H_}{H a:Hp}{D:R_}{u:HO}(h:Rd H D u)(f:Fx l H a)(n:D∉l):Rd a D u:=by
 rcases h with h|⟨o,h⟩
 .exact .inl (f.get n h)
 .exact .inr ⟨o,f.get n h⟩
section
variable{a:Ad}{Hd H H':Hp}{g:GA}{G G':Gv}{Κ:KTy}{N b i:Nat}{p dx mem pr D:R_}{r:AI}{m:MA}{ds:List Cl}
structure Y7(a:Ad)(Hd H:Hp)(g:GA)(G:Gv)(Κ:KTy)(N b:Nat)(p dx mem pr:R_)(r:AI)(m:MA)(D:R_)(ds:List Cl):Prop where
y:Y8 a Hd H g G Κ N b p dx mem pr r m
rd:Rd H D (.dT (kvC ds))
nd:Hd D=none
ap:∀x∈[g.br,m.l]++zL g m,x≠D
theorem Y7.mono{b':Nat}(h:Y7 a Hd H g G Κ N b p dx mem pr r m D ds)(e:b<=b'):Y7 a Hd H g G Κ N b' p dx mem pr r m D ds:=⟨h.y.mono e,h.rd,h.nd,h.ap⟩
theorem Y7.frz(h:Y7 a Hd H g G Κ N b p dx mem pr r m D ds)(f:FrZ g m H H'){G':Gv}{b':Nat}(z:ZS a H' g G' Κ N b' p dx mem pr r m):Y7 a Hd H' g G' Κ N b' p dx mem pr r m D ds:=⟨h.y.frz f z,rd_get h.rd (f.fx h.y.zs) λq=>h.ap D (D8.mpr (.inr q)) Z,h.nd,h.ap⟩
theorem Y7.fr(h:Y7 a Hd H g G Κ N b p dx mem pr r m D ds)(f:Fr g H H')(c:AS a H' g G')(go:AG G G' i):Y7 a Hd H' g G' Κ N (b+i) p dx mem pr r m D ds:=h.frz (Fr.z f) (h.y.zs.fr f c go)
theorem Y7.fq(h:Y7 a Hd H g G Κ N b p dx mem pr r m D ds)(f:Fx (frL g) H H')(c:AS a H' g G):Y7 a Hd H' g G Κ N b p dx mem pr r m D ds:=by
 have q:FrQ g H H':=λx o e d j=>f.get (λz=>by
  rcases C1.mp z with z|z
  .exact d z
  .exact j (D1.mp z)) e
 exact h.frz (FrQ.z q) (h.y.zs.frQ q c)
theorem Y7.fo{o:Obj}(h:Y7 a Hd H g G Κ N b p dx mem pr r m D ds)(f:FrO D H H')(e:H' D=some (.frz o (.dT (kvC ds)))):Y7 a Hd H' g G Κ N b p dx mem pr r m D ds :=
 ⟨⟨h.y.zs.fx (f.fx h.rd) λx c z=>h.ap x c (D1.mp z),Ay.fxn h.y.sm (f.fx h.rd) λy d=>by rw[D1.mp d];exact h.nd,h.y.nn⟩,.inr ⟨o,e⟩,h.nd,h.ap⟩
theorem ZU{H:Hp}{D L:R_}{u:HO}(h:Rd H D u)(n:H L=none):L≠D:=λz=>by
 subst z;rcases h with h|⟨o,h⟩<;>(rw[n]at h;cases h)
theorem ckd{M:L_}{w n:Nat}{j L:R_}{U:H_}{C:List Cl}{φ:D_}{Q:VK}{c:Nat}{x y:Int}(h:Y7 a Hd H g G Κ N b p dx mem pr r m D ds)(hM:Hd j=some (.lst (tbl M)))(w8:w<=8)(m7:∀s,M s<=7)(A:Dd ds c x y)(q:c<=40)(dk:Oq (gld M (ofX w) (ofY w) n ds) φ)(pe:C.Perm (gld M (ofX w) (ofY w) n ds))(be:ByC C)(I:H L=some (.lst (U.map V.ref)))(nL:L≠D)(S:Paired (MU H) U C)(k:∀(o:Obj)(H':Hp),FrO D H H'->H' D=some (.frz o (.dT (kvC ds)))->Q (.bl true) H') :
  SpGld [.ref j,.int (w:Int),.ref D,.int (n:Int)] H λv X=>SpLsd [v] X λu f=>SpRt [.ref L,u] f Q:=by
 have O:ds.length<=40:=C9 A.len q;have E:(gld M (ofX w) (ofY w) n ds).length<=40:=C9 (WC ..) O;refine⟨j,D,M,w,n,ds,Z,w8,m7,h.y.sm _ _ hM,h.rd,A.nd,λc hc=>Nat.le_of_lt_succ (A.ok c hc).1.1.s,by lia,λo B X f1 F P hB=>?_⟩;refine⟨B,_,Z,.inl hB,dk.nd,E,λo2 L2 W t f Y _ ab K T d l=>?_⟩;have e:=by_one l be (d.trans pe.symm) ((pe.map _).nodup_iff.mpr dk.nd);subst e;have R:=ZU h.rd P;have aa:L≠B:=λz=>by rw[z,P]at I;cases I
 have fo:FrO D H f:=λb o e n=>Y b o (f1 b o e n) λz=>by rw[z,P]at e;cases e
 refine⟨L,L2,U,W,t,Z,fo _ _ I nL,K,Paired.imp (λ_ _ z=>(fo.fx h.rd).tup z) S,T,?_,k o f fo (Y _ _ F (X5 R))⟩;rw[d.length_eq];lia
end
seal L2.PA L2.PE L2.PS L2.PSs L2.PT L2.PW
section
variable{P:N_}{w:Q_}{K:O_}{mg:C_}{base:T_}{a:Ad}
theorem pc_6:∀k:Nat,k<7->pc k<=2:=by decide +kernel
theorem sts_1(n:Nat):(sts n 1).length<=1:=C9 (Mf n 1) A1
theorem ex_es{r:AI}{f:L_}{dx dy:Int}(i:Mp f)(g:Gl r f dx dy){c:List Cl}{φ:D_}(h:∀x y,φ x y<=7)(dk:Oq c φ)(l:c.length<=40)(n:Nat):∃b:List Cl,b.Perm (gld f dx dy n c)/\ByC b/\Oq b (sFN r n φ)/\b.length<=63:=by
 obtain⟨b,d,e⟩:=Wb (gld f dx dy n c);refine⟨b,d,e,(Vl i g h dk n).perm d,?_⟩;have:=WC f dx dy n c;rw[d.length_eq];lia
theorem many_ok(x q:Int):∃b:Nat,(1:Int)+x%3+(if(if q-13<16 then q-13 else 16) > 0 then(if q-13<16 then q-13 else 16)else 0)=(b:Int)/\b<=19:=by
 by_cases z:q-13<16
 .rw[Z7 z];by_cases y:q-13 > 0
  .rw[Z7 y];exact⟨(1+x%3+(q-13)).toNat,by lia,by lia⟩
  .rw[Z4 y];exact⟨(1+x%3).toNat,by lia,by lia⟩
 .rw[Z4 z,Z7 A4];exact⟨(1+x%3+16).toNat,by lia,by lia⟩
theorem ok_law(F:Fun K "law" "law" ZN f fd)(T:Top K mg a)(cM:Qs P w K mg base CX0 2 "Grove" a.c_Grove FD (Oy a))(S:Cal P w K mg base CX0 1 "_law_at" YI (Yi K))(bY:Cal P w K mg base CX0 2 "_law_map_by" LC (UD K))(bG:Cal P w K mg base CX0 152 "_law_box_right" EI (ZK K))(aN:Cal P w K mg base CX0 1 "_law_glide_text" CP VX)(bC:Cal P w K mg base CX0 8 "read_rule" Ig (spRR a))(bS:Cal P w K mg base CX0 1 "_law_base" PJ UJ)(cJ:Cal P w K mg base CX0 2 "_law_heap" JH (UF K))(bA:Cal P w K mg base CX0 5 "_law_listed" Ii ZB)(cN:Cal P w K mg base CX0 56 "field_of" LS (ZF a))(cL:Qs P w K mg base CX0 3 "Jumps" a.c_Jumps Sd (Ox a))(bX:Cal P w K mg base CX0 151 "jump" RP (VW a))(cD:Cal P w K mg base CX0 56 "cells_of" UX (spCo a))(bI:Cal P w K mg base CX0 1 "_law_right" Jb spRt)(bH:Cal P w K mg base CX0 2 "_law_glided" Ij ZE):AN P w K mg base CX0 153 f fd p_law (VV K):=by
 refine F.ok Ec (λvs H Q E h=>?_) (λej A dm s H vs Q E B h=>?_)
 .apply AO;intro I q;obtain⟨l,ns,rfl,_⟩:=h;apply q;clear q I;rfl
 .apply AO;intro I q;obtain⟨l,ns,rfl,bb,du,kq⟩:=h;apply q;clear q I;refine⟨_,(Ab (Ao (i:=1) Ec.nd Z O_9 (Aq bY (rm B) Z Am (Aa (pv 0) (AF Ac)))) (Ab (Ao (i:=2) Ec.nd Z O_9 (AA Bz (Aq S (rm B) Z Am (Aa (pv 0) (AF Ac))) Ae)) (Ab (AQ (PW.pt (LP (Az De (AA Bz (AA AZ (Aq S (rm B) Z Am (Aa (pv 0) (AF Ac))) (Aq S (rm B) Z Am (Aa (pv 0) (AF Ac)))) Ae) Ae (AD _)) (IU (BU (BI (Aq bG (rm B) Z Am (Aa (pv 0) (Aa (pv 1) (Aa (pv 2) Ac))))))))) (Af (Au IB)) Ax) (Ab (Ao (i:=3) Ec.nd Z O_9 (AA Bz (Aq S (rm B) Z Am (Aa (pv 0) (AF Ac))) Ae)) (Ab (AQ (Az De (AA Bz (Aq S (rm B) Z Am (Aa (pv 0) (AF Ac))) Ae) Ae (AD _)) (Af (Ao (i:=3) Ec.nd Z O_9 (AA Bz (Aq S (rm B) Z Am (Aa (pv 0) (AF Ac))) Ae))) Ax) (Ab (Ao (i:=4) Ec.nd Z O_9 (AA AZ (AA AZ Ae (AA Bz (Aq S (rm B) Z Am (Aa (pv 0) (AF Ac))) Ae)) (AJ (Lq Z) Z T.b_max A1d (AF (Aa (AJ (FK Z) Z T.b_min A0b (AF (Br Bm (AJ BD Z T.b_len K8 (Aa (pv 0) Ac)) Ae Ac))) Ac))))) (Ab (AQ (Az NU (pv 3) Ae (AD _)) (Af (Ao (i:=4) Ec.nd Z O_9 (AJ (FK Z) Z T.b_min A0b (Aa (pv 4) (AF Ac))))) Ax) (Ab (Ao (i:=3) Ec.nd Z O_9 (AA Jd (AA Bz (AA CQ (Aq S (rm B) Z Am (Aa (pv 0) (AF Ac))) Ae) Ae) (pv 3))) (Ab (Ao (i:=5) Ec.nd Z O_9 (Aq cJ (rm B) Z Am (Aa (pv 0) (AF (Aa (pv 4) (Aa (Aq bS (rm B) Z Am (Aa (Aq S (rm B) Z Am (Aa (pv 0) (AF Ac))) Ac)) (Aa (Aq bS (rm B) Z Am (Aa (Aq S (rm B) Z Am (Aa (pv 0) (AF Ac))) Ac)) Ac))))))) (Ab (Ao (i:=6) Ec.nd Z O_9 (Tu cM (rm B) Z Am)) (Ab (Ao (i:=7) Ec.nd Z O_9 (Le cL (rm B) Z Am (Aa (pv 6) (Aa (Aq bC (rm B) Z Am (Aa (Aq aN (rm B) Z Am (Aa (pv 1) (Aa (pv 2) Ac))) Ac)) Ac)))) (Ab (Ao (i:=8) Ec.nd Z O_9 (Aq cN (rm B) Z Am (Aa (pv 6) (Aa (Aq bA (rm B) Z Am (Aa (pv 5) Ac)) Ac)))) (Ab (AQ (Az De (AA Bz (AA CQ (Aq S (rm B) Z Am (Aa (pv 0) (AF Ac))) Ae) Ae) Ae (AD _)) (Af (BC (Aq bX (rm B) Z Am (Aa (pv 7) (Aa (pv 8) (Br Bz (AA CQ (Aq S (rm B) Z Am (Aa (pv 0) (AF Ac))) Ae) Ae Ac)))))) Ax) (Ab (Ao (i:=9) Ec.nd Z O_9 (Aq bX (rm B) Z Am (Aa (pv 7) (Aa (pv 8) (Aa (pv 3) Ac))))) (Ab (AQ (PW.pt (Gd (BU (BI (AJ CC Z T.b_isinstance X9 (Aa (pv 9) (Aa (DE (v:=.ty "int") Z T.b_int A0d Z) Ac))))) (El (BI (AJ CC Z T.b_isinstance X9 (Aa (pv 9) (Aa (DE (v:=.ty "bool") Z T.b_bool A3g Z) Ac))))))) (Af (Au IB)) Ax) (Ab (AQ (BU (BI (Aq bI (rm B) Z Am (Aa (Aq cD (rm B) Z Am (Aa (pv 6) (Aa (pv 9) Ac))) (Aa (Aq bA (rm B) Z Am (Aa (Aq bH (rm B) Z Am (Aa (pv 1) (Aa (pv 2) (Aa (pv 5) (Aa (pv 3) Ac))))) Ac)) Ac))))) (Af (Au IB)) Ax) (Ab (Ao (i:=10) Ec.nd Z O_9 (Aq cD (rm B) Z Am (Aa (pv 6) (Aa (Aq bX (rm B) Z Am (Aa (pv 7) (Aa (pv 9) (AF Ac)))) Ac)))) (Ab (AQ (BU (BI (Aq bI (rm B) Z Am (Aa (pv 10) (Aa (Aq bA (rm B) Z Am (Aa (Aq bH (rm B) Z Am (Aa (pv 1) (Aa (pv 2) (Aa (pv 5) (Br AZ (pv 3) Ae Ac))))) Ac)) Ac))))) (Af (Au IB)) Ax) (Af (Au (JD (Em De (Aq bX (rm B) Z Am (Aa (pv 7) (Aa (pv 8) (Aa (pv 3) Ac)))) (pv 9) (AD _)) (LR (Em De (Aq bX (rm B) Z Am (Aa (pv 7) (Aa (pv 8) (AF Ac)))) (pv 8) (AD _)))))))))))))))))))))))),?_⟩
  try dsimp only[cxK]
  refine Bf ?_;intro r1 s1 k1 c6 E1;refine xq1 Z ⟨l,ns,0,Z,bb,by decide,λLm M H1 ct m0 m7 hM=>?_⟩;have hS:=ct.seq bb;clear bb ct;refine c6 ?_;refine Bf ?_;intro r2 s2 k2 c7 E2;obtain⟨w,hw⟩:=F5 (N6 (atN ns 7) (by decide:(9:Int)≠0));have w8:w<=8:=by have:=M0 (atN ns 7) (by decide:(0:Int)<9);lia
  refine xq1 Z ⟨l,ns,7,Z,hS,by decide,(xq2 Z Z ⟨(by show(0:Int)<9;decide),?_⟩)⟩;rw[show(λi j:Int=>V.int (i%j)) (atN ns 7) 9=V.int (w:Int)from K0 V.int hw];clear hw;refine c7 ?_;refine Bf ?_;intro r3 s3 k3 c8 E3;have es:s3=[some (.ref l),some (.ref Lm),some (.int (w:Int)),none,none,none,none,none,none,none,none]:=rfl
  clear_value s3
  subst es;apply MG (T:=k3) (fun σ' H2=>σ'=[some (.ref l),some (.ref Lm),some (.int (w:Int)),none,none,none,none,none,none,none,none]/\Ay H1 H2)
  .intro r;refine xq1 Z ⟨l,ns,7,Z,hS,by decide,(xq1 Z ⟨l,ns,12,Z,hS,by decide,(xq2 Z Z (xq2 Z Z ⟨B5,Z,(xq1 Z (GD (λ_=>?_) (λ_=>r _ _ ⟨Z,λ_ _ e=>e⟩)))⟩))⟩)⟩;refine xw3 Z Z Z ⟨l,Lm,ns,M,w,Z,hS,m0,m7,w8,hM,λH2 dn=>⟨true,Z,AX (r _ _ ⟨Z,dn⟩)⟩⟩
  .rintro σ' H2 ⟨rfl,aj⟩;refine c8 ?_;have C:=aj.seq hS;have ba:=aj _ _ hM;clear hS hM aj;refine Bf ?_;intro r4 s4 k4 c9 E4;obtain⟨v0,ci⟩:=F5 (N6 (atN ns 9) (by decide:(9:Int)≠0));have cv:v0<=37:=by have:=M0 (atN ns 9) (by decide:(0:Int)<9);lia
   refine xq1 Z ⟨l,ns,9,Z,C,by decide,(xq2 Z Z ⟨(by show(0:Int)<9;decide),?_⟩)⟩;rw[show(λi j:Int=>V.int (i%j)) (atN ns 9) 9=V.int (v0:Int)from K0 V.int ci];clear ci;refine c9 ?_;refine Bf ?_;intro r5 s5 k5 da E5;apply MG (T:=k5) (fun σ' H3=>∃v:Nat,σ'=[some (.ref l),some (.ref Lm),some (.int (w:Int)),some (.int (v:Int)),none,none,none,none,none,none,none]/\H3=H2/\v<=37)
   .intro r;refine xq1 Z ⟨l,ns,8,Z,C,by decide,(xq2 Z Z ⟨B5,Z,(xq1 Z (GD (λ_=>?_) (λ_=>r _ _ ⟨v0,Z,Z,cv⟩)))⟩)⟩;obtain⟨v1,dg⟩:=F5 (N6 (atN ns 9) (by decide:(38:Int)≠0));have dp:v1<=37:=by have:=M0 (atN ns 9) (by decide:(0:Int)<38);lia
    refine xq1 Z ⟨l,ns,9,Z,C,by decide,(xq2 Z Z ⟨(by show(0:Int)<38;decide),?_⟩)⟩;rw[show(λi j:Int=>V.int (i%j)) (atN ns 9) 38=V.int (v1:Int)from K0 V.int dg];exact r _ _ ⟨v1,Z,Z,dp⟩
   .rintro σ' H3 ag;apply AO;intro I q;obtain⟨v,rfl,hH,cw⟩:=ag;apply q;clear q I;subst hH;clear cv;refine da ?_;refine Bf ?_;intro r6 s6 k6 db E6;obtain⟨my,ch,ac⟩:=many_ok (atN ns 12) ((ns.map V.int).length:Int);refine xq1 Z ⟨l,ns,12,Z,C,by decide,(xq2 Z Z ⟨B5,(xq2 Z Z (xq1 Z ⟨l,(xq1 Z ⟨.inl C,(xq2 Z Z ⟨_,_,Z,_,_,Z,(xq2 Z Z ?_)⟩)⟩)⟩))⟩)⟩;rw[show(λi j:Int=>V.int (i+j)) (1+atN ns 12%3) (if(if((ns.map V.int).length:Int)-13<16 then((ns.map V.int).length:Int)-13 else 16) > 0 then(if((ns.map V.int).length:Int)-13<16 then((ns.map V.int).length:Int)-13 else 16)else 0)=V.int (my:Int)from K0 V.int ch];clear ch;refine db ?_;refine Bf ?_;intro r7 s7 k7 dc E7;apply MG (T:=k7) (fun σ' H4=>∃mz:Nat,σ'=[some (.ref l),some (.ref Lm),some (.int (w:Int)),some (.int (v:Int)),some (.int (mz:Int)),none,none,none,none,none,none]/\H4=H3/\mz<=19)
    .intro r;refine xwb Z Z Z (xq1 Z (GD (λ_=>?_) (λ_=>r _ _ ⟨my,Z,Z,ac⟩)));refine xq1 Z ⟨_,_,Z,?_⟩;by_cases z:(4:Int)<(my:Int)
     .rw[Z7 z];exact r _ _ ⟨4,Z,Z,by decide⟩
     .rw[Z4 z];exact r _ _ ⟨my,Z,Z,ac⟩
    .rintro σ' H4 ag;apply AO;intro I q;obtain⟨mz,rfl,hH,dv⟩:=ag;apply q;clear q I;subst hH;clear ac;refine dc ?_;refine Bf ?_;intro r8 s8 k8 de E8;obtain⟨u,hu⟩:=F5 (N6 (atN ns 8/3) (by decide:(4:Int)≠0));have u3:u<=3:=by have:=M0 (atN ns 8/3) (by decide:(0:Int)<4);lia
     refine xq1 Z ⟨l,ns,8,Z,C,by decide,(xq2 Z Z ⟨⟨by decide,by decide⟩,(xq2 Z Z ⟨(by show(0:Int)<4;decide),(xq1 Z ⟨(u:Int),(v:Int),K0 V.int hu,Z,⟨by lia,by lia,by lia⟩,?_⟩)⟩)⟩)⟩;rw[show(λi j:Int=>V.int (i*2^j.toNat)) (u:Int) (v:Int)=V.int ((u*2^v:Nat):Int)from K0 V.int (by rw[F4,N5,J7];rfl)];have nb:u*2^v<=3*2^37:=Nat.mul_le_mul u3 (M7 (show 0<2 by decide) cw);have pn:pc (u*2^v)<=2:=by rw[pc_sh];exact pc_3 u3
     generalize u*2^v=n at nb pn;clear hu u3 cw;refine de ?_;refine Bf ?_;intro r9 s9 k9 df E9;refine xq1 Z (xq1 Z (xq1 Z ⟨l,ns,10,Z,C,by decide,_,Z,λlx x1 x2=>?_⟩));refine xq1 Z ⟨l,ns,11,Z,C,by decide,_,Z,λly y1 y2=>?_⟩;refine⟨l,ns,13,lx,ly,mz,Z,C,by decide,by lia,by lia,by lia,by lia,by lia,λD ds Hd sd nD hD dd=>?_⟩;refine df ?_;refine Bf ?_;intro ew e6 el b8 dw;refine λx' c1 nx dj ev=>⟨x',c1,Z,Ag,λg H6 b5 N=>⟨Z,?_⟩⟩
     have bf:Ay Hd H6:=λb o e=>N.kp b o (by rw[As (Av e nx),As (Av e dj)];exact e) (b5▸Av e nx);subst b5;have bx:=AS.new N;have ng:=N.none;clear N;refine b8 ?_;refine Bf ?_;intro ex e7 em b9 dx;obtain⟨O,b7⟩:=F5 (N6 (atN ns 12/6) (by decide:(7:Int)≠0));have dh:O<7:=by have:=M0 (atN ns 12/6) (by decide:(0:Int)<7);lia
     have mp:Mp M:=⟨m0,λs _=>m7 s⟩
     have gl:=gl_gl m0 w8;have ro:=Vm m7 w8;have re:=WD m0 w8;have dk:=dd.dk;generalize bc:stC ds=φ at dk;have cj:∀u v,φ u v≠0->lx<=u/\u<lx+(6:Nat)/\ly<=v/\v<ly+(3:Nat):=λu v z=>stC_in dd (by rw[bc];exact z);have h7:∀x y,φ x y<=7:=λx y=>by rw[<-bc];exact stC_7 dd x y
     clear bc;have sl:(sts 0 O++(sts 0 n++sts n 1)).length<=6:=by
      rw[C3,C3];have q1:=Mf 0 O;have q2:=Mf 0 n;have q3:=sts_1 n;have q4:=pc_6 O dh;lia
     have fin:Ma (Kd M φ (ofX w) (ofY w) (sts 0 O++(sts 0 n++sts n 1))) 310000:=(kd_fin mp h7 cj _).mono (C9 (Wt sl) nd6);have cl:ClK (glR M w) (Kd M φ (ofX w) (ofY w) (sts 0 O++(sts 0 n++sts n 1))):=kd_cl ro re mp gl h7 _;have U:QO (Kd M φ (ofX w) (ofY w) (sts 0 O++(sts 0 n++sts n 1))) (glR M w) φ O:=PY (t:=0) mp gl h7 A0 λs hs=>D8.mpr (.inl hs);have W:QO (Kd M φ (ofX w) (ofY w) (sts 0 O++(sts 0 n++sts n 1))) (glR M w) φ n:=PY (t:=0) mp gl h7 A0 λs hs=>D8.mpr (.inr (D8.mpr (.inl hs)));have an:QO (Kd M φ (ofX w) (ofY w) (sts 0 O++(sts 0 n++sts n 1))) (glR M w) (sFN (glR M w) n φ) 1:=PY (t:=n) mp gl h7 A4 λs hs=>D8.mpr (.inr (D8.mpr (.inr hs)));generalize Kd M φ (ofX w) (ofY w) (sts 0 O++(sts 0 n++sts n 1))=Κ at fin cl U W an;have bq:QO Κ (glR M w) φ 0:=λj _ _ _ hb=>absurd hb (by rw[Nat.zero_div];decide);have ai:∀k:Nat,k<=n+7->LZ φ k:=λk hk=>ner cj A0 A0 A0 A0 A0;have nr1:LZ φ (1+n):=ai _ A0;have cq:LZ φ n:=ai _ A0;have cp:LZ φ O:=ai _ A0;have dl:LZ φ 0:=ai _ A0;refine xw3 Z Z Z ⟨Lm,M,w,Z,w8,m7,(sd.trans bf) _ _ ba,λH7 bg=>⟨glR M w,Z,ro,re,λpr H8 bh hR=>?_⟩⟩;refine λp G np cn co=>jnew (Κ:=Κ) (N:=310000) (b:=1000) ((bx.same bg).same bh) ro re hR np cn co (by rw[LX];decide) λH9 mem m bi c0 bw _ _ _=>⟨Z,?_⟩
     have ak:=(bf.trans bg).trans bh;have bd:=nn_of ng (λy hy=>Ay.noneN ak (bw y hy));have y9:Y7 a H4 H9 g G0 Κ 310000 1000 p G mem pr (glR M w) m D ds:=⟨⟨c0,sd.trans (ak.trans bi),λy hy=>Ay.noneN sd (bd y (D8.mpr (.inr hy)))⟩,.inl (ak.trans bi _ _ hD),nD,λx hx z=>by
      have:=bd x hx;rw[z,hD]at this;cases this⟩
     clear c0 bw bi ak bf bg bh hR ng bx np cn co bd sd nD hD;refine b9 ?_;refine Bf ?_;intro ey aj en ca dy;refine xw2 Z Z ⟨D,ds,Z,y9.rd,dd.nd,by have:=dd.len;lia,λo1 L1 fe ek d9 fo a1 cm b6 cs cr _=>?_⟩;have bj:=y9.fo fo a1;refine fld_fv bj.y.zs.fu b6 (Ap.new y9.y.zs.fu.at' cm) cs cr dk (λc hc=>(dd.ok c hc).1.1) (by have:=dd.len;lia) (by rw[LX];decide) λf1 G1 ea ao aq ay fv=>?_;have R:=(bj.fr ao aq ay).mono (b':=20000) A4;clear y9 bj fo a1 cm b6 cs cr ao aq ay;refine ca ?_;refine Bf ?_;intro ez cu di cb dz;have es:cu=[some (.ref l),some (.ref Lm),some (.int (w:Int)),some (.int (n:Int)),some (.int (mz:Int)),some (.ref D),some (.ref g.p),some (.ref p),some (.int (f1:Int)),none,none]:=rfl
     clear_value cu
     subst es;have aa:=R.y.sm.seq C;apply MG (T:=di) (fun σ' a8=>∃G2:Gv,σ'=[some (.ref l),some (.ref Lm),some (.int (w:Int)),some (.int (n:Int)),some (.int (mz:Int)),some (.ref D),some (.ref g.p),some (.ref p),some (.int (f1:Int)),none,none]/\Y7 a H4 a8 g G2 Κ 310000 40000 p G mem pr (glR M w) m D ds/\Fv G2 f1 φ)
     .intro r;refine xq1 Z ⟨l,ns,12,Z,aa,by decide,(xq2 Z Z ⟨⟨by decide,by decide⟩,(xq2 Z Z ⟨B1,Z,(xq1 Z (GD (λ_=>?_) (λ_=>r _ _ ⟨G1,Z,R.mono A4,fv⟩)))⟩)⟩)⟩;refine xw3 Z Z Z ⟨l,ns,12,Z,aa,by decide,(xq2 Z Z ⟨⟨by decide,by decide⟩,(xq2 Z Z ⟨B4,p,G,mem,pr,g,G1,Κ,φ,310000,_,glR M w,m,f1,O,K0 (λz=>[V.ref p,V.int (f1:Int),V.int z]) b7,R.y.zs,fin,cl,U,fv,cp,by decide,λd0 G2 a8 j2 b2 dq b3 _=>?_⟩)⟩)⟩;exact r _ _ ⟨G2,Z,(R.frz b2 dq).mono A4,fv.app R.y.zs.fu.ok b3⟩
     .rintro σ' a8 ag;apply AO;intro I q;obtain⟨G2,rfl,al,a9⟩:=ag;apply q;clear q I;clear R fv b7 U cp aa;refine cb ?_;refine Bf ?_;intro e0 e8 eo cc d1;refine xw3 Z Z Z ⟨p,G,mem,pr,g,G2,Κ,φ,310000,_,glR M w,m,f1,n,Z,al.y.zs,fin,cl,W,a9,cq,by decide,λd G3 eb j3 aw cx az fd=>?_⟩;have ad:=al.frz aw cx;have bz:=a9.app al.y.zs.fu.ok az;clear al aw cx az a9;refine cc ?_;refine Bf ?_;intro e1 e9 ep cd d4;refine xq1 Z ⟨_,_,_,.type "int",true,Z,Z,.of (.int (d:Int)),(NY K).1,true,Z,AX (xq1 Z ⟨_,_,_,.type "int",false,Z,Z,.of (.int (d:Int)),(NY K).2,false,Z,AX (cd ?_)⟩)⟩;refine Bf ?_;intro e2 fa er ce d6;have ck:ds.length<=40:=by have:=dd.len;lia
      apply AO;intro I q;obtain⟨es,pe,be,X,ab⟩:=ex_es mp gl h7 dk ck n;apply q;clear q I;refine xw2 Z Z (co_at ad.y.zs.fu fd X be ab (J8 (ad.y.zs.jz.sz fin) A4) λL ts ec au ar a4 a2 a6=>?_);have bm:=ad.fq au ar;refine xw3 Z Z Z (xq1 Z (ckd bm ba w8 m7 dd A0 (Vl mp gl h7 dk n) pe be a2 (ZU ad.rd a4) a6 λo ed bu br=>⟨true,Z,AX (ce ?_)⟩));have ae:=bm.fo bu br;clear ad bm au ar a4 a2 a6 bu br pe be X ab;refine Bf ?_;intro e3 fb et cf d7;refine xw3 Z Z Z ⟨p,G,mem,pr,g,G3,Κ,sFN (glR M w) n φ,310000,_,glR M w,m,d,1,Z,ae.y.zs,fin,cl,an,fd,near_st re nr1,by decide,λd2 G4 ee j4 ax cy Y ah=>?_⟩;have af:=ae.frz ax cy;have b0:=bz.app ae.y.zs.fu.ok Y;have c4:=fd.app ae.y.zs.fu.ok Y;have ah:Fv G4 d2 (sFN (glR M w) (n+1) φ):=ah.to λx y=>by rw[V8,Ms]
      clear ae ax cy Y bz fd;apply AO;intro I q;obtain⟨es,pe,be,X,ab⟩:=ex_es mp gl h7 dk ck (n+1);apply q;clear q I;refine co_at af.y.zs.fu ah X be ab (J8 (af.y.zs.jz.sz fin) A4) λL ts ef av as a5 a3 a7=>?_;have bn:=af.fq av as;refine cf ?_;refine Bf ?_;intro e4 fc eu cg d8;refine xw3 Z Z Z (xw2 Z Z (xq2 Z Z (ckd bn ba w8 m7 dd A0 (Vl mp gl h7 dk (n+1)) pe be a3 (ZU af.rd a5) a7 λo eh bv bt=>⟨true,Z,AX (cg ?_)⟩)));have bo:=bn.fo bv bt;clear af bn av as a5 a3 a7 bv bt pe be X ab ah;refine xw3 Z Z Z ⟨p,G,mem,pr,g,G4,Κ,φ,310000,_,glR M w,m,f1,n,Z,bo.y.zs,fin,cl,W,b0,cq,by decide,λd3 G5 ei j5 dr am a0 c3=>?_⟩;obtain⟨rg,eg⟩:=am.fu.g0;have e:d3=d:=Fv.eq eg am.fu.ok c3 (c4.app bo.y.zs.fu.ok a0) λx y=>Z;subst e;have b1:=b0.app bo.y.zs.fu.ok a0;refine xq1 Z ⟨Z,true,K0 V.bl (Z5 Z),Cg ?_⟩;refine xw2 Z Z ⟨p,G,mem,pr,g,G5,Κ,φ,310000,_,glR M w,m,f1,0,Z,am,fin,cl,bq,b1,dl,by decide,λd5 G6 bp j6 dt cz b4 c5=>?_⟩;obtain⟨e5,c2⟩:=cz.fu.g0;have e:d5=f1:=Fv.eq c2 cz.fu.ok c5 (b1.app am.fu.ok b4) λx y=>Z;subst e;refine xq1 Z ⟨Z,?_⟩;show Q (V.bl (decide (V.int (d5:Int)=V.int (d5:Int)))) bp;rw[Z5 rfl];exact kq bp
end
end J
namespace J
open PySem L2
theorem ar1{α:Type}:∀us:List α,us.length=1->∃a,us=[a]
|[a],_=>⟨a,Z⟩
theorem ar2{α:Type}:∀us:List α,us.length=2->∃a b,us=[a,b]
|[a,b],_=>⟨a,b,Z⟩
theorem ar3{α:Type}:∀us:List α,us.length=3->∃a b c,us=[a,b,c]
|[a,b,c],_=>⟨a,b,c,Z⟩
theorem ar4{α:Type}:∀us:List α,us.length=4->∃a b c d,us=[a,b,c,d]
|[a,b,c,d],_=>⟨a,b,c,d,Z⟩
theorem ar5{α:Type}:∀us:List α,us.length=5->∃a b c d e,us=[a,b,c,d,e]
|[a,b,c,d,e],_=>⟨a,b,c,d,e,Z⟩
structure Fg(K:O_)(x:Str)(st:Stmt)(f:R_)(fd:E_):Prop where
at_:W.nsIn K mainGlobals x=some (some (.ref f))
fn:Fun K x x st f fd
structure Fm(K:O_)(C:R_)(m q:Str)(st:Stmt)(f:R_)(fd:E_):Prop where
me:Qr K C m f
fn:Fun K m q st f fd
structure Fi(K:O_)(C:R_)(q:Str)(st:Stmt)(f:R_)(fd:E_):Prop where
mk_:Mk K C f
fn:Fun K "__init__" q st f fd
theorem bnd{K:O_}{x q:Str}{b:Stmt}{f:R_}{j:E_}{g:K_}(F:Fun K x q b f j)(h:∀(kV e n:S_)(l:Option Addr)(d m:S_)(us:F_),us.length=g.length->bindArgs (W.fnOf x q (MP b) (Lk b) (Aj b) .none kV e n l d m) ⟨us,[]⟩=pure (g.zip us):=by intro _ _ _ _ _ _ us a;first|(obtain⟨c,rfl⟩:=ar1 us a;exact rfl)|(obtain⟨c,i,rfl⟩:=ar2 us a;exact rfl)|(obtain⟨c,i,k,rfl⟩:=ar3 us a;exact rfl)|(obtain⟨c,i,k,o,rfl⟩:=ar4 us a;exact rfl)|(obtain⟨c,i,k,o,p,rfl⟩:=ar5 us a;exact rfl)):Ci K j g []:=F.binds h
theorem fin{l:W.OpenLaw}{w:Q_}{K:O_}{h:T_}{mg:C_}{fa:R_}(X:K.In h)(G:h.Ns mainGlobals mg)(jx:mg "law" = some (.ref fa))
  {j:R_} {r:R_} {n:R_} {a:R_} {O:R_} {g:R_} {f0:R_} {d0:E_} {f1:R_} {d1:E_} {f2:R_} {d2:E_} {f3:R_} {d3:E_} {f4:R_} {d4:E_} {f5:R_} {d5:E_} {f6:R_} {d6:E_} {f7:R_} {d7:E_} {f8:R_} {d8:E_} {f9:R_} {d9:E_} {hl:R_} {ek:E_} {hm:R_} {el:E_} {hn:R_} {em:E_} {ho:R_} {en:E_} {hp:R_} {eo:E_} {hq:R_} {ep:E_} {hr:R_} {er:E_} {hs:R_} {es:E_} {ht:R_} {et:E_} {hu:R_} {eu:E_} {hv:R_} {ev:E_} {hw:R_} {ew:E_} {hx:R_} {ey:E_} {hy:R_} {ez:E_} {hz:R_} {e0:E_} {h0:R_} {e1:E_} {h1:R_} {e2:E_} {h2:R_} {e3:E_} {h3:R_} {e4:E_} {h4:R_} {e5:E_} {h5:R_} {e6:E_} {h6:R_} {e7:E_} {h7:R_} {e8:E_} {h8:R_} {e9:E_} {h9:R_} {fb:E_} {ia:R_} {fc:E_} {ib:R_} {fe:E_} {ic:R_} {ff:E_} {ie:R_} {fg:E_} {ig:R_} {fh:E_} {ih:R_} {fi:E_} {ii:R_} {fj:E_} {ij:R_} {fk:E_} {ik:R_} {fl:E_} {il:R_} {fm:E_} {im:R_} {fp:E_} {io:R_} {ft:E_} {ip:R_} {fu:E_} {iq:R_} {fv:E_} {ir:R_} {fw:E_} {is:R_} {fy:E_} {iu:R_} {fz:E_} {iv:R_} {ga:E_} {iw:R_} {gb:E_} {ix:R_} {gc:E_} {iy:R_} {ge:E_} {iz:R_} {gf:E_} {i0:R_} {gg:E_} {i1:R_} {ej:E_} {i3:R_} {gi:E_} {i5:R_} {gk:E_} {i7:R_} {gm:E_} {i9:R_} {gp:E_} {ja:R_} {gq:E_} {jb:R_} {gr:E_} {jc:R_} {gs:E_} {jd:R_} {gt:E_} {je:R_} {gu:E_} {jf:R_} {gv:E_} {jg:R_} {gw:E_} {jh:R_} {gx:E_} {ji:R_} {gy:E_} {jj:R_} {gz:E_} {jk:R_} {ha:E_} {jo:R_} {hd:E_} {jp:R_} {he:E_} {jq:R_} {hf:E_} {js:R_} {hg:E_} {jt:R_} {hh:E_} {ju:R_} {hi:E_} {jv:R_} {hj:E_} {jw:R_} {hk:E_} {i2:R_} {gh:E_} {i4:R_} {gj:E_} {i6:R_} {gl:E_} {i8:R_} {gn:E_} {jm:R_} {hb:E_} {jn:R_} {hc:E_} {a6:Tok} {S:Tok} {B:Tok} {D:Str} {u:Tok} {y:Str} {al:Tok} {am:Str} {af:Tok} {bd:Tok} {M:Tok} {R:Tok} {L:Tok} {N:Str} {E:Tok}
  (dD:W.nsIn K mainGlobals "Amounts" = some (some (.ref j)))
  (dE:W.nsIn K mainGlobals "Places" = some (some (.ref r)))
  (dF:W.nsIn K mainGlobals "Clause" = some (some (.ref n)))
  (dL:W.nsIn K mainGlobals "Grove" = some (some (.ref a)))
  (dN:W.nsIn K mainGlobals "Rule" = some (some (.ref O)))
  (dJ:W.nsIn K mainGlobals "Jumps" = some (some (.ref g)))
  (az:Cls K j)
  (a5:Cls K r)
  (a4:Cls K n)
  (i:Cls K a)
  (bq:Cls K O)
  (t:Cls K g)
  (ab:findIn K (.ref j) "state" = some none)
  (P:findIn K (.ref j) "numbers" = some none)
  (ae:findIn K (.ref r) "wanted" = some none)
  (aq:findIn K (.ref n) "cell" = some none)
  (H:findIn K (.ref n) "conditions" = some none)
  (ai:findIn K (.ref n) "makes" = some none)
  (aj:findIn K (.ref a) "levels" = some none)
  (au:findIn K (.ref a) "parts" = some none)
  (ad:findIn K (.ref a) "numbers" = some none)
  (ar:findIn K (.ref a) "bares" = some none)
  (ac:findIn K (.ref a) "amounts" = some none)
  (as:findIn K (.ref a) "boxes" = some none)
  (a2:findIn K (.ref O) "text" = some none)
  (ak:findIn K (.ref O) "clauses" = some none)
  (av:findIn K (.ref g) "grove" = some none)
  (V:findIn K (.ref g) "memories" = some none)
  (ay:findIn K (.ref g) "rule" = some none)
  (A:findIn K (.ref g) "known_squares" = some none)
  (I:findIn K (.ref g) "known_cells" = some none)
  (g0:Fg K "is_whole" LI f0 d0)
  (g1:Fg K "is_state" LJ f1 d1)
  (g2:Fg K "takes" RL f2 d2)
  (g3:Fg K "read_clause" EQ f3 d3)
  (g4:Fg K "read_state" IK f4 d4)
  (g5:Fg K "read_wanted" GU f5 d5)
  (g6:Fg K "read_condition" EA f6 d6)
  (g7:Fg K "read_amounts" FV f7 d7)
  (g8:Fg K "read_numbers" FU f8 d8)
  (g9:Fg K "read_places" EO f9 d9)
  (bu:Fg K "shifted_box" GT hl ek)
  (bv:Fg K "least_box" CY hm el)
  (bw:Fg K "lies_within" GV hn em)
  (bx:Fg K "reach_of" LH ho en)
  (bz:Fg K "bare_field" IN hp eo)
  (b0:Fg K "widened" Nc hq ep)
  (b1:Fg K "trimmed" Nd hr er)
  (b2:Fg K "middle_of" GH hs es)
  (b3:Fg K "is_bare_around" EB ht et)
  (b4:Fg K "widened_over" FT hu eu)
  (b5:Fg K "widened_to" II hv ev)
  (ca:Fg K "planted" Nf hw ew)
  (bg:Fg K "replaced" LG hx ey)
  (cb:Fg K "field_of" LL hy ez)
  (cc:Fg K "by_rows" Nh hz e0)
  (cd:Fg K "cells_of" LN h0 e1)
  (bh:Fg K "gather_cells" FW h1 e2)
  (ce:Fg K "box_of" Pg h2 e3)
  (cf:Fg K "jump" UP h3 e4)
  (cg:Fg K "road" UN h4 e5)
  (ch:Fg K "check_leap" IM h5 e6)
  (ci:Fg K "level_for" Jx h6 e7)
  (cj:Fg K "filled" Pf h7 e8)
  (ck:Fg K "check_box" Jy h8 e9)
  (cl:Fg K "part_in" Ng h9 fb)
  (bi:Fg K "mixed" OB ia fc)
  (cm:Fg K "mixed_quarters" Dj ib fe)
  (cn:Fg K "split_stretch" Fo ic ff)
  (co:Fg K "clause_texts" FX ie fg)
  (cp:Fg K "read_rule" Jw ig fh)
  (cq:Fg K "deciding" LM ih fi)
  (cr:Fg K "becomes" Ni ii fj)
  (cs:Fg K "shown_rule" IJ ij fk)
  (ct:Fg K "nine_parts" IL ik fl)
  (cu:Fg K "fours_of" LK il fm)
  (cv:Fg K "met_in_the_middle" Dw im fp)
  (cw:Fg K "_law_at" Nj io ft)
  (cx:Fg K "_law_map_by" ER ip fu)
  (cy:Fg K "_law_glide_text" Ei iq fv)
  (cz:Fg K "_law_offset" GW ir fw)
  (c0:Fg K "_law_mapped" Dz is fy)
  (c1:Fg K "_law_glided" GY iu fz)
  (c2:Fg K "_law_by_rows" FY iv ga)
  (c3:Fg K "_law_listed" GX iw gb)
  (c4:Fg K "_law_base" JA ix gc)
  (c5:Fg K "_law_heap" Jz iy ge)
  (c6:Fg K "_law_right" IO iz gf)
  (c7:Fg K "_law_box_right" EC i0 gg)
  (c8:Fg K "law" ZN i1 ej)
  (da:Fm K j "holds" "Amounts.holds" Fp i3 gi)
  (dc:Fm K r "holds" "Places.holds" Ej i5 gk)
  (de:Fm K n "fits" "Clause.fits" ET i7 gm)
  (dg:Fm K a "kept" "Grove.kept" IS i9 gp)
  (dh:Fm K a "linked" "Grove.linked" Ga ja gq)
  (di:Fm K a "check_square" "Grove.check_square" Da jb gr)
  (dj:Fm K a "leaf" "Grove.leaf" IR jc gs)
  (dl:Fm K a "solid" "Grove.solid" Ib jd gt)
  (dm:Fm K a "level_of" "Grove.level_of" EE je gu)
  (dn:Fm K a "state_of" "Grove.state_of" ED jf gv)
  (dp:Fm K a "living" "Grove.living" FZ jg gw)
  (bj:Fm K a "counted" "Grove.counted" DD jh gx)
  (dq:Fm K a "span" "Grove.span" IQ ji gy)
  (bl:Fm K a "boxed" "Grove.boxed" ES jj gz)
  (dr:Fm K a "measured" "Grove.measured" Dl jk ha)
  (du:Fm K g "change" "Jumps.change" Ek jo hd)
  (dv:Fm K g "after" "Jumps.after" Ia jp he)
  (dw:Fm K g "check_jump" "Jumps.check_jump" DJ jq hf)
  (bm:Fm K g "reckoned" "Jumps.reckoned" Dk js hg)
  (dx:Fm K g "fresh" "Jumps.fresh" Cf jt hh)
  (dy:Fm K g "four_halfway" "Jumps.four_halfway" Bq ju hi)
  (dz:Fm K g "middle_after" "Jumps.middle_after" CZ jv hj)
  (ea:Fm K g "cell_after" "Jumps.cell_after" Cu jw hk)
  (c9:Fi K j "Amounts.__init__" Gb i2 gh)
  (db:Fi K r "Places.__init__" GZ i4 gj)
  (dd:Fi K n "Clause.__init__" Ic i6 gl)
  (df:Fi K a "Grove.__init__" IT i8 gn)
  (ds:Fi K O "Rule.__init__" GI jm hb)
  (dt:Fi K g "Jumps.__init__" IP jn hc)
  (eb:W.nsIn K mainGlobals "all" = some none)
  (br:W.nsIn K mainGlobals "bool" = some none)
  (bb:W.nsIn K mainGlobals "enumerate" = some none)
  (ec:W.nsIn K mainGlobals "int" = some none)
  (a3:W.nsIn K mainGlobals "isinstance" = some none)
  (ed:W.nsIn K mainGlobals "len" = some none)
  (bt:W.nsIn K mainGlobals "list" = some none)
  (ee:W.nsIn K mainGlobals "max" = some none)
  (ef:W.nsIn K mainGlobals "min" = some none)
  (bo:W.nsIn K mainGlobals "range" = some none)
  (bf:W.nsIn K mainGlobals "sorted" = some none)
  (eg:W.nsIn K mainGlobals "str" = some none)
  (eh:W.nsIn K mainGlobals "sum" = some none)
  (bp:W.nsIn K mainGlobals "tuple" = some none)
  (ei:W.nsIn K mainGlobals "zip" = some none)
  (be:W.nsIn K mainGlobals "STATES" = some (some (.int 8 a6)))
  (a1:W.nsIn K mainGlobals "NEIGHBOURS" = some (some (.int 8 S)))
  (ah:W.nsIn K mainGlobals "STATE_FIGURES" = some (some (.str D B)))
  (aa:D=Str.ofString "01234567")
  (Y:W.nsIn K mainGlobals "AMOUNT_FIGURES" = some (some (.str y u)))
  (U:y=Str.ofString "012345678")
  (bc:W.nsIn K mainGlobals "ANY_SIGN" = some (some (.str am al)))
  (ba:am=Str.ofString "*")
  (a7:W.nsIn K mainGlobals "TOP_LEVEL" = some (some (.int 48 af)))
  (bn:W.nsIn K mainGlobals "LIMIT" = some (some (.int 1099511627776 bd)))
  (ax:W.nsIn K mainGlobals "LEAST_LEVEL" = some (some (.int 1 M)))
  (a0:W.nsIn K mainGlobals "MOST_CELLS" = some (some (.int 4096 R)))
  (aw:W.nsIn K mainGlobals "CLAUSE_MARK" = some (some (.str N L)))
  (ao:N=Str.ofString "; ")
  (an:W.nsIn K mainGlobals "LEAST_JUMPED" = some (some (.int 2 E)))
  : ∃fd:FuncData,(∀(s:P_)(v:S_),BindsTo s fd ⟨[v],[]⟩ [("_law_script",v)])/\∀Q:Heap,K.In Q->Q.Ns mainGlobals mg->AN l.prog w K mg Q CX0 153 fa fd ["_law_script"] (VV K):=by
 have e:=jx.symm.trans (K1 X G c8.at_);cases e;have no:∀{x:Str},W.nsIn K mainGlobals x=some none->mg x=none:=λz=>W.mg_none_of X G z;subst ao;subst ba;subst U;subst aa;have T:Top K mg (⟨j,r,n,a,O,g⟩:Ad):=⟨no eb,no br,no bb,no ec,no a3,no ed,no bt,no ee,no ef,no bo,no bf,no eg,no eh,no bp,no ei,⟨a6,K1 X G be⟩,⟨S,K1 X G a1⟩,⟨B,K1 X G ah⟩,⟨u,K1 X G Y⟩,⟨al,K1 X G bc⟩,⟨af,K1 X G a7⟩,⟨bd,K1 X G bn⟩,⟨M,K1 X G ax⟩,⟨R,K1 X G a0⟩,⟨L,K1 X G aw⟩,⟨E,K1 X G an⟩,K1 X G dD,az,ab,P,K1 X G dE,a5,ae,K1 X G dF,a4,aq,H,ai,K1 X G dL,i,aj,au,ad,ar,ac,as,K1 X G dN,bq,a2,ak,K1 X G dJ,t,av,V,ay,A,I⟩
 refine⟨ej,λs v=>(by obtain⟨_,_,_,_,_,_,_,_,_,rfl,_⟩:=c8.fn.ex;exact .of_eq Z),λQ _ _=>?_⟩;have d:∀{CX:CXT}{k:Nat}{x:Str}{st:Stmt}{f:R_}{fd:E_}{ps:K_}{sp:Sp},Fg K x st f fd->AN l.prog w K mg Q CX k f fd ps sp->Ci K fd ps []->Cal l.prog w K mg Q CX k x ps sp:=λF o b=>⟨_,_,o,K1 X G F.at_,F.fn.kp,b⟩
 have p:∀{CX:CXT}{k:Nat}{C:R_}{x q:Str}{st:Stmt}{f:R_}{fd:E_}{ps:K_}{sp:Sp},Fm K C x q st f fd->Cls K C->AN l.prog w K mg Q CX k f fd ps sp->Ci K fd ps []->BJ l.prog w K mg Q CX k C x ps sp:=λF c o b=>⟨⟨_,_,o,F.me,b⟩,c⟩
 have ag:∀{CX:CXT}{k:Nat}{C:R_}{x q:Str}{st:Stmt}{f:R_}{fd:E_}{ps:K_}{sp:Sp},Fi K C q st f fd->mg x=some (.ref C)->AN l.prog w K mg Q CX k f fd ps sp->Ci K fd ps []->Qs l.prog w K mg Q CX k x C ps sp:=λF m o b=>⟨_,_,o,F.mk_,m,b⟩
 have aE:=d g0 (ok_iw g0.fn T) (bnd g0.fn);have aU:=d g1 (ok_is g1.fn T aE) (bnd g1.fn);have aT:=p dg i (ok_kept dg.fn T) (bnd dg.fn);have cM:=ag df T.m_Grove (ok_ginit df.fn T aT) (bnd df.fn)
 have a8:=p dh i (ok_link dh.fn T aT) (bnd dh.fn);have aB:=p di i (ok_chk di.fn T aE) (bnd di.fn);have aW:=p bj i (ok_cnt bj.fn T bj.me (bnd bj.fn) 49) (bnd bj.fn);have bM:=p dp i (ok_liv dp.fn T aB aW) (bnd dp.fn);have aK:=p dj i (ok_leaf dj.fn T aU) (bnd dj.fn);have a9:=p dm i (ok_lev dm.fn T aB) (bnd dm.fn);have aX:=p dl i (ok_solid dl.fn T aE aK a8) (bnd dl.fn);have aJ:=p dn i (ok_sta dn.fn T a9) (bnd dn.fn);have aM:=d bu (ok_shift bu.fn T) (bnd bu.fn);have bD:=d bv (ok_least bv.fn T) (bnd bv.fn);have b9:=p bl i (ok_box bl.fn dr.fn T bl.me (bnd bl.fn) dr.me (bnd dr.fn) aM bD 49) (bnd bl.fn);have bZ:=p dq i (ok_span dq.fn T aB b9) (bnd dq.fn);have aD:=d bw (ok_lie bw.fn T) (bnd bw.fn);have aC:=d bx (ok_reach bx.fn T a9) (bnd bx.fn);have bJ:=d b0 (ok_wid b0.fn T a9 a8) (bnd b0.fn);have cF:=d b2 (ok_mid b2.fn T a8) (bnd b2.fn);have bF:=d b3 (ok_ba b3.fn T) (bnd b3.fn);have aR:=d b1 (ok_trim b1.fn T a9 bF cF) (bnd b1.fn);have aS:=d b4 (ok_wo b4.fn T aD aC bJ) (bnd b4.fn);have b8:=d bz (ok_bareF bz.fn T) (bnd bz.fn);have cH:=d ck (ok_chb ck.fn T) (bnd ck.fn);have cT:=d cl (ok_pi cl.fn T aC) (bnd cl.fn);have aO:=d cn (ok_split cn.fn T) (bnd cn.fn);have cP:=d bi (ok_mix bi.fn cm.fn T (K1 X G bi.at_) (bnd bi.fn) (K1 X G cm.at_) (bnd cm.fn) aO a8 50) (bnd bi.fn);have cQ:=d cj (ok_fill cj.fn T cH aD aU aS aX a9 cT cP aR) (bnd cj.fn);have bN:=d bg (ok_rep bg.fn T (K1 X G bg.at_) (bnd bg.fn) aK a8 50) (bnd bg.fn);have cS:=d ca (ok_plant ca.fn T aD aU aC aS bN aR) (bnd ca.fn);have cN:=d cb (ok_fld cb.fn T b8 cS) (bnd cb.fn);have cV:=d cc (ok_rowG cc.fn T) (bnd cc.fn);have b7:=d bh (ok_ga bh.fn T (K1 X G bh.at_) (bnd bh.fn) aJ 50) (bnd bh.fn);have cD:=d cd (ok_co cd.fn T bM aC b7 cV) (bnd cd.fn);have cZ:=d ce (ok_boxof ce.fn T bZ aC aM) (bnd ce.fn);have cK:=d g2 (ok_takes g2.fn) (bnd g2.fn);have cW:=ag c9 T.m_Amounts (Yw c9.fn T) (bnd c9.fn)
 have dA:=ag db T.m_Places (Yu db.fn T) (bnd db.fn)
 have dB:=ag dd T.m_Clause (Yv dd.fn T) (bnd dd.fn)
 have cX:=p da az (UU da.fn T) (bnd da.fn);have cY:=p dc a5 (UT dc.fn T cK) (bnd dc.fn);have bU:=p de a4 (ok_Fits de.fn T cK cX cY) (bnd de.fn);have cO:=d cq (ok_dec cq.fn T bU) (bnd cq.fn);have bK:=d cr (ok_bec cr.fn T cO) (bnd cr.fn);have aP:=d g4 (ok_rs g4.fn T) (bnd g4.fn);have aY:=d g5 (ok_rw g5.fn T aP) (bnd g5.fn);have bO:=d g8 (ok_rn g8.fn T) (bnd g8.fn);have bP:=d g7 (ok_ram g7.fn T aP bO cW) (bnd g7.fn);have bV:=d g9 (ok_rpl g9.fn T aY dA) (bnd g9.fn);have bE:=d g6 (ok_rcond g6.fn T bP bV) (bnd g6.fn);have bW:=d g3 (ok_rc g3.fn T aP aY bE dB) (bnd g3.fn);have bQ:=d co (ok_ct co.fn T) (bnd co.fn);have dH:=ag ds T.m_Rule (ok_ri ds.fn T bQ bW) (bnd ds.fn)
 have bC:=d cp (ok_rr cp.fn T dH bK) (bnd cp.fn);have cB:=d cs (ok_show cs.fn T) (bnd cs.fn);have bL:=p du t (ok_chg du.fn T cB) (bnd du.fn);have cL:=ag dt T.m_Jumps (ok_jinit dt.fn T bL) (bnd dt.fn)
 have aI:=p ea t (ok_cel ea.fn T aJ aK bK) (bnd ea.fn);have aG:=p dz t (ok_mid2 dz.fn T a8 aI) (bnd dz.fn);have aQ:=d ct (ok_nine ct.fn T a8) (bnd ct.fn);have aV:=d cu (ok_fours cu.fn T) (bnd cu.fn);have aH:=d cv (ok_met cv.fn T a8) (bnd cv.fn);have aF:=p bm t (Wp bm.fn dy.fn dx.fn T bm.me (bnd bm.fn) dy.me (bnd dy.fn) dx.me (bnd dx.fn) aG a8 aQ aV aH 46) (bnd bm.fn);have bB:=p dw t (ok_cj dw.fn T a9 aE) (bnd dw.fn);have bT:=p dv t (Yt dv.fn T A4 bB aF) (bnd dv.fn);have cC:=d ch (ok_chg' ch.fn T aE cZ aD) (bnd ch.fn);have cG:=d ci (ok_lvf ci.fn T aC) (bnd ci.fn);have cA:=d b5 (ok_wt b5.fn T a9 bJ) (bnd b5.fn);have dG:=d cg (ok_rdg cg.fn T cC b8 cG cA bT aR) (bnd cg.fn);have bX:=d cf (ok_jpg cf.fn T dG aR) (bnd cf.fn);have aA:=d cw (ok_at cw.fn T) (bnd cw.fn);have bR:=d c2 (ok_row c2.fn T) (bnd c2.fn);have bA:=d c3 (ok_lsd c3.fn T bR) (bnd c3.fn);have bS:=d c4 (ok_base c4.fn T) (bnd c4.fn);have cJ:=d c5 (ok_heap c5.fn T aA) (bnd c5.fn);have bY:=d cx (ok_mapb cx.fn T aA) (bnd cx.fn);have aN:=d cy (ok_gtx cy.fn T) (bnd cy.fn);have aZ:=d cz (ok_off cz.fn T) (bnd cz.fn);have b6:=d c0 (ok_mpd c0.fn T) (bnd c0.fn);have bH:=d c1 (ok_gld c1.fn T b6 aZ) (bnd c1.fn);have bI:=d c6 (ok_rt c6.fn T) (bnd c6.fn);have bG:=d c7 (ok_bxr c7.fn T cM aA aZ aN bC cL aX cQ bX b6) (bnd c7.fn);exact ok_law c8.fn T cM aA bY bG aN bC bS cJ bA cN cL bX cD bI bH
theorem walk{l:W.OpenLaw}{q:N_}{c:K_}{o:(Str->Option Value)->Heap->Prop}{i:World->Heap->Prop}{d:DefRec}{K:Params->W.Frag}(v:l.most=some 63)(g:d.params.defaults=[])
  (r:∀(w:Q_)(h:T_),i w h->(K w.params).In h)
  (F:∀(w:Q_)(e:C_)(j:R_)(h:T_),(K w.params).In h->h.Ns mainGlobals e->e d.name=some (.ref j) ->
   ∃m:FuncData,(∀(s:P_)(u:S_),BindsTo s m ⟨[u],[]⟩ [("_law_script",u)])/\∀b:Heap,(K w.params).In b->b.Ns mainGlobals e->AN l.prog w (K w.params) e b CX0 153 j m ["_law_script"] (VV (K w.params))) :
  W.WalkO q c o i l.row.toRowW d [] (λf vs=>PySem.call f vs) :=
 L2.VB (n:=63) (k:=153) (x:="_law_script") (CX:=λ_=>CX0) (sp:=λw=>VV (K w.params)) v A4 g ⟨Z,by decide,by decide⟩ r F (λ_ _ a ns t _ p=>⟨a,ns,Z,p,t,λ_=>Z⟩) λ_ _ _ _ _ z=>z
end J
structure PySem.W.Fast:Prop where(tw3183946228695818417 tw17432129762684754584 tw4391734758394771002 tw7493910405360156711 tw9130373004657401941 tw5031867673153059027 tw3759906992136444300 tw1501094421114718837 tw5226223727793379133 tw13126117026356844584 tw16803428861670553105 tw6264368706740507540 tw6877747404955163694 tw13145636980824239728 tw12776939616891103618 tw16574960613362584826 tw15969739166313345858 tw16751790373537083602 tw10069386410681097304 tw16630073322146436930 tw13677694421598477574 tw13634300456600495343 tw8701751860297947420 tw8650062233970991453 tw13794086041486233490 tw9994851755404818431 tw13125493435142659262 tw8991586698371011105 tw245937157531679220 tw9740462922915881512 tw14828295973927257742 tw5853638928731947438 tw12086552087292618002 tw6522000658895420520 tw8161418469441461674 tw12538302188506057009 tw5862734234029232666 tw13660074615686050858 tw14547089646245014041 tw4546345404629146475 tw14489853581091678061 tw13912093041494803663 tw5676643262123317749 tw6276631940958173652 tw10073898069681346780 tw4311117514643272072 tw15955703007545515259 tw7386211521117354278 tw2753069183499657493 tw4221045234370507978 tw1803565410422749769 tw7818998592537965281 tw1286395248155101618 tw6258629615034334391 tw6316431368680024606 tw10023608709109039303 tw11812203702401419862 tw17118902568723043295 tw7684204496970837455 tw11908714747647934988 tw16443755598470170153 tw13868479139427945048 tw5592471251796241020 tw7084357983308274227 tw17764265186690551945 tw11202530618386903355 tw8955145123015628649 tw14524750272389411645 tw14814318149187967127 tw3182459986988024754 tw4329390467516171909 tw17213391662773234856 tw2666904525803661594 tw10536014440528970697 tw7377285989487942135 tw17812516641040566845 tw8451285944811756493 tw12553348522928554314 tw1168990570671023227 tw16916123065245309987 tw5228691045103873507 tw15865691044080667053 tw399989583492996678 tw2728098496816093065 tw14036319943526427567 tw6000312753342627567 tw5502589970812989960 tw15797195945700156511 tw1327114418184198283 tw9291942468264368983 tw1264897447762743118 tw17258266590410442433 tw11129774957110143530 tw17751932664854788554 tw8624616695611529439 tw4490988785669998355 tw6042344843469807110 tw15333846834224583601 tw1807901209047837460 tw17721240148000436519 tw15335022336077184495 tw6401746316885982513 tw5067652817112386253 tw4566129692054204400 tw9979408568727096461 tw16201499840080315962 tw13179440434891264745 tw3913529169590950257 tw12128017257593814002 tw17585378882878218837 tw9274953551318059164 tw5652579555680491757 tw7689100832027397298 tw8939497622819718057 tw5278011869262477600 tw12086818543224164150 tw15649704933293817569 tw12627750470302942468 tw14335693866057166504 tw2349494291934076126 tw4592534292880219100 tw6774179045738796737 tw15941148365525258582 tw10971603874453884945 tw8210811577906474590 tw6696854699257194320 tw8412401624685864377 tw9497274150434462463 tw109398914591967028 tw13972870787940718470 tw1253306840381107267 tw15135560289428570284 tw8087512023225586829 tw16546439629556633679 tw5526879646577224324 tw14452275414455718371 tw16908926463195492289 tw2372377155652165858 tw3960708396644259927 tw5092682712198980991 tw11384233627410773566 tw16528427591747425572 tw17349452288174088308 tw9638240346593504878 tw3733869837213151918 tw2844306152265596428 tw999856140737108745 tw12323360009357331632 tw2325207554016097033 tw9282587909564976310 tw10460220834047457853 tw4039820436193165685 tw12816190936346331058 tw10833742117888441615 tw8194191653320091110 tw16233331645229052272 tw11713894695715584006 tw13607598891657327276 tw12284127628911029386 tw17826613348369997648 tw18158934434482165594 tw8128919114530527410 tw4856326294957980589 tw7324486181629531145 tw3590569031912641630 tw9790623215739148217 tw11325183155116901576 tw1162880213189565193 tw2541474828338130221 tw11396560950637271989 tw26388499427011770 tw6260302778998740691 tw13856985431117955361 tw5122421824844905486 tw13204887838616701215 tw1151519420350185284 tw1624632686878312163 tw13096176163100550363 tw317648094038823612 tw13820132222707509025 tw15590535721236453554 tw11397090231978866888 tw1958644302773793851 tw1051724495954587853 tw4332045983505454055 tw14398588616948910876 tw4980641242725363315 tw7694535054384047517 tw3179522878230002357 tw12853857062566899356 tw16090605854695443530 tw13030823799359862638 tw11199341303559733068 tw10873234143912011085 tw653476761210310437 tw6120523445837249619 tw10150160339987261517 tw13488053904329497229 tw4274885791907432347 tw13563406727547254860 tw1211785598630781702 tw10067079796869630330 tw12876074048142781493 tw7520490162908697858 tw14270049997780422438 tw17607530873085283702 tw7215586473023311937 tw3886093435715107360 tw9108429381864454802 tw2979345063507526034 tw3386469755056355535 tw7314071201985788090 tw6225953512287513529 tw12625100885848436844 tw9022536272417263034 tw6044992066362285017 tw16369650304047893911 tw1833487091983481609 tw7921036178817069370 tw10541258455563649451 tw10419244659206324106 tw3741805747836467864 tw15101522772886400557 tw16290734783052599496 tw11903758068350719226 tw18084976637123117784 tw12096142931320110671 tw9049376702545516514 tw3060636145417827436 tw3826721191960130480 tw15108832415828266218 tw2822306639642771937 tw8906537963000849695 tw8567971269278764854 tw8896958372006858452 tw12769712996052460802 tw11118313034808487419 tw11329960609086277314 tw14345976889560559828 tw4361866659084397144 tw9167518843190063991 tw50114023616070035 tw5439081767995883201 tw18426971696775326507 tw16475672724003017921 tw9639411828822377946 tw15142636121854652722 tw11853804949616560720 tw13777729229015144163 tw2715301707247385690 tw1110961980265785744 tw13478078891034705859 tw8574006154641802703 tw1358924074733985213 tw15479957341816415218 tw12180492319667658110 tw5924500708803378102 tw5743907011443610637 tw18297990096952996792 tw10580988455089337893 tw12879994143039314525 tw14795830923604670480 tw8511079565702841764 tw17023539550282055533 tw17363917973932562580 tw13677092341564764013 tw8095571059732904564 tw12928741320919748610 tw11062362247701288763 tw9159500941630326465 tw16357829172639380010 tw4178415137896379918 tw1098020829539836907 tw4902230650411684099 tw3794958959535581149 tw7181119301822743966 tw10752412037297628917 tw5285892003677862520 tw7412802670711466881 tw10405611144621895427 tw12832600035515718365 tw7722248349037552107 tw12277902370445625774 tw2782065885203277709 tw13422356353289016520 tw13729743753519393229 tw12086095776525054781 tw17789784000683957515 tw12052975657849856049 tw16220343174530043901 tw16616248552162988548 tw18180679531495951270 tw14799950459485229736 tw14282111766715882943 tw12305887726515984625 tw1732016408666525467 tw13656023115812843943 tw5039286234402556542 tw7728898774256720322 tw15460303362085114772 tw7919811493243871299 tw9292365893531110869 tw18813112124569840 tw17733455059934486027 tw6999648904511991237 tw2277208940666245825 tw2953681180607881633 tw17794430366332381557 tw3992377182358258627 tw9741579906713479278 tw1375284264203156185 tw11681522195151098259 tw9147900160563675368 tw6649041079856803206 tw5724669041348653215 tw13299109927380029684 tw1945270457607392878 tw14503457033640715980 tw6426986344954752560 tw6383773137398674067 tw728838457156085714 tw14472298432313433523 tw13787649975049028717 tw18301549850070897498 tw11728751831749755628 tw8263320839626136588 tw3815156175032711927 tw2482445944856077068 tw14898694162357134244 tw14841369655638793402 tw3374530889958699815 tw9078122065163621094 tw7814529261193257612 tw10988002807446832051 tw12700240338480541766 tw8186924935624866322 tw10866342261229689948 tw9812710649065367275 tw14093554545945204213 tw15652705975959697244 tw8320494336480765823 tw1622362128949006648 tw2125532279266360365 tw17708984382624065368 tw12290517337109744567 tw17916728969182166891 tw16709041867446250669 tw12680629095941706321 tw12170927264591853240 tw10191173969690815900 tw5791285060499282546 tw15770603208146437592 tw863137714365670517 tw15294079049329858651 tw17549968242421092555 tw18242365945665784230 tw9599363696564748830 tw13843446755068501844 tw14070208709457153153 tw14717927316777132202 tw10362523189600391980 tw4288791613278943309 tw12493775019813419265 tw17598868357044909560 tw15682632191662598969 tw16767240505999567480 tw5856913966651831676 tw14964250396680525101 tw13886721205983531594 tw2568773509198628119 tw3409352130928339993 tw10201976729933932422 tw2340667422642039508 tw1035100304288026834 tw2785788766811961211 tw17074798086646869301 tw88300323911392464 tw1558970641195586757 tw17237031011739845695 tw8566487132537780851 tw4782244020380485130 tw13358137714479946130 tw12273437669623031119 tw3940903167777115398 tw927703141491809547 tw17640348651981237319 tw4384404894328923727 tw13783207388405974131 tw1581440053142330187 tw16406439932968267964 tw10180421422288497164 tw13895680614610974218 tw3595916191376927566 tw4592000782334575789 tw11970925292683953463 tw748196498495564035 tw10481118188858418798 tw3506487753490784805 tw5494247024063679975 tw13952839788987568475 tw13257394577549301481 tw4732951386137411435 tw14427293447387523646 tw16535603148534701017 tw16985812288279073218 tw14364992507808678104 tw17929395037499704737 tw12863916896436783021 tw17989897420394775600 tw6967381273056896313 tw17107758007669382024 tw5130956365379642963 tw12065184114339321451 tw2241302589618648591 tw6172710313519633493 tw12056729133407987000 tw3195204430001701164 tw6516834650285277466 tw11450428665445816641 tw12711893809608977400 tw13912090156108443007 tw17280488391780323196 tw7244529547851797032 tw15688620374179964301 tw7074916452287471340 tw2512454913495716806 tw12024434591472630041 tw9395500038636452724 tw6375401872072339802 tw16597149759858549877 tw17541645867986122211 tw8405858492585658842 tw11553404306219898496 tw7268716052922877091 tw7946169301291117094 tw8552490807477257107 tw2799878685176953962 tw10503575285127482893 tw10019615470575384829 tw1666197374557415620 tw4595343992941990987 tw6095308772114308252 tw4727117189714040603 tw166885777601782931 tw16462854936213269306 tw2864879251167624681 tw9534954298385221751 tw758339078199305305 tw12103672588936643132 tw5351963592906633634 tw9636724205242480029 tw13757996592558655515 tw18039780423959141721 tw11452779488369111293 tw16340138041606882580 tw18054499713023160714 tw3964590604699686596 tw6909574282826834150 tw6864965211556193254 tw14893163705561190766 tw6634362215219977778 tw7191813949154691391 tw5034124906470492949 tw4418617769797648726 tw3807940436535370341 tw14900650701936955487 tw7082261869693597880 tw5532969064294082743 tw5036220198635992958 tw9116598774193894719 tw15757583461763905424 tw13678886816239559989 tw15977784236582192816 tw17665243041318823736 tw11802987248318830862 tw8297219992954940856 tw3318085267586978746 tw17868638066877386612 tw801854986848027012 tw3825212840866579205 tw9824603619542291201 tw6199073510732920731 tw7523945636778112751 tw7414224844314559967 tw6935221809016100186 tw15719027600155685427 tw2188847441443652530 tw11597340795643589198 tw5151933948930381342 tw13139492353559413770 tw11527933465297612741 tw11681259216031071684 tw5592971246992312355 tw10504970849669178274 tw10219220429049209626 tw5602128197108404479 tw13352267906301792032 tw9362403840286408752 tw10123517728627969091 tw2677733984514721115 tw6037841710227606189 tw16425283989881380711 tw16123993303415467473 tw201723072894456416 tw6969667236738886684 tw11699600710925410494 tw4013173824551277688 tw7731890329908677781 tw15979477351578289979 tw4530079089769947517 tw4029518988559843363 tw9732067715327538629 tw12458202825188018248 tw928564791224185276 tw14268774821508553696 tw3541205289256268307 tw18355570998613377748 tw8780174038904554633 tw7602451236468806477 tw4049194059729167603 tw8486757475337785494 tw10786558720291062573 tw13238074719093961995 tw9978270990023982851 tw4241913255944977878 tw12207760919260385798 tw1147342775252071713 tw9677041315033792456 tw15767831904098752068 tw15431057510531532327 tw12463932025216364905 tw3284789887733151405 tw7800872363354556202 tw13871429570409636224 tw15783275369262453851 tw15224181215133525153 tw10429497994147706452 tw3394796412310097668 tw3751486134704579237 tw16699972985773863195 tw14673802811436896052 tw14096530857004309398 tw16611818258841073450 tw9732179317387277108 tw1814562191388215422 tw14104995642013478731 tw161247015349630194 tw13645021023427150566 tw17837372600510560766 tw15975972795707420562 tw12688446054163407674 tw8928202981271978214 tw1479614538393036496 tw10925878855244761682 tw4085516873461635772 tw1366310707389182790 tw6107370634821810357 tw12308901657899948962 tw7450540767625771989 tw3477198408892069549 tw9695588997816230603 tw15194672783650219860 tw7633793686610665381 tw4586474667975257582 tw3894246549939745972 tw2941286267772223949 tw1232536452449412653 tw6153875804269478224 tw4845106886785069377 tw5570964069908054579 tw671890488645353706 tw12425818406870624918 tw3574484671647303210 tw475725733661476381 tw916743328717125919 tw11380134919216184472 tw2502330563042365154 tw1088589650636522785 tw1031640206366398355 tw620800334990589687 tw15627244951423817034 tw13671703593505823011 tw3322825198503531715 tw7801217162937976874 tw8429878681227005671 tw8947747717226346444 tw12383568203922270230 tw17432493249333760208 tw16371272476842384683 tw16666244358562569269 tw1177915996828408998 tw5063304107749945964 tw6371994332446515150 tw11967889028296941125 tw3200348521306928874 tw569489144068855 tw5031342106116006555 tw9381376534238304260 tw3382729673459445965 tw11413199758566118354 tw8046600581915424568 tw18387343571914961832 tw8053182569893184748 tw2370581193775977843 tw17672655187739735515 tw12344303864160750311 tw5828376581705072936 tw9739356618968789106 tw13992142182086838468 tw3536168772201750358 tw3974740767583835809 tw3142018651218554159 tw8668904211206798052 tw8170143757729251280 tw16628703951666594547 tw12774509616061782644 tw16831361696422286774 tw13264796465490305915 tw5180845500049558861 tw8358478066359860520 tw11423037862555909975 tw3339767159435776817 tw11153397158582701352 tw17130737800138762925 tw8786648821307671675 tw5136867186868452828 tw4292485732995718680:True)
open PySem PySem.W PyProof.Rows
set_option maxRecDepth 100000 in
set_option maxHeartbeats 0 in
theorem PySem.Challenge.cw_jumpfield_k57_whole_far_gliding_holds : PySem.Challenge.rw_jumpfield_k57_whole_far_gliding.Holds := by
 w_on; o_law; k_head; (case hw=>w_witness2)
 k_fill
 refine J.walk (l:=PySem.Challenge.rw_jumpfield_k57_whole_far_gliding) rfl rfl (fun w h Y=>PySem.W.kIn_of Y) ?F
 case F =>
  intro w mg fa h KX G hmg;refine' J.fin KX G hmg ?h0 ?h1 ?h2 ?h3 ?h4 ?h5 ?h6 ?h7 ?h8 ?h9 ?h10 ?h11 ?h12 ?h13 ?h14 ?h15 ?h16 ?h17 ?h18 ?h19 ?h20 ?h21 ?h22 ?h23 ?h24 ?h25 ?h26 ?h27 ?h28 ?h29 ?h30 ?h31 ?h32 ?h33 ?h34 ?h35 ?h36 ?h37 ?h38 ?h39 ?h40 ?h41 ?h42 ?h43 ?h44 ?h45 ?h46 ?h47 ?h48 ?h49 ?h50 ?h51 ?h52 ?h53 ?h54 ?h55 ?h56 ?h57 ?h58 ?h59 ?h60 ?h61 ?h62 ?h63 ?h64 ?h65 ?h66 ?h67 ?h68 ?h69 ?h70 ?h71 ?h72 ?h73 ?h74 ?h75 ?h76 ?h77 ?h78 ?h79 ?h80 ?h81 ?h82 ?h83 ?h84 ?h85 ?h86 ?h87 ?h88 ?h89 ?h90 ?h91 ?h92 ?h93 ?h94 ?h95 ?h96 ?h97 ?h98 ?h99 ?h100 ?h101 ?h102 ?h103 ?h104 ?h105 ?h106 ?h107 ?h108 ?h109 ?h110 ?h111 ?h112 ?h113 ?h114 ?h115 ?h116 ?h117 ?h118 ?h119 ?h120 ?h121 ?h122 ?h123 ?h124 ?h125 ?h126 ?h127 ?h128 ?h129 ?h130 ?h131 ?h132 ?h133 ?h134 ?h135 ?h136 ?h137 ?h138 ?h139 ?h140 ?h141 ?h142 ?h143 ?h144 ?h145 ?h146 ?h147 ?h148
  (case h0 | h1 | h2 | h3 | h4 | h5=>k_is)
  (case h6 | h7 | h8 | h9 | h10 | h11=>(refine' ⟨?_,?_,?_,?_⟩<;>k_is))
  (case h12 | h13 | h14 | h15 | h16 | h17 | h18 | h19 | h20 | h21 | h22 | h23 | h24 | h25 | h26 | h27 | h28 | h29 | h30=>k_is)
  (case h31 | h32 | h33 | h34 | h35 | h36 | h37 | h38 | h39 | h40 | h41 | h42 | h43 | h44 | h45 | h46 | h47 | h48 | h49 | h50 | h51 | h52 | h53 | h54 | h55 | h56 | h57 | h58 | h59 | h60 | h61 | h62 | h63 | h64 | h65 | h66 | h67 | h68 | h69 | h70 | h71 | h72 | h73 | h74 | h75 | h76 | h77 | h78 | h79 | h80 | h81 | h82 | h83 | h84 | h85 | h86 | h87 | h88 | h89=>(apply J.Fg.mk; k_is; apply L2.Vp<;>k_is))
  (case h90 | h91 | h92 | h93 | h94 | h95 | h96 | h97 | h98 | h99 | h100 | h101 | h102 | h103 | h104 | h105 | h106 | h107 | h108 | h109 | h110 | h111 | h112=>(apply J.Fm.mk; (apply L2.Qr.mk<;>k_is); apply L2.Vp<;>k_is))
  (case h113 | h114 | h115 | h116 | h117 | h118=>(apply J.Fi.mk; (apply L2.Mk.mk<;>k_is); apply L2.Vp<;>k_is))
  (case h119 | h120 | h121 | h122 | h123 | h124 | h125 | h126 | h127 | h128 | h129 | h130 | h131 | h132 | h133 | h134 | h135 | h136=>k_is)
  (case h137=>decide +kernel)
  (case h138=>k_is)
  (case h139=>decide +kernel)
  (case h140=>k_is)
  (case h141=>decide +kernel)
  (case h142 | h143 | h144 | h145 | h146=>k_is)
  (case h147=>decide +kernel)
  (case h148=>k_is)
