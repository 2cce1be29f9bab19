import PyProof.Rows.All
import Wide.All
import OpenK.AllK
import Wide.FinOn
import Lean
import PyProof.EqAt
import PyProof.EqKinds
import PyProof.TupleCall
import PyProof.Rows.CatFin
import PyProof.StrLawsIn
import KE.IntTextLaws
import KE.IntTextText
import PyProof.StrLawsTight
import PyProof.StrLawsChain
import PyProof.Rows.StrLawsPart
import PyProof.Rows.StrFirst
import PyProof.Rows.ReprOcc
import PyProof.Rows.StrItems
import PyProof.SumAny
import PyProof.SeqI3
import PyProof.WalkInts
import PyProof.NeKinds
import KE.KDictLaws
import PyProof.DictIter
import PyProof.DictWalks
import PyProof.Rows.DictUnroll
import PyProof.MaxThree
import PySem.Challenge.RW_jumpfield_k63_whole_reasons_of_far_jumps
set_option compiler.extract_closed false
set_option bootstrap.genMatcherCode false
set_option Elab.async false
set_option linter.all false
set_option genSizeOfSpec false
set_option maxRecDepth 100000
set_option maxHeartbeats 8000000
theorem Z{α:Sort u}{a:α}:a=a:=rfl
abbrev A_:=List (PySem.Addr×PySem.Obj)
abbrev B_:=PySem.Value->PySem.Shared->Prop
abbrev C_:=PySem.Str->Option PySem.Value
abbrev D_:=Int->Int->Nat
abbrev E_:=PySem.FuncData
abbrev F_:=List PySem.Value
abbrev H_:=List PySem.Addr
abbrev I_:=List Int
abbrev J_:=List Nat
abbrev K_:=List PySem.Str
abbrev L_:=Nat->Nat
abbrev M_:=Array PySem.Value
abbrev N_:=PySem.Program
abbrev O_:=PySem.W.Frag
abbrev P_:=PySem.Shared
abbrev Q_:=PySem.World
abbrev R_:=PySem.Addr
abbrev S_:=PySem.Value
abbrev T_:=PySem.Heap
theorem O_9{α:Sort u}{a:α}{q:Prop}:a=a∨q:=Or.inl Z
theorem R_9{α:Sort u}{β:Sort v}{γ:Sort w}{f:α->β->γ}:∀a b,f a b=f a b:=λ_ _=>Z
theorem S_4{p:Prop}(h:p:=by show 4<=PySem.sizeLine;decide):p:=h
theorem S_0{p:Prop}(h:p:=by show 0<=PySem.sizeLine;decide):p:=h
theorem S_1{p:Prop}(h:p:=by show 1<=PySem.sizeLine;decide):p:=h
theorem S_2{p:Prop}(h:p:=by show 2<=PySem.sizeLine;decide):p:=h
theorem D_9{p:Prop}(h:p:=by intro _ _ _ _ h;rcases h;subst_vars;rfl):p:=h
theorem A0{p:Prop}(h:p:=by decide +kernel):p:=h
theorem A1{p:Prop}(h:p:=by lia):p:=h
theorem A2{p:Prop}(h:p:=by intro z; cases z):p:=h
theorem A3{p:Prop}(h:p:=by decide):p:=h
theorem A6{p:Prop}(h:p:=by intro _ z; cases z):p:=h
theorem B0{p:Prop}(h:p:=by simp):p:=h
theorem B1{p:Prop}(h:p:=by show (0:Int) < 4; decide):p:=h
theorem B2{p:Prop}(h:p:=by show (0:Int) < 8; decide):p:=h
theorem B3{p:Prop}(h:p:=by show 0 < 1000; decide):p:=h
theorem B4{p:Prop}(h:p:=by intro _ _ _ z; cases z):p:=h
theorem B5{p:Prop}(h:p:=by show 1 < 1000; decide):p:=h
theorem B6{p:Prop}(h:p:=by show (0:Int) < 7; decide):p:=h
theorem B7{p:Prop}(h:p:=by show (0:Int) < 2; decide):p:=h
open List renaming length_map->B8,getElem?_eq_some_iff->B9,map_append->C0,length_append->C6,getElem?_map->C7,mem_singleton->C8,mem_cons->D1,mem_append->D3,mem_of_getElem?->D6,mem_map->D7,mem_cons_self->D8,mem_cons_of_mem->D9,getElem?_eq_getElem->F0,getElem?_append_right->F1,getElem?_of_mem->F6,length_cons->F7,take_add_one->F9,size_toArray->J0,map_cons->J1,getElem?_append_left->J3,take_length->J7,mem_range->J8,not_mem_nil->J9,getD_eq_getElem?_getD->L8,length_range->M0,mem_append_right->M4,length_take->M6,range_succ->M9,nodup_append->N5,length_singleton->N6,getElem?_eq_none->N7,nodup_cons->N8,map_map->N9,find?_cons->O0,append_assoc->O2,length_replicate->O3,getElem?_range->O4,lookup_cons->O5,nodup_nil->O6,sum_cons->P1,all_eq_true->P2,find?_eq_none->P3,append_nil->P4,flatten_cons->P6,mem_flatMap->Q4,mem_of_find?_eq_some->Q6,replicate_succ->Q7,mem_filter->Q9,length_nil->R0,mem_append_left->R7,getLast?_append->R8,foldl_cons->R9,getElem?_zip_eq_some->S3,drop_eq_getElem_cons->S4,all_eq_false->S5,getElem?_take_of_lt->S6,any_cons->S7,getElem?_replicate->S9,getElem?_cons_succ->T0,any_eq_true->T1,nil_append->T9,take_append_drop->U1,filterMap_cons->U5,all_cons->U8,pairwise_cons->V1,findIdx?_eq_some_iff_getElem->V2,ext_getElem?->V7,all_map->V8
open Nat renaming le_refl->C9,le_trans->D4,lt_of_le_of_lt->F3,lt_of_lt_of_le->J6,zero_le->L5,pow_succ->L7,ne_of_lt->L9,zero_add->M5,mul_le_mul_left->N1,lt_trans->N4,sub_self->O8,mul_succ->O9,lt_irrefl->P0,div_lt_of_lt_mul->P7,add_mul_div_left->P8,le_add_right->Q1,add_comm->Q3,two_pow_pos->Q8,add_sub_cancel_left->R3,succ_le_succ->R4,add_le_add_right->R5,add_mul_mod_self_left->S2,min_le_right->S8,succ_mul->T2,ne_of_gt->T4,mod_add_div->T8,mul_add->U2,le_succ->U3,mul_assoc->U7,mod_lt->V0,zero_mul->V4,mul_comm->V5,le_of_lt->V6
open PySem.Heap renaming get?_push_of_some->D0,lt_size->F5,get?_push_size->F8,size_push->P9,get?_none_of_le->Q0,get?_update_other->T6
open Option renaming map_eq_some_iff->D5,toList_some->L6,map_some->T7,isSome_map->V3
open Bool renaming false_ne_true->F4,eq_iff_iff->P5,and_eq_true->Q5,eq_false_iff->V9
open Int renaming eq_ofNat_of_zero_le->M7,emod_lt_of_pos->M8,emod_nonneg->N2,toNat_natCast->N3,add_zero->O1,natCast_pow->O7,toNat_of_nonneg->S0,fdiv_eq_ediv_of_nonneg->S1,zero_add->T5,natCast_add->U0,mul_add->U4,mul_assoc->U9
open Array renaming length_toList->U6
open PySem renaming wpAny_bind->W0,wpAny_pure->Y6,boot_len->Z2,wpAny_truthy_bool->Z3,mem_of_lookup->X4,wpAny_mono->X6,wpAny_field->X8,wpAny_seqItems->K0,wpAny_setField_rec->K2,wpAny_Call_Name_kw->K5,call_meets->K6,tupleKind_room_in1->K7,wpAny_passesOwn->A0a,wpAny_pyIter_list->A0e,wpAny_holding->A0f,wpAny_call_entry->A0h,typeIs_str->A1c,wpAny_updateSeq_pair->A1g,wpAny_attempt->A1h,wpAny_onRaise->A2a
open PySem.F renaming plainAttrs_list->W5,slot_list_append->W6,type_list_append->W7,plainAttrs_str->Z9,slot_tuple_iterator_next->K3,slot_str_join->K8,type_str_join->K9,slot_dict_get->A0g,slot_zip_next->A1d,args_str_split_2->A2b
open Ne renaming symm->W8
open PySem.Paired renaming length->Y4,snoc->Z5
open PySem.PassesOwn renaming never->Y5
open Option.some renaming inj->Y8
open PyProof.Rows renaming boot_isinstance->Y9,boot_int->Z6,boot_tuple->Z8,callWith_type1->X5,boot_str->X7,boot_list->K4,boot_bool->A0d
open PySem.W renaming mg_of->Z1,kia_one->Z4,plainGet_of->A1b,callWith_K->A1e
open Classical renaming byContradiction->X9
open Int.ofNat renaming inj->K1
abbrev W1:=@decide_eq_true
abbrev W3:=@decide_eq_false
abbrev W4:=@if_neg
abbrev W9:=@if_pos
abbrev Y7:=@congrArg
abbrev Z0:=@of_decide_eq_true
abbrev Z7:=@or_false
abbrev A0b:=@not_false_eq_true
abbrev A0c:=@not_or
abbrev A1a:=@if_true
abbrev A1f:=@beq_iff_eq
open PySem.W (instObj methodObj lookIn plainGet hasDictIn findIn handedIn isFn plainOver takerIn any_some makesIn emptyDict keepIn specialIn takesIn mroIn kitOne kitx_list kitx_dict notCls clsIn)
namespace L2
open PySem PySem.Spec PyProof.Rows
abbrev Key:=Sum Int Str
noncomputable def OG:Key->Value->Bool
|.inl k,v=>Value.isInt k v
|.inr x,v=>Value.isStrOf x v
noncomputable def keyH(w:Q_):Key->Int
|.inl k=>hashInt k
|.inr x=>hashStr w x
theorem Cj:∀{k:Key}{v:S_},OG k v=true->(∃i t,k=Sum.inl i/\v=Value.int i t)\/(∃x t,k=Sum.inr x/\v=Value.str x t)
|.inl i,v,h=>by
 obtain⟨t,e⟩:=Value.isInt_shape (k:=i) (v:=v) h;exact .inl ⟨i,t,Z,e⟩
|.inr x,v,h=>by
 obtain⟨t,e⟩:=Value.isStrOf_shape (x:=x) (v:=v) h;exact .inr ⟨x,t,Z,e⟩
theorem Uh(i:Int)(t:Tok):OG (.inl i) (.int i t)=true:=by simp[OG,Value.isInt]
theorem Ug(x:Str)(t:Tok):OG (.inr x) (.str x t)=true:=by simp[OG,Value.isStrOf]
theorem key_ll(a b:Int):decide ((Sum.inl a:Key)=Sum.inl b)=(a==b):=by
 by_cases e:a=b
 .subst e;simp
 .have h:¬(Sum.inl a:Key)=Sum.inl b:=λq=>e (Sum.inl.inj q);rw[W3 h];exact(beq_eq_false_iff_ne.mpr e).symm
theorem key_rr(a b:Str):decide ((Sum.inr a:Key)=Sum.inr b)=decide (a=b):=by
 by_cases e:a=b
 .subst e;simp
 .have h:¬(Sum.inr a:Key)=Sum.inr b:=λq=>e (Sum.inr.inj q);rw[W3 h,W3 e]
theorem key_lr(a:Int)(b:Str):decide ((Sum.inl a:Key)=Sum.inr b)=false:=W3 (λq=>nomatch q)
theorem key_rl(a:Str)(b:Int):decide ((Sum.inr a:Key)=Sum.inl b)=false:=W3 (λq=>nomatch q)
noncomputable def CH(prog:N_)(w:Q_):PySem.KeyKind prog w Key where
 is:=OG
 hash:=keyH w
 inj:=λv a b ha hb=>by
  rcases Cj ha with ⟨i,t,rfl,rfl⟩|⟨x,t,rfl,rfl⟩
  .rcases Cj hb with ⟨j,u,rfl,e⟩|⟨y,u,rfl,e⟩
   .injection e with e1 _;rw[e1]
   .exact nomatch e
  .rcases Cj hb with ⟨j,u,rfl,e⟩|⟨y,u,rfl,e⟩
   .exact nomatch e
   .injection e with e1 _;rw[e1]
 byValue:=λk v h=>by
  rcases Cj h with ⟨i,t,rfl,rfl⟩|⟨x,t,rfl,rfl⟩<;>rfl
 pyHash:=λhv h=>by
  rcases Cj hv with ⟨i,t,rfl,rfl⟩|⟨x,t,rfl,rfl⟩
  .exact wpAny_pyHash_int h
  .exact wpAny_pyHash_str h
 eqBool:=λhu hv h=>by
  rcases Cj hu with ⟨i,t,rfl,rfl⟩|⟨x,t,rfl,rfl⟩
  .rcases Cj hv with ⟨j,u,rfl,rfl⟩|⟨y,u,rfl,rfl⟩
   .rw[key_ll]at h;exact wpAny_eqBool_int h
   .rw[key_lr]at h;exact SeqAt.EqAt.int_str i t y u _ _ _ _ h
  .rcases Cj hv with ⟨j,u,rfl,rfl⟩|⟨y,u,rfl,rfl⟩
   .rw[key_rl]at h;exact SeqAt.EqAt.str_int x t j u _ _ _ _ h
   .rw[key_rr]at h;exact wpAny_eqBool_str h
 «strs»:=λk x t v h=>by
  rcases Cj h with ⟨i,u,rfl,e⟩|⟨y,u,rfl,e⟩
  .exact nomatch e
  .injection e with e1 _
   subst e1;cases v<;>rfl
theorem QR(prog:N_)(w:Q_)(i:Int)(t:Tok):(CH prog w).is (.inl i) (.int i t)=true:=Uh i t
theorem QQ(prog:N_)(w:Q_)(x:Str)(t:Tok):(CH prog w).is (.inr x) (.str x t)=true:=Ug x t
inductive V where
 |non|bl (b:Bool)|int (i:Int)|str (x:Str)|byt (b:Array UInt8)|flt (b:UInt64)|ref (a:R_)|ty (n:String)
 deriving DecidableEq
def Bg:V->Value->Prop
|.non,u=>u=Value.none
|.bl b,u=>u=Value.bool b
|.int i,u=>∃t,u=Value.int i t
|.str x,u=>∃t,u=Value.str x t
|.byt b,u=>∃t,u=Value.bytes b t
|.flt b,u=>∃t,u=Value.float b t
|.ref a,u=>u=Value.ref a
|.ty n,u=>u=Value.type n
abbrev AV:List V->List Value->Prop:=Paired Bg
theorem AV.length{xs:List V}{us:F_}(r:AV xs us):xs.length=us.length:=Y4 r
theorem AV.get:∀{xs:List V}{us:F_}{i:Nat}{x:V},AV xs us->xs[i]?=some x->∃u,us[i]?=some u/\Bg x u
|_,_,_,_,.nil,e=>by simp at e
|_,_,0,_,.cons r _,e=>by simp at e;subst e;exact⟨_,Z,r⟩
|_,_,i+1,x,.cons _ t,e=>by
 obtain⟨u,a,b⟩:=AV.get (i:=i) (x:=x) t (by simpa using e);exact⟨u,by simpa using a,b⟩
theorem AV.set{x:V}{u:S_}(r:Bg x u):∀{xs:List V}{us:F_}(i:Nat),AV xs us->AV (xs.set i x) (us.set i u)
|_,_,_,.nil=>.nil
|_,_,0,.cons _ t=>.cons r t
|_,_,i+1,.cons q t=>.cons q (AV.set r i t)
theorem AV.append:∀{xs ys:List V}{us ws:F_},AV xs us->AV ys ws->AV (xs++ys) (us++ws)
|_,_,_,_,.nil,s=>s
|_,_,_,_,.cons r t,s=>.cons r (AV.append t s)
theorem AV.take:∀{xs:List V}{us:F_}(n:Nat),AV xs us->AV (xs.take n) (us.take n)
|_,_,0,_=>.nil
|_,_,_+1,.nil=>.nil
|_,_,n+1,.cons r t=>.cons r (AV.take n t)
theorem AV.drop:∀{xs:List V}{us:F_}(n:Nat),AV xs us->AV (xs.drop n) (us.drop n)
|_,_,0,r=>r
|_,_,_+1,.nil=>.nil
|_,_,n+1,.cons _ t=>AV.drop n t
theorem AV.none_of:∀{xs:List V}{us:F_}{i:Nat},AV xs us->xs[i]?=none->us[i]?=none:=λ{xs us i} r e=>by
 have a:=r.length;have b:xs.length<=i:=List.getElem?_eq_none_iff.mp e;exact List.getElem?_eq_none_iff.mpr A1
def Iw:Option V->Option Value->Prop
|some v,some u=>Bg v u
|none,none=>True
|_,_=>False
def KV{κ:Type}:List (κ×V)->List (κ×Value)->Prop:=Paired λ(p:κ×V)(q:κ×Value)=>p.1=q.1/\Bg p.2 q.2
noncomputable def kV:Key->V
|.inl i=>.int i
|.inr x=>.str x
inductive HO where
|lst (xs:List V)
|tup (xs:List V)
|dK (kvs:List (Key×V))|dT (kvs:List (List Key×V))
|set (S:Int->Bool) (n:Nat)
|ins (C dx:R_) (fs:List (Str×V))
|own (x:R_)
|xd (fs:List (Str×V))
|met (f x:R_)
|rng (lo hi:Int)
|frz (o:Obj) (u:HO)
|tbl (ps:M_)
|ext (φ:Heap->Prop)
abbrev Hp:=Addr->Option HO
noncomputable def upd(H:Hp)(a:R_)(o:HO):Hp:=λb=>if b=a then some o else H b
theorem Ag{H:Hp}{a:R_}{o:HO}:upd H a o a=some o:=by unfold upd;rw[W9 rfl]
theorem Ar{H:Hp}{a b:R_}{o:HO}(h:b≠a):upd H a o b=H b:=by unfold upd;rw[W4 h]
theorem GK{H:Hp}{a:R_}{o u:HO}:upd (upd H a o) a u=upd H a u:=by
 funext b;unfold upd;split<;>rfl
theorem Aq{H:Hp}{a b:R_}{o u:HO}(h:H a=some o)(h':H b=some u)(d:o≠u):a≠b:=by
 intro e;subst e;rw[h]at h';exact d (Y8 h')
theorem Aj{H:Hp}{a b:R_}{o:HO}(h:H a=some o)(h':H b=none):a≠b:=by
 intro e;subst e;rw[h]at h';cases h'
section
variable(P:N_)(w:Q_)
def Ca(H:Hp)(h:T_)(a:R_):HO->Prop
|.lst xs=>xs.length<=sizeLine/\∃(its:F_)(n:Nat),AV xs its/\h.get? a=some {cls:=.type "list",data:=.seq its.toArray n}
|.tup xs=>xs.length<=sizeLine/\∃its:List Value,AV xs its/\IsTup h a its.toArray
|.dK kvs=>kvs.length<=sizeLine/\(a==sysModules)=false/\∃vs,KV kvs vs/\h.DictOf (CH P w) a vs
|.dT kvs=>kvs.length<=sizeLine/\(a==sysModules)=false/\∃xs:List (List Key×Addr×Value),
  Paired (λ(p:List Key×V)(q:List Key×Addr×Value)=>p.1=q.1/\H q.2.1=some (.tup (p.1.map kV))/\Bg p.2 q.2.2) kvs xs /\
  ∃o es ep,h.get? a=some o/\o.ExactDict/\o.data=.dict es ep/\es.toList=xs.map (entryOfKey (tupleKind (CH P w)))/\(xs.map (·.1)).Nodup
|.set S n=>h.SetOf (intKind P w) a S n
|.ins C dx fs=>H dx=some (.own a)/\fs.length<=1000/\dx≠a/\h.get? a=some (instObj C dx) /\
  ∃mA,h.Ns1 dx mA/\(∀f,Iw (fs.lookup f) (mA f))/\PySem.Within mA (fs.map (·.1))
|.own _=>∃o,h.get? a=some o
|.xd fs=>∃mA,h.Ns1 a mA/\∀f,Iw (fs.lookup f) (mA f)
|.rng lo hi=>∃t u v,h.get? a=some {cls:=.type "range",data:=.fields #[.int lo t,.int hi u,.int 1 v]}
|.frz o u=>h.get? a=some o/\Ca H h a u
|.tbl ps=>h.get? a=some {cls:=.none,data:=.fields ps}
|.met f x=>h.get? a=some (methodObj (.ref f) (.ref x))
|.ext φ=>φ h/\(∃o,h.get? a=some o)/\∀h1 h2:Heap,φ h1->(∀o,h1.get? a=some o->h2.get? a=some o)->φ h2
def HOk(H:Hp)(h:T_):Prop:=∀a o,H a=some o->Ca P w H h a o
end
section
variable{P:N_}{w:Q_}{H H':Hp}{h h':T_}{a:R_}{o:HO}
theorem Ca.lt(x:Ca P w H h a o):a<h.objs.size:=by
 cases o with
 |lst xs=>obtain⟨_,_,_,_,e⟩:=x;exact F5 e
 |tup xs=>obtain⟨_,_,_,p⟩:=x;exact p.lt
 |dK b=>obtain⟨_,_,_,_,o,_,_,e,_⟩:=x;exact F5 e
 |dT b=>obtain⟨_,_,_,_,o,_,_,e,_⟩:=x;exact F5 e
 |set S n=>obtain⟨o,_,_,_,e,_⟩:=x;exact F5 e
 |ins C c fs=>obtain⟨_,_,_,e,_⟩:=x;exact F5 e
 |own y=>obtain⟨_,e⟩:=x;exact F5 e
 |xd fs=>obtain⟨_,⟨_,_,_,e,_⟩,_⟩:=x;exact F5 e
 |rng lo d=>obtain⟨_,_,_,e⟩:=x;exact F5 e
 |frz g u=>obtain⟨e,_⟩:=x;exact F5 e
 |tbl ps=>exact F5 (show h.get? a=some _ from x)
 |met f y=>exact F5 (show h.get? a=some _ from x)
 |ext φ=>obtain⟨_,⟨_,e⟩,_⟩:=x;exact F5 e
theorem Paired.mapP{α β:Type}{F G:α->β->Prop}:∀{l₁:List α}{c:List β},Paired F l₁ c->(∀a b,F a b->G a b)->Paired G l₁ c
|_,_,.nil,_=>.nil
|_,_,.cons r t,f=>.cons (f _ _ r) (Paired.mapP t f)
theorem Ca.stay(x:Ca P w H h a o)(k:∀b u,(b=a\/H b=some (.own a))->h.get? b=some u->h'.get? b=some u)
  (E:∀b,H b=some (.own a)->H' b=some (.own a)) (F:∀b xs,H b=some (.tup xs)->H' b=some (.tup xs)):Ca P w H' h' a o:=by
 induction o with
 |lst xs=>obtain⟨z,l,n,r,e⟩:=x;exact⟨z,l,n,r,k _ _ (.inl Z) e⟩
 |tup xs=>obtain⟨z,l,r,g,e,c⟩:=x;exact⟨z,l,r,g,k _ _ (.inl Z) e,c⟩
 |dK m=>obtain⟨z,y,vs,r,g,j,i,e,c⟩:=x;exact⟨z,y,vs,r,g,j,i,k _ _ (.inl Z) e,c⟩
 |dT m =>
  obtain⟨z,y,xs,r,g,j,i,e,c⟩:=x;exact⟨z,y,xs,Paired.mapP r λp q z=>⟨z.1,F _ _ z.2.1,z.2.2⟩,g,j,i,k _ _ (.inl Z) e,c⟩
 |set S n=>obtain⟨g,j,i,t,e,c⟩:=x;exact⟨g,j,i,t,k _ _ (.inl Z) e,c⟩
 |ins C K fs =>
  obtain⟨d,z,I,e,s,⟨A,j,i,D,c⟩,r⟩:=x;exact⟨E _ d,z,I,k _ _ (.inl Z) e,s,⟨A,j,i,k _ _ (.inr d) D,c⟩,r⟩
 |own y=>obtain⟨g,e⟩:=x;exact⟨g,k _ _ (.inl Z) e⟩
 |xd fs=>obtain⟨s,⟨A,j,i,e,c⟩,r⟩:=x;exact⟨s,⟨A,j,i,k _ _ (.inl Z) e,c⟩,r⟩
 |rng lo L=>obtain⟨t,u,v,e⟩:=x;exact⟨t,u,v,k _ _ (.inl Z) e⟩
 |frz g u G=>obtain⟨e,q⟩:=x;exact⟨k _ _ (.inl Z) e,G q⟩
 |tbl ps =>
  have e:h.get? a=some {cls:=.none,data:=.fields ps}:=x;show h'.get? a=some {cls:=.none,data:=.fields ps};exact k a _ (.inl Z) e
 |met f y =>
  have e:h.get? a=some (methodObj (.ref f) (.ref y)):=x;show h'.get? a=some (methodObj (.ref f) (.ref y));exact k a _ (.inl Z) e
 |ext φ=>obtain⟨p,⟨o,e⟩,B⟩:=x;exact⟨B _ _ p λo q=>k _ _ (.inl Z) q,⟨o,k _ _ (.inl Z) e⟩,B⟩
theorem HOk.lt(x:HOk P w H h)(e:H a=some o):a<h.objs.size:=(x a o e).lt
theorem HOk.fresh(x:HOk P w H h)(e:h.objs.size<=a):H a=none:=by
 cases q:H a with
 |none=>rfl
 |some u=>exact absurd (J6 (x.lt q) e) (P0 _)
theorem HOk.kept(x:HOk P w H h)(k:∀b u,h.get? b=some u->h'.get? b=some u):HOk P w H h':=λa o e =>
 (x a o e).stay (λb u _ q=>k b u q) (λ_ q=>q) λ_ _ q=>q
theorem HOk.laid(x:HOk P w H h)(k:∀b u,h.get? b=some u->h'.get? b=some u)(g:h.objs.size<=a)(new:Ca P w (upd H a o) h' a o):HOk P w (upd H a o) h':=λb u e=>by
 have f:=x.fresh g;by_cases d:b=a
 .subst d;rw[Ag]at e;cases e;exact new
 .rw[Ar d]at e;exact(x b u e).stay (λc v _ q=>k c v q) (λc q=>by rw[Ar (Aj q f)];exact q) λc xs q=>by rw[Ar (Aj q f)];exact q
end
def Rd(H:Hp)(a:R_)(u:HO):Prop:=H a=some u\/∃o,H a=some (.frz o u)
theorem Rd.ok{P:N_}{w:Q_}{H:Hp}{h:T_}{a:R_}{u:HO}(r:Rd H a u)(x:HOk P w H h):Ca P w H h a u:=by
 rcases r with r|⟨o,r⟩
 .exact x a u r
 .obtain⟨_,q⟩:=x a _ r;exact q
def Mut:Option HO->Prop
|some (.lst _)=>True
|some (.dK _)=>True
|some (.dT _)=>True
|some (.set _ _)=>True
|some (.ins _ _ _)=>True
|some (.ext _)=>True
|_=>False
section
variable{P:N_}{w:Q_}{H:Hp}{h h':T_}{x e:R_}{o':HO}
theorem HOk.write(ok:HOk P w H h)(j:Mut (H x))(m:e=x\/H e=some (.own x))(k:∀b u,b≠e->h.get? b=some u->h'.get? b=some u)(l:∃u,h'.get? e=some u)
  (new:Ca P w (upd H x o') h' x o'):HOk P w (upd H x o') h':=λb u q=>by
 have d:∀c y,H c=some (.own y)->c≠x:=λc y r z=>by subst z;rw[r]at j;exact j
 have f:∀c xs,H c=some (.tup xs)->c≠x:=λc xs r z=>by subst z;rw[r]at j;exact j
 by_cases g:b=x
 .subst g;rw[Ag]at q;cases q;exact new
 .rw[Ar g]at q;by_cases a:b=e
  .have n:H b=some (.own x):=by
    rcases m with z|z
    .exact absurd (a.trans z) g
    .rw[a];exact z
   rw[q]at n;cases n;obtain⟨v,o⟩:=l;exact⟨v,by rw[a];exact o⟩
  .refine(ok b u q).stay (λc v i r=>k c v ?_ r) (λc r=>by rw[Ar (d c b r)];exact r) λc xs r=>by rw[Ar (f c xs r)];exact r
   rcases i with rfl|i
   .exact a
   .rintro rfl;rcases m with z|z
    .exact d c b i z
    .rw[i]at z;cases z;exact g Z
end
structure Un(fs ex:H_)(H H':Hp)(h h':T_):Prop where
keep:∀b o,h.get? b=some o->H b=none->b∉fs->b∉ex->h'.get? b=some o
slot:∀b o,h.get? b=some o->H b=none->b∈fs->b∉ex->∃sl,h'.get? b=some {o with slots:=sl}
free:∀b o,h.get? b=some o->H b=none->b∉ex->H' b=none
there:∀b o,h.get? b=some o->b∉ex->∃o',h'.get? b=some o'
tups:∀b xs,H b=some (.tup xs)->H' b=some (.tup xs)
frzs:∀b o u,H b=some (.frz o u)->H' b=some (.frz o u)
tbls:∀b ps,H b=some (.tbl ps)->∃more,H' b=some (.tbl (ps++more))
section
variable{fs fs' ex ex':H_}{H H1 H2:Hp}{h h1 h2 h':T_}{a x e:R_}{o:HO}
theorem Un.any(u:Un fs ex H H1 h h1){b:R_}{c:Obj}(q:h.get? b=some c)(n:H b=none)(f:b∉ex):∃g,h1.get? b=some {c with slots:=g}:=by
 by_cases d:b∈fs
 .exact u.slot b c q n d f
 .exact⟨c.slots,u.keep b c q n d f⟩
theorem Un.kept(k:∀b u,h.get? b=some u->h'.get? b=some u):Un fs ex H H h h' :=
 ⟨λb c q _ _ _=>k b c q,λb c q _ _ _=>⟨c.slots,k b c q⟩,λ_ _ _ n _=>n,λb c q _=>⟨c,k b c q⟩,λ_ _ q=>q,λ_ _ _ q=>q,λ_ ps q=>⟨#[],by rw[q];simp⟩⟩
theorem Un.refl:Un fs ex H H h h:=Un.kept λ_ _ q=>q
theorem Un.laid(k:∀b u,h.get? b=some u->h'.get? b=some u)(d:h.objs.size<=a)(c:H a=none):Un fs ex H (upd H a o) h h' where
 keep:=λb u q _ _ _=>k b u q
 slot:=λb u q _ _ _=>⟨u.slots,k b u q⟩
 free:=λb u q n _=>by rw[Ar (L9 (J6 (F5 q) d))];exact n
 there:=λb u q _=>⟨u,k b u q⟩
 tups:=λb xs q=>by rw[Ar (Aj q c)];exact q
 frzs:=λb u xs q=>by rw[Ar (Aj q c)];exact q
 tbls:=λb ps q=>⟨#[],by rw[Ar (Aj q c),q];simp⟩
theorem Un.write(d:Mut (H x))(l:e=x\/H e=some (.own x))(k:∀b u,b≠e->h.get? b=some u->h'.get? b=some u)(f:∃u,h'.get? e=some u):Un fs ex H (upd H x o) h h':=by
 have j:∀b,H b=none->b≠x:=λb n z=>by subst z;rw[n]at d;exact d
 have i:∀b,H b=none->b≠e:=λb n z=>by
  subst z;rcases l with r|r
  .exact j b n r
  .rw[n]at r;cases r
 have g:∀b u,H b=some u->¬Mut (some u)->b≠x:=λb u q m z=>by subst z;rw[q]at d;exact m d
 refine⟨λb u q n _ _=>k b u (i b n) q,λb u q n _ _=>⟨u.slots,k b u (i b n) q⟩,λb u q n _=>by rw[Ar (j b n)];exact n,λb u q _=>?_,
  λb xs q=>by rw[Ar (g b _ q λz=>z)];exact q,λb u xs q=>by rw[Ar (g b _ q λz=>z)];exact q,λb ps q=>⟨#[],by rw[Ar (g b _ q λz=>z),q];simp⟩⟩
 by_cases c:b=e
 .subst c;exact f
 .exact⟨u,k b u c q⟩
end
noncomputable def trk(h:T_)(H:Hp):List Addr:=(List.range h.objs.size).filter λa=>(H a).isSome
noncomputable def Qc(h:T_)(H:Hp):Heap:=W.hideAll h (trk h H)
theorem Um(h:T_)(H:Hp):(Qc h H).objs.size=h.objs.size:=W.hideAll_size _ _
theorem VV{h:T_}{H:Hp}{b:R_}{o:Obj}(e:h.get? b=some o)(n:H b=none):(Qc h H).get? b=some o :=
 W.hideAll_get _ e λa=>by
  have q:(H b).isSome=true:=(Q9.mp a).2;rw[n]at q;simp at q
theorem of_hidT{h:T_}{H:Hp}{b:R_}{o:Obj}(e:(Qc h H).get? b=some o):h.get? b=some o/\H b=none:=by
 have a:h.get? b=some o:=W.of_hideAll (trk h H) e;refine⟨a,?_⟩;cases q:H b with
 |none=>rfl
 |some x =>
  have c:b∈trk h H:=Q9.mpr ⟨J8.mpr (F5 a),by simp[q]⟩;have z:(Qc h H).get? b=none:=W.hideAll_none (trk h H) c;rw[z]at e;cases e
structure Mod(K:O_)(mg:C_)(base:T_):Prop where
kin:K.In base
glob:base.Ns mainGlobals mg
blt:∃mb,base.Ns builtinsNs mb/\∀x:Str,x≠"__name__" -> mb x=bootBuiltins x
nolimit:base.NoLimit
structure Cx where
prog:Program
w:World
K:W.Frag
mg:Str->Option Value
base:Heap
A:Around
N:List Str
s₀:Shared
H₀:Hp
env:Env
outer:List Env
stack:List Env
ex:List Addr
fn:Str->Bool
calm:Bool
pn:List (Addr×Obj)
xe:Value->Shared->Prop
noncomputable def frs(l:List Env):List Addr:=l.filterMap (·.frame)
noncomputable abbrev Cx.fs(X:Cx):List Addr:=frs X.outer
def Vis(sc:Scope)(x:Str):Prop:=sc.names.lookup x=some .local\/sc.names.lookup x=some .cell\/sc.names.lookup x=some .free
def Loc(sc:Scope)(x:Str):Prop:=sc.names.lookup x=some .local\/sc.names.lookup x=some .cell
def Look(env:Env)(h:T_)(m:C_)(x:Str)(u:S_):Prop :=
 (env.kindOf x=some .local/\m x=some u)\/((env.kindOf x=some .cell\/env.kindOf x=some .free)/\∃c,env.cells.lookup x=some c/\h.IsCell c (some u))
structure Cx.Ok(X:Cx):Prop where
mod:Mod X.K X.mg X.base
kind:X.env.scope.kind=.function
glob:X.env.globals=mainGlobals
blt:X.env.builtins=builtinsNs
above:X.s₀.heap.objs.size<=X.env.locals
inj:∀x y c,X.env.cells.lookup x=some c->X.env.cells.lookup y=some c->x=y
has:∀x,(X.env.kindOf x=some .cell\/X.env.kindOf x=some .free)->∃c,X.env.cells.lookup x=some c
cab:∀x c,X.fn x=true->X.env.cells.lookup x=some c->X.s₀.heap.objs.size<=c
hd:X.calm=true->X.A.handled=none
frames:X.A.frames=some X.stack
stk:X.stack=X.outer\/(X.stack=X.env::X.outer/\X.env.frame=some X.env.locals)
exf:∀b∈X.ex,b≠X.env.locals/\∀x c,X.env.cells.lookup x=some c->c≠b
bs:∀b o,X.base.get? b=some o->X.s₀.heap.get? b=some o/\X.H₀ b=none
bsz:X.base.objs.size<=X.s₀.heap.objs.size
noex:∀b o,X.base.get? b=some o->b∉X.ex
exfs:∀b∈X.ex,b∉X.fs
funs:X.s₀.heap.FunFrames X.base X.outer
frf:∀b∈X.fs,X.H₀ b=none
structure Inv(X:Cx)(pins:A_)(σ:List (Option V))(H:Hp)(s:P_):Prop where
ok:X.Ok
os:s.os=X.s₀.os
bare:AllBare s.gens
base:Un X.fs X.ex X.H₀ H X.s₀.heap s.heap
loc:∃m,s.heap.Ns X.env.locals m/\∀(i:Nat)(x:Str)(v:V),X.N[i]?=some x->σ[i]?=some (some v)->Vis X.env.scope x->∃u,Bg v u/\Look X.env s.heap m x u
cell:∀x c,X.env.cells.lookup x=some c->∃v,s.heap.IsCell c v
free:H X.env.locals=none
freeC:∀x c,X.env.cells.lookup x=some c->H c=none
pin:∀p∈X.pn++pins,s.heap.get? p.1=some p.2/\H p.1=none/\p.1≠X.env.locals/\p.1∉X.fs/\∀v,p.2.data≠.cell v
hok:HOk X.prog X.w H s.heap
len:σ.length=X.N.length
section
variable{X:Cx}{pins:A_}{σ:List (Option V)}{H H':Hp}{s:P_}{h':T_}
theorem Cx.Ok.nofr(ok:X.Ok){b:R_}{o:Obj}(e:X.base.get? b=some o):b∉X.fs:=λa=>by
 have:=(ok.funs.mem a).1;rw[e]at this;cases this
theorem Inv.bs(I:Inv X pins σ H s):∀b o,X.base.get? b=some o->s.heap.get? b=some o/\H b=none:=λb o e =>
 ⟨I.base.keep b o (I.ok.bs b o e).1 (I.ok.bs b o e).2 (I.ok.nofr e) (I.ok.noex b o e),I.base.free b o (I.ok.bs b o e).1 (I.ok.bs b o e).2 (I.ok.noex b o e)⟩
theorem Inv.bk(I:Inv X pins σ H s):∀b o,X.base.get? b=some o->s.heap.get? b=some o:=λb o e=>(I.bs b o e).1
theorem Inv.mod(I:Inv X pins σ H s):Mod X.K X.mg X.base:=I.ok.mod
theorem Inv.kIn(I:Inv X pins σ H s):X.K.In s.heap:=I.ok.mod.kin.keeps I.bk
theorem Inv.lt(I:Inv X pins σ H s):X.env.locals<s.heap.objs.size:=let ⟨_,hn,_⟩:=I.loc;hn.lt
theorem Inv.sz(I:Inv X pins σ H s):X.s₀.heap.objs.size<=s.heap.objs.size:=D4 I.ok.above (V6 I.lt)
theorem Inv.nofs(I:Inv X pins σ H s){a:R_}(h:s.heap.objs.size<=a):a∉X.fs:=λb=>by
 obtain⟨_,o,c,_⟩:=I.ok.funs.mem b;exact absurd (J6 (F5 c) (D4 I.sz h)) (P0 _)
theorem Inv.cne(I:Inv X pins σ H s):∀x c,X.env.cells.lookup x=some c->c≠X.env.locals:=λx c e z=>by
 obtain⟨v,o,f,d⟩:=I.cell x c e;obtain⟨m,⟨i,h,g,b,a,_⟩,_⟩:=I.loc;rw[z,b]at f;cases f;rw[a]at d;cases d
theorem Inv.funs (I:Inv X pins σ H s):s.heap.FunFrames X.base X.outer:=by
 have all:∀(l:List Env),(∀b∈frs l,b∈X.fs)->X.s₀.heap.FunFrames X.base l->s.heap.FunFrames X.base l:=by
  intro l;induction l with
  |nil=>intro _ _;trivial
  |cons g r p =>
   intro f j;obtain⟨i,⟨L,o,d,k,m,h⟩,n⟩:=j;have a:L∈X.fs:=f L (by unfold frs;rw[U5,d];exact D8);obtain⟨q,e⟩:=I.base.slot L o m (I.ok.frf L a) a λz=>I.ok.exfs L z a;exact⟨i,⟨L,_,d,k,e,h⟩,p (λb c=>f b (by unfold frs;rw[U5,d];exact D9 _ c)) n⟩
 exact all X.outer (λ_ c=>c) I.ok.funs
theorem Inv.stack(I:Inv X pins σ H s):s.heap.FunFrames X.base X.stack:=by
 rcases I.ok.stk with e|⟨e,a⟩
 .rw[e];exact I.funs
 .rw[e];obtain⟨m,b,_⟩:=I.loc;refine .cons (by rw[I.ok.kind];decide) a b ?_ I.funs;exact Q0 (D4 I.ok.bsz I.ok.above)
theorem Inv.stkSub(I:Inv X pins σ H s):∀b∈frs X.stack,b∈X.env.locals::X.fs:=λb a=>by
 rcases I.ok.stk with e|⟨e,c⟩
 .rw[e]at a;exact D9 _ a
 .rw[e]at a;unfold frs at a;rw[U5,c]at a;exact a
theorem Inv.stkFree(I:Inv X pins σ H s):∀b∈frs X.stack,H b=none:=λb a=>by
 rcases D1.mp (I.stkSub b a)with e|a
 .rw[e];exact I.free
 .obtain⟨_,o,c,_⟩:=I.ok.funs.mem a;exact I.base.free b o c (I.ok.frf b a) λz=>I.ok.exfs b z a
theorem Inv.step{g':Array GenState}{t':Nat}{d':Drawn}{ch:H_}(I:Inv X pins σ H s)
  (j:∀b∈ch,(b∈X.ex\/X.s₀.heap.objs.size<=b)/\b≠X.env.locals/\(∀x c,X.env.cells.lookup x=some c->c≠b)/\∀p∈X.pn++pins,p.1≠b)
  (g:∀b o,b≠X.env.locals->b∉X.fs->b∉ch->s.heap.get? b=some o->H b=none->h'.get? b=some o)
  (y:∀b o,b≠X.env.locals->b∈X.fs->b∉ch->s.heap.get? b=some o->H b=none->∃P,h'.get? b=some {o with slots:=P}) (a:∀b o,b∉ch->s.heap.get? b=some o->H b=none->H' b=none)
  (there:∀b o,b∉ch->s.heap.get? b=some o->∃M,h'.get? b=some M)
  (E:∀b xs,H b=some (.tup xs)->H' b=some (.tup xs)) (C:∀b o u,H b=some (.frz o u)->H' b=some (.frz o u)) (D:∀b ps,H b=some (.tbl ps)->∃more,H' b=some (.tbl (ps++more)))
  (ns:∀m,s.heap.Ns X.env.locals m->h'.Ns X.env.locals m) (O:HOk X.prog X.w H' h') (W:AllBare g') :
  Inv X pins σ H' {s with heap:=h',gens:=g',drawn:=d',toks:=t'}:=by
 have L:∀b o,X.s₀.heap.get? b=some o->b≠X.env.locals:=λb o e=>L9 (J6 (F5 e) I.ok.above);have B:∀b o,X.s₀.heap.get? b=some o->b∉X.ex->b∉ch:=λb o e f F=>by
  rcases(j b F).1 with z|z
  .exact f z
  .exact absurd (J6 (F5 e) z) (P0 _)
 have h:∀x c,X.env.cells.lookup x=some c->∀v,s.heap.IsCell c v->h'.IsCell c v:=λx c e v ⟨o,G,N⟩=>by
  have t:c∉ch:=λz=>(j c z).2.2.1 x c e Z;by_cases R:c∈X.fs
  .obtain⟨P,q⟩:=y c o (I.cne x c e) R t G (I.freeC x c e);exact⟨_,q,N⟩
  .exact⟨o,g c o (I.cne x c e) R t G (I.freeC x c e),N⟩
 refine⟨I.ok,I.os,W,⟨λb o e n F f=>?_,λb o e n F f=>?_,λb o e n f=>?_,λb o e f=>?_,λb xs e=>E b xs (I.base.tups b xs e),λb o xs e=>C b o xs (I.base.frzs b o xs e),λb ps e=>?_⟩,?_,λx c e=>?_,?_,λx c e=>?_,λp S=>?_,O,I.len⟩
 .exact g b o (L b o e) F (B b o e f) (I.base.keep b o e n F f) (I.base.free b o e n f)
 .obtain⟨P,A⟩:=I.base.slot b o e n F f;obtain⟨Q,K⟩:=y b _ (L b o e) F (B b o e f) A (I.base.free b o e n f);exact⟨Q,K⟩
 .obtain⟨M,A⟩:=I.base.there b o e f;exact a b M (B b o e f) A (I.base.free b o e n f)
 .obtain⟨M,A⟩:=I.base.there b o e f;exact there b M (B b o e f) A
 .obtain⟨m1,A⟩:=I.base.tbls b ps e;obtain⟨m2,K⟩:=D b _ A;exact⟨m1++m2,by rw[K,Array.append_assoc]⟩
 .obtain⟨m,hn,Y⟩:=I.loc;refine⟨m,ns m hn,λi x v A K V=>?_⟩;obtain⟨u,r,l⟩:=Y i x v A K V;refine⟨u,r,?_⟩;rcases l with l|⟨k,c,e,z⟩
  .exact .inl l
  .exact .inr ⟨k,c,e,h x c e _ z⟩
 .obtain⟨v,z⟩:=I.cell x c e;exact⟨v,h x c e v z⟩
 .obtain⟨m,⟨o,_,_,G,_⟩,_⟩:=I.loc;exact a _ o (λz=>(j _ z).2.1 Z) G I.free
 .obtain⟨v,o,G,N⟩:=I.cell x c e;exact a c o (λz=>(j c z).2.2.1 x c e Z) G (I.freeC x c e)
 .obtain⟨e,n,T,U,d⟩:=I.pin p S;have t:p.1∉ch:=λz=>(j p.1 z).2.2.2 p S Z;exact⟨g p.1 p.2 T U t e n,a p.1 p.2 t e n,T,U,d⟩
theorem Inv.un{t':Nat}(I:Inv X pins σ H s)(u:Un X.fs [] H H' s.heap h')(g:HOk X.prog X.w H' h'):Inv X pins σ H' {s with heap:=h',toks:=t'}:=by
 obtain⟨m,⟨o,p,l,h,r⟩,_⟩:=id I.loc;obtain⟨v,i⟩:=u.any h I.free B0;exact I.step (g':=s.gens) (d':=s.drawn) (ch:=[]) (λ_ z=>nomatch z) (λb o _ f _ e n=>u.keep b o e n f B0) (λb o _ f _ e n=>u.slot b o e n f B0) (λb o _ e n=>u.free b o e n B0) (λb o _ e=>u.there b o e B0) u.tups u.frzs u.tbls (λq j=>by
  obtain⟨t,d,c,a,k⟩:=j;rw[h]at a;cases a;exact⟨_,d,c,i,k⟩) g I.bare
theorem Inv.call{g':Array GenState}{t':Nat}{d':Drawn}{ch:H_}(I:Inv X pins σ H s)(u:Un (frs X.stack) ch H H' s.heap h')(j:HOk X.prog X.w H' h')(q:AllBare g')
  (d:∀b∈ch,(b∈X.ex\/X.s₀.heap.objs.size<=b)/\b≠X.env.locals/\(∀x c,X.env.cells.lookup x=some c->c≠b)/\∀p∈X.pn++pins,p.1≠b) :
  Inv X pins σ H' {s with heap:=h',gens:=g',drawn:=d',toks:=t'}:=by
 obtain⟨m,⟨o,A,y,k,r⟩,_⟩:=id I.loc;obtain⟨D,i⟩:=u.any k I.free λz=>(d _ z).2.1 Z;exact I.step (ch:=ch) d (λb o i l a e n=>u.keep b o e n (λz=>(D1.mp (I.stkSub b z)).elim i l) a) (λb o _ _ a e n=>u.any e n a) (λb o a e n=>u.free b o e n a) (λb o a e=>u.there b o e a) u.tups u.frzs u.tbls (λB t=>by
  obtain⟨C,h,g,f,v⟩:=t;rw[k]at f;cases f;exact⟨_,h,g,i,v⟩) j q
theorem Inv.turned{t':Nat}{it:R_}(I:Inv X pins σ H s)(k:∀b o,b≠it->s.heap.get? b=some o->h'.get? b=some o)(y:H it=none)(f:it≠X.env.locals)
  (i:it∈X.ex\/X.s₀.heap.objs.size<=it) (j:∀x c,X.env.cells.lookup x=some c->c≠it) (l:∀p∈X.pn++pins,p.1≠it):Inv X pins σ H {s with heap:=h',toks:=t'}:=by
 have d:∀b u,H b=some u->b≠it:=λb u e z=>by rw[z,y]at e;cases e
 refine I.step (g':=s.gens) (d':=s.drawn) (ch:=[it]) (λb t=>?_) (λb o _ _ a e _=>k b o (λz=>a (by simp[z])) e) (λb o _ _ a e _=>⟨o.slots,k b o (λz=>a (by simp[z])) e⟩) (λ_ _ _ _ n=>n)
  (λb o a e=>⟨o,k b o (λz=>a (by simp[z])) e⟩) (λ_ _ e=>e) (λ_ _ _ e=>e) (λb ps e=>⟨#[],by rw[e];simp⟩) (λm w=>?_) (λb u e=>?_) I.bare
 .have e:b=it:=by simpa using t
  subst e;exact⟨i,f,j,l⟩
 .obtain⟨o,h,g,A,r⟩:=w;exact⟨o,h,g,k _ o (W8 f) A,r⟩
 .refine(I.hok b u e).stay (λc v a q=>k c v ?_ q) (λ_ q=>q) λ_ _ q=>q;rcases a with z|z
  .rw[z];exact d b u e
  .exact d c _ z
theorem Inv.tok(I:Inv X pins σ H s)(t:Nat):Inv X pins σ H {s with toks:=t}:=I.un (h':=s.heap) (t':=t) Un.refl I.hok
theorem Inv.kept{t':Nat}(I:Inv X pins σ H s)(k:∀b u,s.heap.get? b=some u->h'.get? b=some u):Inv X pins σ H {s with heap:=h',toks:=t'}:=I.un (Un.kept k) (I.hok.kept k)
theorem Inv.laid{a:R_}{o:HO}{t':Nat}(I:Inv X pins σ H s)(k:∀b u,s.heap.get? b=some u->h'.get? b=some u)(c:s.heap.objs.size<=a)(new:Ca X.prog X.w (upd H a o) h' a o) :
 Inv X pins σ (upd H a o) {s with heap:=h',toks:=t'}:=I.un (Un.laid k c (I.hok.fresh c)) (I.hok.laid k c new)
theorem Inv.write{x e:R_}{o:HO}{t':Nat}(I:Inv X pins σ H s)(d:Mut (H x))(c:e=x\/H e=some (.own x))(k:∀b u,b≠e->s.heap.get? b=some u->h'.get? b=some u)(a:∃u,h'.get? e=some u)
 (new:Ca X.prog X.w (upd H x o) h' x o):Inv X pins σ (upd H x o) {s with heap:=h',toks:=t'}:=I.un (Un.write d c k a) (I.hok.write d c k a new)
theorem Inv.weak{σ':List (Option V)}(I:Inv X pins σ H s)(d:σ'.length=σ.length)(w:∀(i:Nat) v,σ'[i]?=some (some v)->σ[i]?=some (some v)):Inv X pins σ' H s :=
 ⟨I.ok,I.os,I.bare,I.base,let ⟨m,hn,hl'⟩:=I.loc;⟨m,hn,λi x v a b c=>hl' i x v a (w i v b) c⟩,I.cell,I.free,I.freeC,I.pin,I.hok,d.trans I.len⟩
theorem Inv.pins_of{a:A_}(I:Inv X pins σ H s)(h:∀p∈a,s.heap.get? p.1=some p.2/\H p.1=none/\p.1≠X.env.locals/\p.1∉X.fs/\∀v,p.2.data≠.cell v):Inv X a σ H s :=
 ⟨I.ok,I.os,I.bare,I.base,I.loc,I.cell,I.free,I.freeC,λp b=>(D3.mp b).elim (λz=>I.pin p (R7 _ z)) (h p),I.hok,I.len⟩
theorem QI{N:K_}(e:N.Nodup){i j:Nat}{x:Str}(a:N[i]?=some x)(b:N[j]?=some x):i=j:=by
 obtain⟨f,c⟩:=B9.mp a;obtain⟨g,d⟩:=B9.mp b;exact(List.getElem_inj e).mp (c.trans d.symm)
theorem Ow{M:Model}{A:Around}{E:B_}{i:Nat}{x:Str}{v:V}{u:S_}{Q:Unit->Shared->Prop}(I:Inv X pins σ H s)(hN:X.N.Nodup)(T:X.N[i]?=some x)(B:Loc X.env.scope x)(r:Bg v u)
  (h:∀s',Inv X pins (σ.set i (some v)) H s'->(∃a,Heap.SameBut a s.heap s'.heap/\(a=X.env.locals\/X.env.cells.lookup x=some a))->Q () s') (hf:X.fn x=true\/X.env.scope.names.lookup x=some .local:=by first|exact .inl rfl|exact .inr rfl|assumption):wpAny M A (storeName X.env x u) Q E s:=by
 obtain⟨m,hn,hl⟩:=id I.loc;have S:(X.env.scope.kind==.class || (X.env.scope.kind==.module && X.env.locals != X.env.globals))=false:=by rw[I.ok.kind];rfl
 have F:i<σ.length:=by rw[I.len];exact(B9.mp T).1
 have cne:=I.cne;have l:∀{a:R_}{h':T_},(∃o,s.heap.get? a=some o/\H a=none)->Heap.SameBut a s.heap h'->HOk X.prog X.w H h':=λ{a h'} ha f b ob e=>by
  obtain⟨_,_,C⟩:=ha;refine(I.hok b ob e).stay (λc w' t q=>(f.2 c ?_).trans q) (λ_ q=>q) λ_ _ q=>q;rintro rfl;rcases t with rfl|t
  .rw[C]at e;cases e
  .rw[C]at t;cases t
 rcases B with G|G
 .refine wpAny_storeName_local G hn (λh' aa f=>?_) S;obtain⟨oL,_,_,ab,_⟩:=id hn;refine h _ ⟨I.ok,I.os,I.bare,⟨λb o e n K B=>?_,λb o e n K B=>?_,I.base.free,λb o e B=>?_,I.base.tups,I.base.frzs,I.base.tbls⟩,⟨_,aa,λj y v' g D e3=>?_⟩,λy c e=>?_,I.free,I.freeC,λp hp=>?_,l ⟨oL,ab,I.free⟩ f,by simpa using I.len⟩ ⟨_,f,.inl Z⟩
  .exact(f.2 b (L9 (J6 (F5 e) I.ok.above))).trans (I.base.keep b o e n K B)
  .obtain⟨sl,g⟩:=I.base.slot b o e n K B;exact⟨sl,(f.2 b (L9 (J6 (F5 e) I.ok.above))).trans g⟩
  .obtain⟨o',g⟩:=I.base.there b o e B;exact⟨o',(f.2 b (L9 (J6 (F5 e) I.ok.above))).trans g⟩
  .by_cases O:j=i
   .subst O;rw[T]at g;cases g;rw[List.getElem?_set_self F]at D;cases D;exact⟨u,r,.inl ⟨G,by simp⟩⟩
   .rw[List.getElem?_set_ne (W8 O)]at D;obtain⟨u',r',q⟩:=hl j y v' g D e3;refine⟨u',r',?_⟩;rcases q with ⟨k,e⟩|⟨k,c,e,z⟩
    .refine .inl ⟨k,?_⟩;have:y≠x:=λe=>O (QI hN g (e▸T));simp[this,e]
    .exact .inr ⟨k,c,e,z.sameBut f (cne y c e)⟩
  .obtain⟨w',z⟩:=I.cell y c e;exact⟨w',z.sameBut f (cne y c e)⟩
  .obtain⟨e,n,ne,nf,d⟩:=I.pin p hp;exact⟨(f.2 p.1 ne).trans e,n,ne,nf,d⟩
 .have L:X.fn x=true:=by
   rcases hf with z|z
   .exact z
   .rw[z]at G;cases G
  obtain⟨c,t⟩:=I.ok.has x (.inl G);obtain⟨w',z⟩:=I.cell x c t;refine wpAny_storeName_cell I.ok.kind G t z (λh' P f=>?_);obtain⟨oc,U,W⟩:=id z;refine h {s with heap:=h'} ⟨I.ok,I.os,I.bare,⟨λb o e n K B=>?_,λb o e n K B=>?_,I.base.free,λb o e B=>?_,I.base.tups,I.base.frzs,I.base.tbls⟩,⟨m,hn.sameBut f (W8 (cne x c t)),λj y v' g D e3=>?_⟩,λy Y e=>?_,I.free,I.freeC,λp hp=>?_,l ⟨oc,U,I.freeC x c t⟩ f,by simpa using I.len⟩ ⟨c,f,.inr t⟩
  .exact(f.2 b (L9 (J6 (F5 e) (I.ok.cab x c L t)))).trans (I.base.keep b o e n K B)
  .obtain⟨sl,g⟩:=I.base.slot b o e n K B;exact⟨sl,(f.2 b (L9 (J6 (F5 e) (I.ok.cab x c L t)))).trans g⟩
  .obtain⟨o',g⟩:=I.base.there b o e B;exact⟨o',(f.2 b (L9 (J6 (F5 e) (I.ok.cab x c L t)))).trans g⟩
  .by_cases O:j=i
   .subst O;rw[T]at g;cases g;rw[List.getElem?_set_self F]at D;cases D;exact⟨u,r,.inr ⟨.inl G,c,t,P⟩⟩
   .rw[List.getElem?_set_ne (W8 O)]at D;obtain⟨u',r',q⟩:=hl j y v' g D e3;refine⟨u',r',?_⟩;rcases q with q|⟨k,Y,e,z'⟩
    .exact .inl q
    .refine .inr ⟨k,Y,e,z'.sameBut f ?_⟩;rintro rfl;exact O (QI hN g (I.ok.inj _ _ _ e t▸T))
  .by_cases R:Y=c
   .subst R;exact⟨_,P⟩
   .obtain⟨w2,z2⟩:=I.cell y Y e;exact⟨w2,z2.sameBut f R⟩
  .obtain⟨e,n,ne,nf,d⟩:=I.pin p hp;refine⟨(f.2 p.1 ?_).trans e,n,ne,nf,d⟩;intro q;rw[q,U]at e;have q':oc=p.2:=Y8 e;exact d w' (by rw[<-q'];exact W)
theorem Qu{M:Model}{A:Around}{E:B_}{i:Nat}{x:Str}{v:V}{u:S_}{Q:Unit->Shared->Prop}(I:Inv X pins σ H s)(c:X.N.Nodup)(e:X.N[i]?=some x)(f:Loc X.env.scope x)(r:Bg v u)
  (h:∀a,Inv X pins (σ.set i (some v)) H a->Q () a) (d:X.fn x=true\/X.env.scope.names.lookup x=some .local:=by first|exact .inl rfl|exact .inr rfl|assumption):wpAny M A (storeName X.env x u) Q E s :=
 Ow I c e f r (λa b _=>h a b) d
theorem Inv.call'{a:P_}{ch:H_}(I:Inv X pins σ H s)(h:a.os=s.os)(u:Un (frs X.stack) ch H H' s.heap a.heap)(f:HOk X.prog X.w H' a.heap)(g:AllBare a.gens)
  (d:∀b∈ch,(b∈X.ex\/X.s₀.heap.objs.size<=b)/\b≠X.env.locals/\(∀x c,X.env.cells.lookup x=some c->c≠b)/\∀p∈X.pn++pins,p.1≠b):Inv X pins σ H' a:=by
 obtain⟨h',g',d',t',i⟩:=a;have e:i=s.os:=h;subst e;exact I.call (g':=g') (t':=t') (d':=d') u f g d
end
abbrev XK:=Value->Option Addr->Hp->Prop
abbrev St:=List (Option V)
abbrev VK:=V->Hp->Prop
abbrev TE:=St->Hp->VK->Prop
abbrev TT:=St->Hp->(Bool->Hp->Prop)->Prop
abbrev TA:=St->Hp->(List V->Hp->Prop)->Prop
structure JJ where
nx:St->Hp->Prop
rt:VK
bk:St->Hp->Prop:=λ_ _=>False
ct:St->Hp->Prop:=λ_ _=>False
abbrev TS:=JJ->St->Hp->Prop
def EP(X:Cx)(pins:A_)(σ:St)(Q:VK)(u:S_)(s':P_):Prop:=∃v H',Inv X pins σ H' s'/\Bg v u/\Q v H'
def TP(X:Cx)(pins:A_)(σ:St)(Q:Bool->Hp->Prop)(b:Bool)(s':P_):Prop:=∃H',Inv X pins σ H' s'/\Q b H'
def AP(X:Cx)(pins:A_)(σ:St)(Q:List V->Hp->Prop)(us:F_)(s':P_):Prop:=∃vs H',Inv X pins σ H' s'/\AV vs us/\Q vs H'
def SP(X:Cx)(pins:A_)(D:JJ)(f:Flow)(s':P_):Prop :=
 match f with
 |.next=>∃σ' H',Inv X pins σ' H' s'/\D.nx σ' H'
 |.brk=>∃σ' H',Inv X pins σ' H' s'/\D.bk σ' H'
 |.cont=>∃σ' H',Inv X pins σ' H' s'/\D.ct σ' H'
 |.ret u=>∃v σ' H',Inv X pins σ' H' s'/\Bg v u/\D.rt v H'
def PE(X:Cx)(e:Expr)(t:TE):Prop :=
 ∀(pins:A_)(s:P_)(σ:St)(H:Hp)(Q:VK),Inv X pins σ H s->t σ H Q->wpAny (model X.prog X.w) X.A (eval e X.env) (EP X pins σ Q) X.xe s
def PT(X:Cx)(e:Expr)(t:TT):Prop :=
 ∀(pins:A_)(s:P_)(σ:St)(H:Hp)(Q:Bool->Hp->Prop),Inv X pins σ H s->t σ H Q->wpAny (model X.prog X.w) X.A (isTrue e X.env (eval e X.env)) (TP X pins σ Q) X.xe s
def PW(X:Cx)(e:Expr)(t:TT):Prop :=
 ∀(whole:Sem Value)(pins:A_)(s:P_)(σ:St)(H:Hp)(Q:Bool->Hp->Prop),Inv X pins σ H s->t σ H Q->wpAny (model X.prog X.w) X.A (isTrue e X.env whole) (TP X pins σ Q) X.xe s
theorem PW.pt{X:Cx}{e:Expr}{t:TT}(h:PW X e t):PT X e t:=h _
def PA(X:Cx)(es:List Expr)(t:TA):Prop :=
 ∀(pos:Pos)(pins:A_)(s:P_)(σ:St)(H:Hp)(Q:List V->Hp->Prop),Inv X pins σ H s->t σ H Q->wpAny (model X.prog X.w) X.A (spliced (backTo pos (starEach es X.env))) (AP X pins σ Q) X.xe s
def PS(X:Cx)(st:Stmt)(t:TS):Prop :=
 ∀(pins:A_)(s:P_)(σ:St)(H:Hp)(D:JJ),Inv X pins σ H s->t D σ H->wpAny (model X.prog X.w) X.A (exec st X.env) (SP X pins D) X.xe s
def PSs(X:Cx)(st:List Stmt)(t:TS):Prop :=
 ∀(pins:A_)(s:P_)(σ:St)(H:Hp)(D:JJ),Inv X pins σ H s->t D σ H->wpAny (model X.prog X.w) X.A (execs st X.env) (SP X pins D) X.xe s
theorem thn{α:Type}{t:Sem α}{Q b:α->Shared->Prop}{M:Model}{A:Around}{E:B_}{s:P_}(h:wpAny M A t Q E s)(c:∀a s,Q a s->b a s):wpAny M A t b E s:=X6 h c λ_ _ x=>x
section
variable{X:Cx}
def GD(i:Nat):TE:=fun σ H Q=>∃v,σ[i]?=some (some v)/\Q v H
def tC(v:V):TE:=λ_ H Q=>Q v H
theorem pe_var{i:Nat}{x:Str}{j:Pos}(n:X.N[i]?=some x)(t:Vis X.env.scope x)(g:(x==("__debug__" : Str))=false:=by decide)(f:(x==("__classdict__" : Str))=false:=by decide):PE X (.Name x j) (GD i):=by
 intro d s σ H Q I h;obtain⟨v,e,h⟩:=h;obtain⟨m,q,o⟩:=I.loc;obtain⟨u,r,l⟩:=o i x v n e t;have fin:EP X d σ Q u s:=⟨v,H,I,r,h⟩
 rcases l with ⟨b,p⟩|⟨b,c,k,a⟩
 .exact wpAny_Name (wpAny_loadName_local I.ok.kind b q p fin) g
 .rcases b with b|b
  .exact wpAny_Name (wpAny_loadName_cell I.ok.kind b k a fin) g
  .exact wpAny_Name (wpAny_loadName_free I.ok.kind b k a fin f) g
theorem Ac{i j pos}:PE X (.Constant (.int i) j pos) (tC (.int i)):=λ_ _ _ H _ I h=>wpAny_Constant_int ⟨.int i,H,I.tok _,⟨_,Z⟩,h⟩
theorem Df{b j pos}:PE X (.Constant (.bool b) j pos) (tC (.bl b)):=λ_ _ _ H _ I h=>Constant_bool ⟨.bl b,H,I,Z,h⟩
theorem Jz{j pos}:PE X (.Constant .none j pos) (tC .non):=λ_ _ _ H _ I h=>Constant_none ⟨.non,H,I,Z,h⟩
theorem GY{x j pos}:PE X (.Constant (.str x) j pos) (tC (.str x)):=λ_ _ _ H _ I h=>Calls.Constant_str ⟨.str x,H,I.tok _,⟨_,Z⟩,h⟩
def Gl(X:Cx)(x:Str):Prop:=X.env.kindOf x=some .globalImplicit
theorem MN{E:B_}{a:A_}{s:P_}{σ:St}{H:Hp}{x:Str}{u:S_}{b:Pos}{Q:B_}(I:Inv X a σ H s)(d:Gl X x)(e:X.mg x=some u)(h:Q u s)
  (c:(x==("__debug__" : Str))=false:=by decide):wpAny (model X.prog X.w) X.A (eval (.Name x b) X.env) Q E s :=
 Calls.Name_function_global I.ok.kind d (Calls.loadGlobal_global (by rw[I.ok.glob];exact I.mod.glob.keeps I.bk) e h) c
theorem JH{E:B_}{a:A_}{s:P_}{σ:St}{H:Hp}{x:Str}{u:S_}{b:Pos}{Q:B_}(I:Inv X a σ H s)(f:Gl X x)(g:X.mg x=none)(j:bootBuiltins x=some u)(h:Q u s)
  (i:x≠"__name__" := by decide) (e:(x==("__debug__" : Str))=false:=by decide):wpAny (model X.prog X.w) X.A (eval (.Name x b) X.env) Q E s:=by
 obtain⟨k,c,d⟩:=I.mod.blt;exact Calls.Name_function_global I.ok.kind f (Calls.loadGlobal_builtin (by rw[I.ok.glob];exact I.mod.glob.keeps I.bk) g (by rw[I.ok.blt];exact c.keeps I.bk) ((d x i).trans j) h) e
theorem SJ{x:Str}{v:V}{u:S_}{a:Pos}(c:Gl X x)(d:X.mg x=some u)(r:Bg v u)(b:(x==("__debug__" : Str))=false:=by decide):PE X (.Name x a) (tC v) :=
 λ_ _ _ H _ I h=>MN I c d ⟨v,H,I,r,h⟩ b
theorem Ev{x:Str}{v:V}{u:S_}{a:Pos}(c:Gl X x)(d:X.mg x=none)(f:bootBuiltins x=some u)(r:Bg v u)(e:x≠"__name__" := by decide)(b:(x==("__debug__" : Str))=false:=by decide):PE X (.Name x a) (tC v) :=
 λ_ _ _ H _ I h=>JH I c d f ⟨v,H,I,r,h⟩ e b
variable{a b:Expr}{ta tb:TE}{pos:Pos}
def PC(X:Cx)(op:CmpOp)(a b:Expr)(t:TE):Prop :=
 ∀(pins:A_)(s:P_)(σ:St)(H:Hp)(Q:VK),Inv X pins σ H s->t σ H Q ->
  wpAny (model X.prog X.w) X.A (eval a X.env) (λv s₁=>wpAny (model X.prog X.w) X.A (eval b X.env) (λu s₂=>wpAny (model X.prog X.w) X.A (compareOp op v u) (EP X pins σ Q) X.xe s₂) X.xe s₁) X.xe s
def tB(t:TE):TT:=fun σ H Q=>t σ H λx H1=>∃c,x=.bl c/\Q c H1
theorem Pr{g:CmpOp}{t:TE}(h:PC X g a b t)(f:behindInMarks g b=false:=by first|exact nobehind _ A3 A3|rfl):PT X (.Compare a [g] [b] pos) (tB t):=by
 intro e s σ H Q I l;refine wpAny_isTrue_Compare1 (thn (h e s σ H _ I l) λv o f=>thn f λu p k=>thn k λc r ⟨x,i,j,n,m⟩=>?_) f;obtain⟨d,rfl,q⟩:=m;cases n;exact Z3 ⟨i,j,q⟩
theorem Cv{e:Expr}{t:TE}(h:PE X e t)(j:∀c,isTrue e X.env c=(do let v <-c;standAt e.pos;holding [v] (truthy v)):=by intro _;rfl):PT X e (tB t):=by
 intro f s σ H Q I k;refine isTrue_plain (thn (h f s σ H _ I k) λv n ⟨x,g,i,m,l⟩=>?_) (j _);obtain⟨d,rfl,q⟩:=l;cases m;exact Z3 ⟨g,i,q⟩
variable{tA tB':TT}{rest:List Expr}
def tAnd(t u:TT):TT:=fun σ H Q=>t σ H λc H1=>if c=true then u σ H1 Q else Q false H1
def tOr(t u:TT):TT:=fun σ H Q=>t σ H λc H1=>if c=true then Q true H1 else u σ H1 Q
def tNot(t:TT):TT:=fun σ H Q=>t σ H λc H1=>Q (!c) H1
theorem Po(f:PT X a tA):PW X (.BoolOp .And [a] pos) tA:=by
 intro i d s σ H Q I h;refine isTrue_and (thn (f d s σ H Q I h) λc g e=>?_);cases c with
 |true=>exact isTrue_and_nil e
 |false=>exact e
theorem Ft(f:PT X a tA):PW X (.BoolOp .Or [a] pos) tA:=by
 intro i d s σ H Q I h;refine isTrue_or (thn (f d s σ H Q I h) λc g e=>?_);cases c with
 |false=>exact isTrue_or_nil e
 |true=>exact e
theorem Pp(i:PT X a tA)(j:PW X (.BoolOp .And (b::rest) pos) tB'):PW X (.BoolOp .And (a::b::rest) pos) (tAnd tA tB'):=by
 intro l d s σ H Q I h;refine isTrue_and (thn (i d s σ H _ I h) λc k ⟨e,f,g⟩=>?_);cases c with
 |true=>exact j l d k σ e Q f g
 |false=>exact⟨e,f,g⟩
theorem Ir(i:PT X a tA)(j:PW X (.BoolOp .Or (b::rest) pos) tB'):PW X (.BoolOp .Or (a::b::rest) pos) (tOr tA tB'):=by
 intro l d s σ H Q I h;refine isTrue_or (thn (i d s σ H _ I h) λc k ⟨e,f,g⟩=>?_);cases c with
 |true=>exact⟨e,f,g⟩
 |false=>exact j l d k σ e Q f g
theorem CB(f:PT X a tA):PT X (.UnaryOp .Not a pos) (tNot tA):=by
 intro d s σ H Q I h;exact isTrue_not (f d s σ H (λc e=>Q (!c) e) I h)
def tAndV(ta tb:TE):TE:=fun σ H Q=>ta σ H λx H1=>∃c,x=.bl c/\if c=true then tb σ H1 Q else Q (.bl false) H1
def tOrV(ta tb:TE):TE:=fun σ H Q=>ta σ H λx H1=>∃c,x=.bl c/\if c=true then Q (.bl true) H1 else tb σ H1 Q
def tNotV(ta:TE):TE:=fun σ H Q=>ta σ H λx H1=>∃c,x=.bl c/\Q (.bl (!c)) H1
theorem Jy{op}{t:TE}(h:PE X a t):PE X (.BoolOp op [a] pos) t:=λc s σ H Q I d=>BoolOp_one (h c s σ H Q I d)
theorem LO(i:PE X a ta)(j:PE X (.BoolOp .And (b::rest) pos) tb):PE X (.BoolOp .And (a::b::rest) pos) (tAndV ta tb):=by
 intro d s σ H Q I h;refine BoolOp_and (thn (i d s σ H _ I h) λv l ⟨x,f,g,k,e⟩=>?_);obtain⟨c,rfl,e⟩:=e;cases k;refine Z3 ?_;cases c with
 |true=>exact j d l σ f Q g e
 |false=>exact⟨.bl false,f,g,Z,e⟩
theorem pe_or(i:PE X a ta)(j:PE X (.BoolOp .Or (b::rest) pos) tb):PE X (.BoolOp .Or (a::b::rest) pos) (tOrV ta tb):=by
 intro d s σ H Q I h;refine BoolOp_or (thn (i d s σ H _ I h) λv l ⟨x,f,g,k,e⟩=>?_);obtain⟨c,rfl,e⟩:=e;cases k;refine Z3 ?_;cases c with
 |false=>exact j d l σ f Q g e
 |true=>exact⟨.bl true,f,g,Z,e⟩
theorem Vn(i:PE X a ta):PE X (.UnaryOp .Not a pos) (tNotV ta):=by
 intro d s σ H Q I h;refine UnaryOp_ (thn (i d s σ H _ I h) λv k ⟨x,f,g,j,e⟩=>?_);obtain⟨c,rfl,e⟩:=e;cases j;exact not_of (Z3 ⟨.bl (!c),f,g,Z,e⟩)
end
def SqL(K:O_)(H:Hp)(a:R_)(xs:List V):Prop :=
 Rd H a (.lst xs) \/
  ∃(o:Obj)(its:M_)(n:Nat),K.lookup a=some o/\o.cls=.type "list" /\ o.dict=none/\o.data=.seq its n/\its.size<=sizeLine/\AV xs its.toList
def SqT(K:O_)(H:Hp)(a:R_)(xs:List V):Prop :=
 Rd H a (.tup xs) \/
  ∃(o:Obj)(its:M_)(n:Nat),K.lookup a=some o/\o.cls=.type "tuple" /\ o.data=.seq its n/\its.size<=sizeLine/\AV xs its.toList
noncomputable def absV:Value->Option V
|.none=>some .non
|.bool b=>some (.bl b)
|.int i _=>some (.int i)
|.str x _=>some (.str x)
|.bytes b _=>some (.byt b)
|.float b _=>some (.flt b)
|.ref a=>some (.ref a)
|.type n=>some (.ty n)
|_=>none
theorem Bg.abs{x:V}{u:S_}(r:Bg x u):absV u=some x:=by
 cases x with
 |non=>cases r;rfl
 |bl _=>cases r;rfl
 |int _=>obtain⟨t,rfl⟩:=r;rfl
 |str _=>obtain⟨t,rfl⟩:=r;rfl
 |byt _=>obtain⟨t,rfl⟩:=r;rfl
 |flt _=>obtain⟨t,rfl⟩:=r;rfl
 |ref _=>cases r;rfl
 |ty _=>cases r;rfl
theorem Bg.inj{x y:V}{u:S_}(r:Bg x u)(q:Bg y u):x=y:=Y8 (r.abs.symm.trans q.abs)
theorem AV.inj:∀{xs ys:List V}{us:F_},AV xs us->AV ys us->xs=ys
|_,_,_,.nil,.nil=>rfl
|_,_,_,.cons r t,.cons r' t'=>by rw[r.inj r',AV.inj t t']
section
variable{X:Cx}{pins:A_}{σ:St}{H:Hp}{s:P_}{a:R_}{xs ys:List V}
theorem SqL.of{K:O_}(h:H a=some (.lst xs)):SqL K H a xs:=.inl (.inl h)
theorem SqT.of{K:O_}(h:H a=some (.tup xs)):SqT K H a xs:=.inl (.inl h)
theorem Inv.list(I:Inv X pins σ H s)(h:SqL X.K H a xs):∃b:List Value,AV xs b/\PlainL s.heap a b.toArray/\xs.length<=sizeLine:=by
 rcases h with h|⟨o,b,n,f,c,d,g,i,r⟩
 .obtain⟨z,b,n,r,e⟩:=h.ok I.hok;exact⟨b,r,⟨_,n,e,Z,Z,Z⟩,z⟩
 .refine⟨b.toList,r,⟨o,n,I.kIn a o f,c,d,by simpa using g⟩,?_⟩;have e:=r.length;simp only[U6]at e;lia
theorem Inv.tuple(I:Inv X pins σ H s)(h:SqT X.K H a xs):∃b:List Value,AV xs b/\IsTup s.heap a b.toArray/\xs.length<=sizeLine:=by
 rcases h with h|⟨o,b,n,d,c,f,g,r⟩
 .obtain⟨z,b,r,p⟩:=h.ok I.hok;exact⟨b,r,p,z⟩
 .refine⟨b.toList,r,⟨o,I.kIn a o d,c,n,by simpa using f⟩,?_⟩;have e:=r.length;simp only[U6]at e;lia
theorem Inv.list_inj(I:Inv X pins σ H s)(h:SqL X.K H a xs)(h':SqL X.K H a ys):xs=ys:=by
 obtain⟨b,r,⟨o,n,e,_,_,d⟩,_⟩:=I.list h;obtain⟨its',f,⟨i,g,c,_,_,d'⟩,_⟩:=I.list h';rw[e]at c;cases c;rw[d]at d';injection d' with d1 _
 have:b=its':=by simpa using Y7 Array.toList d1
 subst this;exact r.inj f
theorem Inv.tuple_inj(I:Inv X pins σ H s)(h:SqT X.K H a xs)(h':SqT X.K H a ys):xs=ys:=by
 obtain⟨b,r,⟨o,e,_,n,d⟩,_⟩:=I.tuple h;obtain⟨its',f,⟨i,c,_,g,d'⟩,_⟩:=I.tuple h';rw[e]at c;cases c;rw[d]at d';injection d' with d1 _
 have:b=its':=by simpa using Y7 Array.toList d1
 subst this;exact r.inj f
end
noncomputable abbrev Cx.wish(X:Cx)(E:B_):Cx:={X with xe:=E}
noncomputable abbrev Cx.nox(X:Cx):Cx:=X.wish λ_ _=>False
theorem Cx.Ok.wish{X:Cx}(ok:X.Ok)(E:B_):(X.wish E).Ok :=
 ⟨ok.mod,ok.kind,ok.glob,ok.blt,ok.above,ok.inj,ok.has,ok.cab,ok.hd,ok.frames,ok.stk,ok.exf,ok.bs,ok.bsz,ok.noex,ok.exfs,ok.funs,ok.frf⟩
theorem Cx.Ok.unwish{X:Cx}{E:B_}(ok:(X.wish E).Ok):X.Ok :=
 ⟨ok.mod,ok.kind,ok.glob,ok.blt,ok.above,ok.inj,ok.has,ok.cab,ok.hd,ok.frames,ok.stk,ok.exf,ok.bs,ok.bsz,ok.noex,ok.exfs,ok.funs,ok.frf⟩
section
variable{X:Cx}{pins:A_}{σ:St}{H:Hp}{s:P_}{E:B_}
theorem Inv.wish(I:Inv X pins σ H s)(E:B_):Inv (X.wish E) pins σ H s:=⟨I.ok.wish E,I.os,I.bare,I.base,I.loc,I.cell,I.free,I.freeC,I.pin,I.hok,I.len⟩
theorem Inv.unwish(I:Inv (X.wish E) pins σ H s):Inv X pins σ H s:=⟨I.ok.unwish,I.os,I.bare,I.base,I.loc,I.cell,I.free,I.freeC,I.pin,I.hok,I.len⟩
theorem SP.unwish{D:JJ}{f:Flow}{b:P_}(h:SP (X.wish E) pins D f b):SP X pins D f b:=by
 cases f with
 |next=>obtain⟨σ',a,I,q⟩:=h;exact⟨σ',a,I.unwish,q⟩
 |brk=>obtain⟨σ',a,I,q⟩:=h;exact⟨σ',a,I.unwish,q⟩
 |cont=>obtain⟨σ',a,I,q⟩:=h;exact⟨σ',a,I.unwish,q⟩
 |ret u=>obtain⟨v,σ',a,I,r,q⟩:=h;exact⟨v,σ',a,I.unwish,r,q⟩
theorem PSs.nox{a:List Stmt}{t:TS}(h:PSs X.nox a t):PSs X a t:=λpins s σ H D I b =>
 X6 (h pins s σ H D (I.wish _) b) (λ_ _ q=>q.unwish) λ_ _ z=>False.elim z
end
section
variable{X:Cx}{st:Stmt}{rest:List Stmt}{t u:TS}{e:Expr}{te:TE}{pos:Pos}
def tNext:TS:=λD σ H=>D.nx σ H
def tSeq(t u:TS):TS:=λD σ H=>t {D with nx:=u D} σ H
theorem AD:PSs X [] tNext:=λ_ _ σ H _ I h=>wpAny_execs_nil ⟨σ,H,I,h⟩
theorem Ae(d:PS X st t)(g:PSs X rest u):PSs X (st::rest) (tSeq t u):=by
 intro a s σ H D I h;refine wpAny_execs_cons (thn (d a s σ H {D with nx:=u D} I h) λf i q=>?_);cases f with
 |next =>
  obtain⟨σ',b,c,q⟩:=q;exact g a i σ' b D c q
 |ret v=>exact q
 |brk=>exact q
 |cont=>exact q
theorem Af(b:PS X st t):PSs X [st] t:=by
 intro a s σ H D I h;refine wpAny_execs_cons (thn (b a s σ H D I h) λf c q=>?_);cases f with
 |next=>exact wpAny_execs_nil q
 |ret v=>exact q
 |brk=>exact q
 |cont=>exact q
theorem Inv.quiet{a:A_}{σ:St}{H:Hp}{s:P_}(I:Inv X a σ H s):interactive X.env=false:=by simp[interactive,I.ok.kind]
def tDrop(te:TE):TS:=λD σ H=>te σ H λ_ H1=>D.nx σ H1
theorem Ba(d:PE X e te)(f:swapsWith e none pos.line X.env=pure false:=by rfl):PS X (.Expr e pos) (tDrop te):=by
 intro a s σ H D I h;exact wpAny_Expr_any (thn (d a s σ H _ I h) λv j ⟨x,b,c,i,g⟩=>⟨σ,b,c,g⟩) I.quiet f
def tRet(te:TE):TS:=λD σ H=>te σ H D.rt
theorem Ax(d:PE X e te):PS X (.Return (some e) pos) (tRet te):=by
 intro a s σ H D I h;exact wpAny_Return_some (thn (d a s σ H _ I h) λv i ⟨x,b,c,g,f⟩=>⟨x,σ,b,c,g,f⟩)
def tIfS(c:TT)(t u:TS):TS:=λD σ H=>c σ H λb H1=>if b=true then t D σ H1 else u D σ H1
theorem AS{c:Expr}{a b:List Stmt}{tc:TT}(n:PT X c tc)(l:PSs X a t)(m:PSs X b u):PS X (.If c a b pos) (tIfS tc t u):=by
 intro f s σ H D I h;refine wpAny_If (thn (n f s σ H _ I h) λd k ⟨g,i,j⟩=>?_);cases d with
 |true=>exact l f k σ g D i j
 |false=>exact m f k σ g D i j
def tNever:TS:=λ_ _ _=>False
theorem BT:PS X st tNever:=λ_ _ _ _ _ _ h=>h.elim
end
abbrev TG:=V->St->Hp->(St->Hp->Prop)->Prop
abbrev TGs:=List V->St->Hp->(St->Hp->Prop)->Prop
def PG(X:Cx)(target:Expr)(t:TG):Prop :=
 ∀(pins:A_)(s:P_)(σ:St)(H:Hp)(v:V)(u:S_)(Q:St->Hp->Prop),Inv X pins σ H s->Bg v u->t v σ H Q ->
  wpAny (model X.prog X.w) X.A (assign target X.env u) (λ_ s'=>∃σ' H',Inv X pins σ' H' s'/\Q σ' H') X.xe s
def PGs(X:Cx)(ts:List Expr)(t:TGs):Prop :=
 ∀(pins:A_)(s:P_)(σ:St)(H:Hp)(vs:List V)(us:F_)(Q:St->Hp->Prop),Inv X pins σ H s->AV vs us->t vs σ H Q ->
  wpAny (model X.prog X.w) X.A (assignInOrder ((assignEach ts X.env).map (·.2)) us) (λ_ s'=>∃σ' H',Inv X pins σ' H' s'/\Q σ' H') X.xe s
abbrev TSet:=V->V->V->Hp->(Hp->Prop)->Prop
def PSet(X:Cx)(t:TSet):Prop :=
 ∀(pins:A_)(s:P_)(σ:St)(H:Hp)(o i v:V)(ov iv u:S_)(Q:Hp->Prop),Inv X pins σ H s->Bg o ov->Bg i iv->Bg v u->t o i v H Q ->
  wpAny (model X.prog X.w) X.A (setItem ov iv u) (λ_ s'=>∃H',Inv X pins σ H' s'/\Q H') X.xe s
section
variable{X:Cx}{pos:Pos}
def NL(i:Nat):TG:=λv σ H Q=>Q (σ.set i (some v)) H
theorem AN{i:Nat}{x:Str}(c:X.N.Nodup)(e:X.N[i]?=some x)(f:Loc X.env.scope x)(d:X.fn x=true\/X.env.scope.names.lookup x=some .local:=by first|exact .inl rfl|exact .inr rfl|assumption):PG X (.Name x pos) (NL i):=by
 intro a s σ H v u Q I r h;exact wpAny_assign_Name (Qu I c e f r (λg b=>⟨_,H,b,h⟩) d)
def gNil:TGs:=λvs σ H Q=>vs=[]/\Q σ H
def QX(t:TG)(u:TGs):TGs:=λvs σ H Q=>∃v r,vs=v::r/\t v σ H fun σ' H'=>u r σ' H' Q
theorem Dm:PGs X [] gNil:=by
 intro a s σ H vs us Q I r h;obtain⟨e,h⟩:=h;subst e;cases r;exact assignInOrder_nil ⟨σ,H,I,h⟩
theorem AX{e:Expr}{b:List Expr}{t:TG}{u:TGs}(i:PG X e t)(j:PGs X b u)
  (k:(assignEach (e::b) X.env).map (·.2)=assign e X.env::(assignEach b X.env).map (·.2):=by rfl):PGs X (e::b) (QX t u):=by
 intro a s σ H vs us Q I r h;obtain⟨v,o,g,h⟩:=h;subst g;cases r with
 |cons r m =>
  rw[k];refine assignInOrder_cons (thn (i a s σ H _ _ _ I r h) λ_ n ⟨c,d,f,l⟩=>?_);exact j a n c d _ _ Q f m l
def gTup(K:O_)(n:Nat)(t:TGs):TG:=λv σ H Q=>∃a xs,v=.ref a/\SqT K H a xs/\xs.length=n/\t xs σ H Q
theorem EJ{d:List Expr}{k:Nat}{t:TGs}{n:Nat}(m:X.calm=true)(h:PGs X d t)
  (q:(assignEach d X.env).length=n:=by rfl) (f:(assignEach d X.env).findIdx? (·.1)=none:=by rfl):PG X (.Tuple d k pos) (gTup X.K n t):=by
 intro c s σ H v u Q I r g;obtain⟨a,xs,l,w,p,g⟩:=g;subst l;cases r;obtain⟨z,i,x,A⟩:=I.tuple w;refine assign_Tuple_tuple (I.ok.hd m) x (by simp[q,<-p,i.length]) f λh' y=>?_;have j:Inv X c σ H {s with heap:=h'}:=I.kept (t':=s.toks) λb o e=>y b o (L9 (F5 e)) e;exact h c _ σ H xs _ Q j (by simpa using i) g
def gSub(to ti:TE)(t:TSet):TG:=λv σ H Q=>to σ H λo H1=>ti σ H1 λi H2=>t o i v H2 λH3=>Q σ H3
theorem RA{o i:Expr}{e d:TE}{t:TSet}(q:PE X o e)(p:PE X i d)(w:PSet X t)
  (n:∀v,assign (.Subscript o i pos) X.env v=(do
   let b <-holding [v] (eval o X.env);let c <-holding [v,b] (eval i X.env)
   standAt pos
   holding [v,b,c] (setItem b c v)
   release [v,b,c] []):=by intro _;rfl):PG X (.Subscript o i pos) (gSub e d t):=by
 intro a s σ H v u Q I r h;rw[n];refine W0 (A0f (thn (q a s σ H _ I h) λb E ⟨x,f,k,C,z⟩=>?_));refine W0 (A0f (thn (p a E σ f _ k z) λc F ⟨y,g,l,D,A⟩=>?_));refine W0 (wpAny_standAt (W0 (A0f (thn (w a F σ g x y v b c u _ l C D r A) λ_ G ⟨j,m,B⟩=>?_))));exact wpAny_release ⟨σ,j,m,B⟩
def tAsg(te:TE)(g:TG):TS:=λD σ H=>te σ H λx H1=>g x σ H1 D.nx
theorem Nm{b e:Expr}{c:TE}{g:TG}(j:PE X e c)(k:PG X b g)(l:swapsWithSole [b] e pos.line X.env=pure false:=by rfl)(m:swappedStores [b] e X.env=pure none:=by rfl)
  (i:(assignEach [b] X.env).map (·.2)=[assign b X.env]:=by rfl):PS X (.Assign [b] e pos) (tAsg c g):=by
 intro a s σ H D I h;refine wpAny_Assign_stores (thn (j a s σ H _ I h) λv p ⟨x,d,f,o,n⟩=>?_) l m;rw[i];exact thn (k a p σ d x v _ f o n) λ_ r q=>q
theorem Av{i:Nat}{x:Str}{e:Expr}{c:TE}{a:Pos}(j:X.N.Nodup)(m:X.N[i]?=some x)(o:Loc X.env.scope x)(k:PE X e c)(n:swapsWith e (some (.Name x a)) pos.line X.env=pure false:=by rfl)(l:X.fn x=true\/X.env.scope.names.lookup x=some .local:=by first|exact .inl rfl|exact .inr rfl|assumption) :
  PS X (.Assign [.Name x a] e pos) (tAsg c (NL i)):=by
 intro b s σ H D I h;refine wpAny_Assign_Name (thn (k b s σ H _ I h) λv r ⟨y,d,f,q,p⟩=>?_) n;exact Qu f j m o q (λt g=>⟨_,d,g,p⟩) l
end
structure It where
go:Nat->Hp->Prop
yld:Nat->Hp->V->Hp->Prop
stop:Nat->Hp->Prop
def GJ(X:Cx)(pins:A_)(H:Hp)(b:R_):Prop :=
 H b=none/\b≠X.env.locals/\b∉X.fs/\(b∈X.ex\/X.s₀.heap.objs.size<=b)/\(∀x c,X.env.cells.lookup x=some c->c≠b)/\∀p∈X.pn++pins,p.1≠b
theorem Inv.fpOk{X:Cx}{a:A_}{σ:St}{H f:Hp}{s:P_}{b:R_}(I:Inv X a σ H s)(d:s.heap.objs.size<=b)(g:f b=none):GJ X a f b:=by
 refine⟨g,T4 (J6 I.lt d),I.nofs d,.inr (D4 I.sz d),λx c e z=>?_,λp h z=>?_⟩
 .obtain⟨v,q⟩:=I.cell x c e;exact absurd (J6 q.lt (by rw[z];exact d)) (P0 _)
 .exact absurd (J6 (F5 (I.pin p h).1) (by rw[z];exact d)) (P0 _)
structure Qm(P:N_)(w:Q_)(K:O_)(tg:Expr)(J:It)(fp:H_)(it:R_)(tn:Nat->Heap->Prop):Prop where
mem:it∈fp
obj:∀i h,tn i h->∀b∈fp,∃o,h.get? b=some o/\∀v,o.data≠.cell v
keep:∀i h h',tn i h->(∀b∈fp,∀o,h.get? b=some o->h'.get? b=some o)->tn i h'
item:∀(X:Cx),X.prog=P->X.w=w->X.K=K->X.calm=true->∀(i:Nat)(pins:A_)(s:P_)(σ:St)(H:Hp)(E:B_),Inv X pins σ H s->(∀b∈fp,GJ X pins H b)->tn i s.heap->J.go i H ->
 wpAny (model P w) X.A (pyNext (.ref it)) (λr s1=>∃u,r=some u /\
  wpAny (model P w) X.A (letOwnedTupleGo tg (.ref it) u) (λ_ s2=>∃x H',Inv X pins σ H' s2/\Bg x u/\J.yld i H x H'/\tn (i+1) s2.heap/\∀b∈fp,H' b=none) E s1) E s
done:∀(X:Cx),X.prog=P->X.w=w->X.K=K->X.calm=true->∀(i:Nat)(pins:A_)(s:P_)(σ:St)(H:Hp)(E:B_),Inv X pins σ H s->(∀b∈fp,GJ X pins H b)->tn i s.heap->J.stop i H ->
 wpAny (model P w) X.A (pyNext (.ref it)) (λr s1=>r=none/\Inv X pins σ H s1) E s
self:∀(A:Around)(i:Nat)(s:P_)(Q:B_)(E:B_),tn i s.heap->Q (.ref it) s->wpAny (model P w) A (pyIter (.ref it)) Q E s
abbrev TI:=St->Hp->(It->Hp->Prop)->Prop
def PIE(X:Cx)(pins:A_)(σ:St)(tg:Expr)(R:It->Hp->Prop)(itv:S_)(s2:P_):Prop :=
 ∃(it:R_)(fp:H_)(tn:Nat->Heap->Prop)(J:It)(H':Hp),itv=.ref it/\Inv X pins σ H' s2/\Qm X.prog X.w X.K tg J fp it tn/\tn 0 s2.heap/\(∀b∈fp,GJ X pins H' b)/\R J H'
def PI(X:Cx)(tg iter:Expr)(wi:TI):Prop :=
 ∀(pins:A_)(s:P_)(σ:St)(H:Hp)(R:It->Hp->Prop),Inv X pins σ H s->wi σ H R ->
  wpAny (model X.prog X.w) X.A (eval iter X.env) (λv s1=>wpAny (model X.prog X.w) X.A (pyIter v) (PIE X pins σ tg R) X.xe s1) X.xe s
theorem SY{M:Model}{A:Around}{E:B_}{s:P_}{b:Expr}{it:R_}{u:S_}{o:Obj}{n:String}{vs:M_}{Q:Unit->Shared->Prop}(f:s.heap.get? it=some o)(c:o.cls=.type n)(d:o.data=.fields vs)
   (e:["enumerate","zip","dict_itemiterator","dict_reverseitemiterator","odict_iterator","itertools.zip_longest","itertools.pairwise"].contains n=false) (a:Q () s):wpAny M A (letOwnedTupleGo b (.ref it) u) Q E s:=by
 unfold letOwnedTupleGo;cases b<;>first
   |exact Y6 a
   | (cases u<;>first
       |exact Y6 a
       | (refine W0 (wpAny_load f ?_)
          rw[c,d];show wpAny M A (if(["enumerate","zip","dict_itemiterator","dict_reverseitemiterator","odict_iterator","itertools.zip_longest","itertools.pairwise"].contains n && vs[0]?==some (rawInt _))=true then _ else _) Q E s;rw[W4 (by intro h;rw[e,Bool.false_and]at h;cases h)];exact Y6 a))
noncomputable def Itl(K:O_)(a:R_):It :=
 ⟨λi H=>∃xs x,SqL K H a xs/\xs[i]?=some x,λi H x H'=>H'=H/\∀xs,SqL K H a xs->xs[i]?=some x,λi H=>∃xs,SqL K H a xs/\xs.length<=i⟩
noncomputable def Itt(K:O_)(a:R_):It :=
 ⟨λi H=>∃xs x,SqT K H a xs/\xs[i]?=some x,λi H x H'=>H'=H/\∀xs,SqT K H a xs->xs[i]?=some x,λi H=>∃xs,SqT K H a xs/\xs.length<=i⟩
noncomputable def Itr(lo:Int)(n:Nat):It:=⟨λi _=>i<n,λi H x H'=>H'=H/\x=.int (lo+i),λi _=>n<=i⟩
theorem Tz{P:N_}{w:Q_}{K:O_}{tg:Expr}(a it:R_):Qm P w K tg (Itl K a) [it] it (λi h=>h.IsListIter it a i) where
 mem:=by simp
 obj:=λi h f b j=>by
  have e:b=it:=by simpa using j
  subst e;obtain⟨o,e,c,d⟩:=f;exact⟨o,e,λv z=>by rw[d]at z;cases z⟩
 keep:=λi h h' f k=>f.at λo e=>k it B0 o e
 item:=by
  intro X C F B N i g s σ H E I m f D;subst C F B;obtain⟨xs,x,n,G⟩:=D;obtain⟨L,M,p,U⟩:=I.list n;obtain⟨u,S,V⟩:=M.get G;obtain⟨q,r,R,t,y,A⟩:=m it B0;refine wpAny_pyNext_list_item f p.isList (x:=u) (by simpa using S) λh' l Y=>?_;have O:Inv X g σ H {s with heap:=h'}:=I.turned (t':=s.toks) (λb o j e=>(Y.2 b j).trans e) q r t y A;obtain⟨o,e,c,d⟩:=id l;exact⟨u,Z,SY (s:={s with heap:=h'}) e c d A3 ⟨x,H,O,V,⟨Z,λys T=>by rw[I.list_inj T n];exact G⟩,l,λb j=>(m b j).1⟩⟩
 done:=by
  intro X C F B N i g s σ H E I m f D;subst C F B;obtain⟨xs,n,G⟩:=D;obtain⟨L,M,p,U⟩:=I.list n;obtain⟨q,r,R,t,y,A⟩:=m it B0;have hl:=M.length;exact wpAny_pyNext_list_end (I.ok.hd N) f p.isList (by simp;lia) λh' Q=>⟨Z,I.turned (t':=s.toks) (λb o j e=>Q b o j e) q r t y A⟩
 self:=λ_ _ _ _ _ f h=>wpAny_pyIter_listiter f h
theorem Rr{P:N_}{w:Q_}{K:O_}{tg:Expr}(a it:R_):Qm P w K tg (Itt K a) [it] it (λi h=>h.IsTupleIter it a i) where
 mem:=by simp
 obj:=λi h f b j=>by
  have e:b=it:=by simpa using j
  subst e;obtain⟨o,e,c,d⟩:=f;exact⟨o,e,λv z=>by rw[d]at z;cases z⟩
 keep:=λi h h' f k=>f.at λo e=>k it B0 o e
 item:=by
  intro X D G C N i g s σ H E I n f F;subst D G C;obtain⟨xs,x,q,L⟩:=F;obtain⟨l,M,p,U⟩:=I.tuple q;obtain⟨u,S,V⟩:=M.get L;obtain⟨r,t,R,y,A,B⟩:=n it B0;refine wpAny_pyNext_tuple_item f (show s.heap.IsTuple a l.toArray from p) (x:=u) (by simpa using S) λh' m Y=>?_;have O:Inv X g σ H {s with heap:=h'}:=I.turned (t':=s.toks) (λb o j e=>(Y.2 b j).trans e) r t y A B;obtain⟨o,e,c,d⟩:=id m;exact⟨u,Z,SY (s:={s with heap:=h'}) e c d A3 ⟨x,H,O,V,⟨Z,λys T=>by rw[I.tuple_inj T q];exact L⟩,m,λb j=>(n b j).1⟩⟩
 done:=by
  intro X D G C N i g s σ H E I n f F;subst D G C;obtain⟨xs,q,L⟩:=F;obtain⟨l,M,p,U⟩:=I.tuple q;obtain⟨r,t,R,y,A,B⟩:=n it B0;have hl:=M.length;exact wpAny_pyNext_tuple_end (I.ok.hd N) f (show s.heap.IsTuple a l.toArray from p) (by simp;lia) λh' Q=>⟨Z,I.turned (t':=s.toks) (λb o j e=>Q b o j e) r t y A B⟩
 self:=λ_ _ _ _ _ f h=>wpAny_pyIter_tupleiter f h
theorem Rs{P:N_}{w:Q_}{K:O_}{L:Expr}(it:R_)(lo:Int)(n:Nat):Qm P w K L (Itr lo n) [it] it (λi h=>IsRangeIter h it (lo+(i:Nat)*1) ((n:Int)-(i:Nat)) 1) where
 mem:=by simp
 obj:=λi h a b d=>by
  have e:b=it:=by simpa using d
  subst e;exact⟨_,a,λv z=>by
   have M:Data.fields _=Data.cell v:=z;cases M⟩
 keep:=λi h h' a k=>k it B0 _ a
 item:=by
  intro X u A r x i c s σ H E I g a y;subst u A r;obtain⟨j,l,D,m,p,q⟩:=g it B0;have W:=Walks.range (prog:=X.prog) (w:=X.w) (I.ok.hd x) it lo 1 n;refine W.item i s _ _ y a λv h' tk F f G=>?_;obtain⟨t,rfl⟩:=F;have B:Inv X c σ H {s with heap:=h',toks:=tk}:=I.turned (λb o d e=>G b o (by simpa using d) e) j l m p q;refine⟨_,Z,SY (s:={s with heap:=h',toks:=tk}) (n:="range_iterator") f Z Z A3 ⟨.int (lo+i),H,B,⟨t,?_⟩,⟨Z,Z⟩,f,λb d=>(g b d).1⟩⟩;rw[Int.mul_one]
 done:=by
  intro X u A r x i c s σ H E I g a y;subst u A r;obtain⟨j,l,D,m,p,q⟩:=g it B0;exact wpAny_pyNext_range_end (I.ok.hd x) a (by have:n<=i:=y;lia) λh' C=>⟨Z,I.turned (t':=s.toks) (λb o d e=>C b o d e) j l m p q⟩
 self:=λ_ _ _ _ _ a h=>wpAny_pyIter_rangeiter a h
section
variable{X:Cx}{tg:Expr}
def iList(K:O_)(tl:TE):TI:=fun σ H R=>tl σ H λx H1=>∃a,x=.ref a/\(∃xs,SqL K H1 a xs)/\R (Itl K a) H1
def iTup(K:O_)(tl:TE):TI:=fun σ H R=>tl σ H λx H1=>∃a,x=.ref a/\(∃xs,SqT K H1 a xs)/\R (Itt K a) H1
theorem Bu{l:Expr}{g:TE}(k:PE X l g):PI X tg l (iList X.K g):=by
 intro c s σ H R I h;refine thn (k c s σ H _ I h) λv f ⟨x,i,d,t,r⟩=>?_;obtain⟨a,e,⟨xs,m⟩,q⟩:=r;subst e;cases t;obtain⟨n,w,p,u⟩:=d.list m;refine A0e p.isList ?_;refine⟨f.heap.objs.size,[f.heap.objs.size],_,_,i,Z,d.kept (t':=f.toks) λb o e=>D0 _ e,Tz a _,⟨_,F8 _ Z,Z,Z⟩,λb j=>?_,q⟩;have e:b=f.heap.objs.size:=by simpa using j
 subst e;exact d.fpOk (C9 _) (d.hok.fresh (C9 _))
theorem Jx{l:Expr}{i:TE}(m:PE X l i):PI X tg l (iTup X.K i):=by
 intro c s σ H R I h;refine thn (m c s σ H _ I h) λv d ⟨x,j,f,t,r⟩=>?_;obtain⟨a,e,⟨xs,n⟩,q⟩:=r;subst e;cases t;obtain⟨g,w,p,u⟩:=f.tuple n;refine wpAny_pyIter_tuple (show d.heap.IsTuple a g.toArray from p) ?_;refine⟨d.heap.objs.size,[d.heap.objs.size],_,_,j,Z,f.kept (t':=d.toks) λb o e=>D0 _ e,Rr a _,⟨_,F8 _ Z,Z,Z⟩,λb k=>?_,q⟩;have e:b=d.heap.objs.size:=by simpa using k
 subst e;exact f.fpOk (C9 _) (f.hok.fresh (C9 _))
theorem QE{c:A_}{σ:St}{H:Hp}{s:P_}{R:It->Hp->Prop}{E:B_}{lo a:Int}{t u v:Tok}{tk:Nat}(I:Inv X c σ H s)(h:-(2^62)<=lo)(i:lo<2^62)(j:-(2^62)<=a)(k:a<2^62)
  (q:R (Itr lo (a-lo).toNat) H):wpAny (model X.prog X.w) X.A (pyIter (.ref s.heap.objs.size)) (PIE X c σ tg R) E {s with heap:=s.heap.push {cls:=.type "range",data:=.fields #[.int lo t,.int a u,.int 1 v]},toks:=tk}:=by
 refine wpAny_pyIter_range (IsRange.new ..) (small_one h i j k) ?_;have d:Inv X c σ H {s with heap:=s.heap.push {cls:=.type "range",data:=.fields #[.int lo t,.int a u,.int 1 v]},toks:=tk}:=I.kept λb o e=>D0 _ e;refine⟨(s.heap.push {cls:=.type "range",data:=.fields #[.int lo t,.int a u,.int 1 v]}).objs.size,[(s.heap.push {cls:=.type "range",data:=.fields #[.int lo t,.int a u,.int 1 v]}).objs.size],_,_,H,Z,
  d.kept (t':=tk) λb o e=>D0 _ e,Rs _ lo (a-lo).toNat,?_,λb l=>?_,q⟩
 .have f:lo+((0:Nat):Int)*1=lo:=by simp
  have g:(((a-lo).toNat:Nat):Int)-((0:Nat):Int)=Builtin.Range.rangeSize lo a 1:=by rw[rangeSize_one];split<;>lia
  show IsRangeIter _ _ (lo+((0:Nat):Int)*1) ((((a-lo).toNat:Nat):Int)-((0:Nat):Int)) 1;rw[f,g];exact F8 _ Z
 .have e:b=(s.heap.push {cls:=.type "range",data:=.fields #[.int lo t,.int a u,.int 1 v]}).objs.size:=by simpa using l
  subst e;exact d.fpOk (C9 _) (d.hok.fresh (C9 _))
def iRng1(ta:TA):TI:=fun σ H R=>ta σ H λvs H1=>∃j:Int,vs=[.int j]/\-(2^62)<=j/\j<2^62/\R (Itr 0 j.toNat) H1
def iRng2(ta:TA):TI:=fun σ H R=>ta σ H λvs H1=>∃i j:Int,vs=[.int i,.int j]/\(-(2^62)<=i/\i<2^62/\-(2^62)<=j/\j<2^62)/\R (Itr i (j-i).toNat) H1
theorem Ce{a:Expr}{f:TA}{p c:Pos}(k:Gl X "range")(l:X.mg "range" = none)(i:PA X [a] f)(m:starEach [a] X.env=[(false,eval a X.env)]:=by rfl):PI X tg (.Call (.Name "range" p) [a] [] c) (iRng1 f):=by
 intro b s σ H R I h;refine Call_ (JH I k l boot_range (X5 (thn (i c b s σ H _ I h) λus w ⟨vs,v,g,o,d⟩=>?_) m Z));obtain⟨j,e,d,n,q⟩:=d;subst e;cases o with
 |cons r u =>
  cases u;obtain⟨t,rfl⟩:=r;exact call_range_1 (QE g A1 A1 d n (by simpa using q))
theorem LM{a b:Expr}{l:TA}{p f:Pos}(o:Gl X "range")(u:X.mg "range" = none)(n:PA X [a,b] l)(v:starEach [a,b] X.env=[(false,eval a X.env),(false,eval b X.env)]:=by rfl)(c:starEach [b] X.env=[(false,eval b X.env)]:=by rfl) :
  PI X tg (.Call (.Name "range" p) [a,b] [] f) (iRng2 l):=by
 intro d s σ H R I h;refine Call_ (JH I o u boot_range (X5 (thn (n f d s σ H _ I h) λus C ⟨vs,B,m,A,g⟩=>?_) (by rw[v,c]) (by rw[c];rfl)));obtain⟨i,j,e,⟨g,w,x,y⟩,q⟩:=g;subst e;cases A with
 |cons r k =>
  cases k with
  |cons z k =>
   cases k;obtain⟨t,rfl⟩:=r;obtain⟨t',rfl⟩:=z;exact call_range_2 (QE m g w x y q)
def tFor(wi:TI)(g:TG)(tb:TS):TS:=λD σ H=>wi σ H λJ H1=>∃W:Nat->Nat->St->Hp->Prop,(∃m,W 0 m σ H1)/\∀i m σ H,W i m σ H ->
 (J.stop i H/\D.nx σ H)\/(J.go i H/\∃N:St->Hp->Prop,(∀σ' H',N σ' H'->∃m',m'<m/\W (i+1) m' σ' H')/\∀x H',J.yld i H x H'->g x σ H' fun σ2 H2=>tb {D with nx:=N,ct:=N,bk:=D.nx} σ2 H2)
noncomputable def LL(fp:H_)(h:T_):List (Addr×Obj):=fp.filterMap λb=>(h.get? b).map λo=>(b,o)
theorem Ii{fp:H_}{h:T_}{b:R_}{o:Obj}(a:b∈fp)(e:h.get? b=some o):(b,o)∈LL fp h:=List.mem_filterMap.mpr ⟨b,a,by rw[e];rfl⟩
theorem Oz{fp:H_}{h:T_}{p:Addr×Obj}(d:p∈LL fp h):p.1∈fp/\h.get? p.1=some p.2:=by
 obtain⟨b,c,e⟩:=List.mem_filterMap.mp d;cases q:h.get? b with
 |none=>rw[q]at e;cases e
 |some o =>
  rw[q]at e;have a:(b,o)=p:=Y8 e;subst a;exact⟨c,q⟩
theorem Inv.pinned{a:A_}{σ:St}{H:Hp}{s:P_}{fp:H_}(I:Inv X a σ H s)(j:∀b∈fp,GJ X a H b)(k:∀b∈fp,∃o,s.heap.get? b=some o/\∀v,o.data≠.cell v):Inv X (a++LL fp s.heap) σ H s :=
 I.pins_of λp l=>(D3.mp l).elim (λz=>I.pin p (M4 _ z)) λz=>by
  obtain⟨f,e⟩:=Oz z;obtain⟨g,h,i,_⟩:=j p.1 f;obtain⟨o,c,d⟩:=k p.1 f;rw[e]at c;cases c;exact⟨e,g,h,i,d⟩
theorem Inv.unpinned{a pl:A_}{σ:St}{H:Hp}{s:P_}(I:Inv X (a++pl) σ H s):Inv X a σ H s:=I.pins_of λp b=>I.pin p (M4 _ (R7 _ b))
theorem BQ{q:Expr}{B:List Stmt}{wi:TI}{g:TG}{tb:TS}{U:Pos}(G:PassesOwn (model X.prog X.w) X.A X.env X.xe)(hc:X.calm=true)(hi:PI X tg q wi)(hg:PG X tg g)(p:PSs X B tb)
  (hs:∀x,foldedSetIterable q X.env x=pure x:=by intro _;rfl):PS X (.For tg q B [] U) (tFor wi g tb):=by
 intro a s σ H D I h;refine wpAny_For (thn (hi a s σ H _ I h) λv s1 h1=>thn h1 λab s2 h2=>?_) hs;obtain⟨it,fp,tn,J,H2,e,I2,T,Y,f2,W,⟨m0,w0⟩,O⟩:=h2;subst e;have t:∀{z:Hp},(∀b∈fp,z b=none)->∀b∈fp,GJ X a z b:=λhn b p=>⟨hn b p,(f2 b p).2⟩
 refine codeAny_forLoop_any (λn s'=>∃i σ' z,Inv X a σ' z s'/\tn i s'.heap/\(∀b∈fp,z b=none)/\W i n σ' z) ?_ m0 ⟨0,σ,H2,I2,Y,λb p=>(f2 b p).1,w0⟩;rintro n s3 ⟨i,y,P,I3,L,F,w3⟩;rcases O i n y P w3 with ⟨M,qn⟩|⟨go,N,hN,step⟩
 .refine A0a G (thn (T.done X Z Z Z hc i a s3 y P X.xe I3 (t F) L M) λr s4 ⟨S,I4⟩=>?_);subst S;exact wpAny_execs_nil ⟨y,P,I4,qn⟩
 .refine A0a G (thn (T.item X Z Z Z hc i a s3 y P X.xe I3 (t F) L go) λr s4 ⟨u,S,h4⟩=>?_);subst S;refine A0a G (thn h4 λ_ s5 ⟨x,H5,I5,r5,y5,E,R⟩=>?_);have Q:=I5.pinned (t R) (T.obj _ _ E);refine A0a G (thn (hg _ s5 y H5 x u _ Q r5 (step x H5 y5)) λ_ s6 ⟨aa,H6,I6,q6⟩=>?_);refine A0a G (thn (p _ s6 aa H6 _ I6 q6) λf V C=>?_);have l:∀{c:St}{j:Hp},Inv X (a++LL fp s5.heap) c j V->N c j->∃m,m<n/\∃i σ' z,Inv X a σ' z V/\tn i V.heap/\(∀b∈fp,z b=none)/\W i m σ' z:=λ{c j} k K=>by
   obtain⟨m',hm,w7⟩:=hN c j K;refine⟨m',hm,i+1,c,j,k.unpinned,T.keep _ _ _ E λb p o e=>(k.pin (b,o) (M4 _ (M4 _ (Ii p e)))).1,λb p=>?_,w7⟩;obtain⟨o,e,d⟩:=T.obj _ _ E b p;exact(k.pin (b,o) (M4 _ (M4 _ (Ii p e)))).2.1
  cases f with
  |next=>obtain⟨c,j,k,K⟩:=C;exact l k K
  |cont=>obtain⟨c,j,k,K⟩:=C;exact l k K
  |brk=>obtain⟨c,j,k,C⟩:=C;exact⟨c,j,k.unpinned,C⟩
  |ret v=>obtain⟨x7,c,j,k,r7,C⟩:=C;exact⟨x7,c,j,k.unpinned,r7,C⟩
end
theorem CZ{K:O_}{a:R_}{xs:List V}{g:TG}{k:TS}{D:JJ}{σ:St}{H:Hp}(b:Nat->St->Hp->Prop)(l:b 0 σ H)(r:∀i σ H,i<=xs.length->b i σ H->SqL K H a xs)
  (s:∀i x σ H,xs[i]?=some x->b i σ H->g x σ H fun d h=>k {D with nx:=b (i+1),ct:=b (i+1),bk:=D.nx} d h) (n:∀σ H,b xs.length σ H->D.nx σ H) :
  ∃W:Nat->Nat->St->Hp->Prop,(∃m,W 0 m σ H)/\∀i m σ H,W i m σ H ->
   ((Itl K a).stop i H/\D.nx σ H)\/((Itl K a).go i H/\∃N:St->Hp->Prop,(∀σ' c,N σ' c->∃j,j<m/\W (i+1) j σ' c)/\∀x c,(Itl K a).yld i H x c->g x σ c fun d h=>k {D with nx:=N,ct:=N,bk:=D.nx} d h):=by
 refine⟨λi m σ H=>m=xs.length-i/\i<=xs.length/\b i σ H,⟨xs.length,by simp,L5 _,l⟩,?_⟩;rintro i m σ H ⟨rfl,o,p⟩;have q:=r i σ H o p;by_cases f:i<xs.length
 .refine .inr ⟨⟨xs,xs[i],q,by simp[f]⟩,b (i+1),fun σ' c t=>⟨xs.length-(i+1),by lia,Z,f,t⟩,λx c y=>?_⟩;obtain⟨e,y⟩:=y;subst e;exact s i x σ _ (y xs q) p
 .have e:i=xs.length:=by lia
  subst e;exact .inl ⟨⟨xs,q,C9 _⟩,n σ H p⟩
theorem Td{K:O_}{a:R_}{xs:List V}{g:TG}{k:TS}{D:JJ}{σ:St}{H:Hp}(b:Nat->St->Hp->Prop)(l:b 0 σ H)(r:∀i σ H,i<=xs.length->b i σ H->SqT K H a xs)
  (s:∀i x σ H,xs[i]?=some x->b i σ H->g x σ H fun d h=>k {D with nx:=b (i+1),ct:=b (i+1),bk:=D.nx} d h) (n:∀σ H,b xs.length σ H->D.nx σ H) :
  ∃W:Nat->Nat->St->Hp->Prop,(∃m,W 0 m σ H)/\∀i m σ H,W i m σ H ->
   ((Itt K a).stop i H/\D.nx σ H)\/((Itt K a).go i H/\∃N:St->Hp->Prop,(∀σ' c,N σ' c->∃j,j<m/\W (i+1) j σ' c)/\∀x c,(Itt K a).yld i H x c->g x σ c fun d h=>k {D with nx:=N,ct:=N,bk:=D.nx} d h):=by
 refine⟨λi m σ H=>m=xs.length-i/\i<=xs.length/\b i σ H,⟨xs.length,by simp,L5 _,l⟩,?_⟩;rintro i m σ H ⟨rfl,o,p⟩;have q:=r i σ H o p;by_cases f:i<xs.length
 .refine .inr ⟨⟨xs,xs[i],q,by simp[f]⟩,b (i+1),fun σ' c t=>⟨xs.length-(i+1),by lia,Z,f,t⟩,λx c y=>?_⟩;obtain⟨e,y⟩:=y;subst e;exact s i x σ _ (y xs q) p
 .have e:i=xs.length:=by lia
  subst e;exact .inl ⟨⟨xs,q,C9 _⟩,n σ H p⟩
theorem CM{lo:Int}{n:Nat}{g:TG}{j:TS}{D:JJ}{σ:St}{H:Hp}(b:Nat->St->Hp->Prop)(k:b 0 σ H)
  (o:∀i σ H,i<n->b i σ H->g (.int (lo+i)) σ H fun d f=>j {D with nx:=b (i+1),ct:=b (i+1),bk:=D.nx} d f) (l:∀σ H,b n σ H->D.nx σ H) :
  ∃W:Nat->Nat->St->Hp->Prop,(∃m,W 0 m σ H)/\∀i m σ H,W i m σ H ->
   ((Itr lo n).stop i H/\D.nx σ H)\/((Itr lo n).go i H/\∃N:St->Hp->Prop,(∀σ' a,N σ' a->∃h,h<m/\W (i+1) h σ' a)/\∀x a,(Itr lo n).yld i H x a->g x σ a fun d f=>j {D with nx:=N,ct:=N,bk:=D.nx} d f):=by
 refine⟨λi m σ H=>m=n-i/\i<=n/\b i σ H,⟨n,by simp,L5 _,k⟩,?_⟩;rintro i m σ H ⟨rfl,r,p⟩;by_cases c:i<n
 .refine .inr ⟨c,b (i+1),fun σ' a q=>⟨n-(i+1),by lia,Z,c,q⟩,λx a y=>?_⟩;obtain⟨e,y⟩:=y;subst e y;exact o i σ _ c p
 .have e:i=n:=by lia
  subst e;exact .inl ⟨C9 _,l σ H p⟩
abbrev R2:=V->V->Hp->VK->Prop
def OpR(X:Cx)(f:Value->Value->Sem Value)(r:R2):Prop :=
 ∀(pins:A_)(s:P_)(σ:St)(H:Hp)(x y:V)(v u:S_)(Q:VK),Inv X pins σ H s->Bg x v->Bg y u->r x y H Q ->
  wpAny (model X.prog X.w) X.A (f v u) (EP X pins σ Q) X.xe s
def UnR(X:Cx)(f:Value->Sem Value)(r:V->Hp->VK->Prop):Prop :=
 ∀(pins:A_)(s:P_)(σ:St)(H:Hp)(x:V)(v:S_)(Q:VK),Inv X pins σ H s->Bg x v->r x H Q ->
  wpAny (model X.prog X.w) X.A (f v) (EP X pins σ Q) X.xe s
def FN(X:Cx)(f:S_)(r:List V->Hp->VK->Prop):Prop :=
 ∀(pins:A_)(s:P_)(σ:St)(H:Hp)(xs:List V)(us:F_)(Q:VK),Inv X pins σ H s->AV xs us->r xs H Q ->
  wpAny (model X.prog X.w) X.A (call f us) (EP X pins σ Q) X.xe s
def tOp(r:R2)(ta tb:TE):TE:=fun σ H Q=>ta σ H λx H1=>tb σ H1 λy H2=>r x y H2 Q
def tUn(r:V->Hp->VK->Prop)(ta:TE):TE:=fun σ H Q=>ta σ H λx H1=>r x H1 Q
def rI(C:Int->Int->Prop)(g:Int->Int->V):R2:=λx y H Q=>∃i j,x=.int i/\y=.int j/\C i j/\Q (g i j) H
def rI0(g:Int->Int->V):R2:=λx y H Q=>∃i j,x=.int i/\y=.int j/\Q (g i j) H
def rU(g:Int->V):V->Hp->VK->Prop:=λx H Q=>∃i,x=.int i/\Q (g i) H
section
variable{X:Cx}{a b c:Expr}{ta tb tc:TE}{pos:Pos}
theorem binT(n:PE X a ta)(o:PE X b tb){d:A_}{s:P_}{σ:St}{H:Hp}{R:V->V->Hp->Prop}(I:Inv X d σ H s)
  (h:ta σ H λx k=>tb σ k λy e=>R x y e) {Q:B_} {f:Value->Value->Sem Value}
  (p:∀v u j x y e,Inv X d σ e j->Bg x v->Bg y u->R x y e->wpAny (model X.prog X.w) X.A (f v u) Q X.xe j) :
  wpAny (model X.prog X.w) X.A (eval a X.env) (λv g=>wpAny (model X.prog X.w) X.A (eval b X.env) (λu i=>wpAny (model X.prog X.w) X.A (f v u) Q X.xe i) X.xe g) X.xe s:=by
 refine thn (n d s σ H _ I h) λv B ⟨x,k,l,t,q⟩=>?_;refine thn (o d B σ k _ l q) λu j ⟨y,e,m,z,r⟩=>?_;exact p v u j x y e m t z r
theorem AG{e:Operator}{r:R2}(k:OpR X (binaryOp e) r)(i:PE X a ta)(j:PE X b tb):PE X (.BinOp a e b pos) (tOp r ta tb):=by
 intro d s σ H Q I h;exact wpAny_BinOp (binT i j I h λv u n x y f g l m q=>k d n σ f x y v u Q g l m q)
theorem JV{e:UnaryOp}{r:V->Hp->VK->Prop}(j:UnR X (unaryOp e) r)(i:PE X a ta):PE X (.UnaryOp e a pos) (tUn r ta):=by
 intro d s σ H Q I h;exact UnaryOp_ (thn (i d s σ H _ I h) λv m ⟨x,f,g,l,k⟩=>j d m σ f x v Q g l k)
theorem opI{f:Value->Value->Sem Value}{C:Int->Int->Prop}{g:Int->Int->Int}
  (d:∀(i j:Int)(t u:Tok)(s:P_)(Q:B_)(E:B_),C i j->Q (.int (g i j) s.toks) {s with toks:=s.toks+1}->wpAny (model X.prog X.w) X.A (f (.int i t) (.int j u)) Q E s) :
  OpR X f (rI C λi j=>.int (g i j)):=by
 intro e s σ H x y v u Q I l m h;obtain⟨i,j,rfl,rfl,k,q⟩:=h;obtain⟨t,rfl⟩:=l;obtain⟨t',rfl⟩:=m;exact d i j t t' s _ _ k ⟨.int (g i j),H,I.tok _,⟨_,Z⟩,q⟩
theorem opI0{f:Value->Value->Sem Value}{g:Int->Int->Int}
  (d:∀(i j:Int)(t u:Tok)(s:P_)(Q:B_)(E:B_),Q (.int (g i j) s.toks) {s with toks:=s.toks+1}->wpAny (model X.prog X.w) X.A (f (.int i t) (.int j u)) Q E s) :
  OpR X f (rI0 λi j=>.int (g i j)):=by
 intro e s σ H x y v u Q I k l h;obtain⟨i,j,rfl,rfl,q⟩:=h;obtain⟨t,rfl⟩:=k;obtain⟨t',rfl⟩:=l;exact d i j t t' s _ _ ⟨.int (g i j),H,I.tok _,⟨_,Z⟩,q⟩
theorem opB0{f:Value->Value->Sem Value}{g:Int->Int->Bool}
  (d:∀(i j:Int)(t u:Tok)(s:P_)(Q:B_)(E:B_),Q (.bool (g i j)) s->wpAny (model X.prog X.w) X.A (f (.int i t) (.int j u)) Q E s) :
  OpR X f (rI0 λi j=>.bl (g i j)):=by
 intro e s σ H x y v u Q I k l h;obtain⟨i,j,rfl,rfl,q⟩:=h;obtain⟨t,rfl⟩:=k;obtain⟨t',rfl⟩:=l;exact d i j t t' s _ _ ⟨.bl (g i j),H,I,Z,q⟩
def CDiv(i j:Int):Prop:=0<j/\j<1073741824
def CMul(i j:Int):Prop:=(-(2^64)<i/\i<2^64)\/(-(2^64)<j/\j<2^64)
theorem CMul.ok{i j:Int}(h:CMul i j):IntMulOk i j:=by
 rcases h with ⟨d,e⟩|⟨d,e⟩
 .exact .of_left (intBits_le_64 d e)
 .exact .of_right (intBits_le_64 d e)
theorem Rq(k:Nat):(0:Int)<=2^k:=by
 rw[two_pow_cast];exact Int.natCast_nonneg _
theorem Be:OpR X (binaryOp .Add) (rI0 λi j=>.int (i+j)):=opI0 λ_ _ _ _ _ _ _ q=>add_int q
theorem BU:OpR X (binaryOp .Sub) (rI0 λi j=>.int (i-j)):=opI0 λ_ _ _ _ _ _ _ q=>sub_int q
theorem Py:OpR X (binaryOp .Mult) (rI CMul λi j=>.int (i*j)):=opI λ_ _ _ _ _ _ _ d q=>mul_int q d.ok
theorem Dp:OpR X (binaryOp .FloorDiv) (rI CDiv λi j=>.int (i/j)):=opI λi j _ _ _ _ _ d q=>by
 have e:(0:Int)<j:=d.1;have f:j<1073741824:=d.2;exact floordiv_int A1 (by rw[S1 i A1];exact q) (.inl (PyProof.noPylong_small A1))
theorem AZ:OpR X (binaryOp .Mod) (rI (λ_ j=>0<j) λi j=>.int (i%j)):=opI λi j _ _ _ _ _ d q=>by
 have e:(0:Int)<j:=d;exact mod_int' A1 (by rw[Int.fmod_eq_emod_of_nonneg i A1];exact q)
theorem Vr:OpR X (binaryOp .RShift) (rI (λ_ j=>0<=j) λi j=>.int (i/2^j.toNat)):=opI λi j _ _ _ _ _ d q =>
 rshift_int d (by rw[S1 i (Rq _)];exact q)
theorem Vv:OpR X (binaryOp .BitAnd) (rI0 λi j=>.int (Builtin.bitAnd i j)):=opI0 λ_ _ _ _ _ _ _ q=>and_int q
theorem unI{f:Value->Sem Value}{g:Int->Int}
  (d:∀(i:Int)(t:Tok)(s:P_)(Q:B_)(E:B_),Q (.int (g i) s.toks) {s with toks:=s.toks+1}->wpAny (model X.prog X.w) X.A (f (.int i t)) Q E s) :
  UnR X f (rU λi=>.int (g i)):=by
 intro e s σ H x v Q I j h;obtain⟨i,rfl,q⟩:=h;obtain⟨t,rfl⟩:=j;exact d i t s _ _ ⟨.int (g i),H,I.tok _,⟨_,Z⟩,q⟩
theorem GL:UnR X (unaryOp .USub) (rU λi=>.int (-i)):=unI λ_ _ _ _ _ q=>neg_int q
end
noncomputable def scal:V->V->Bool
|.non,.non=>true|.non,.int _=>true|.int _,.non=>true|.non,.bl _=>true|.bl _,.non=>true|.non,.str _=>true|.str _,.non=>true
|.int _,.int _=>true|.bl _,.bl _=>true|.str _,.str _=>true|.byt _,.byt _=>true
|.int _,.str _=>true|.str _,.int _=>true|.bl _,.str _=>true|.str _,.bl _=>true
|_,_=>false
def rEq:R2:=λx y H Q=>scal x y=true/\Q (.bl (decide (x=y))) H
def rNe:R2:=λx y H Q=>scal x y=true/\Q (.bl (!decide (x=y))) H
theorem Jg{i j:Int}:decide (V.int i=V.int j)=(i==j):=by
 rw[P5];simp
theorem Wh{i j:Bool}:decide (V.bl i=V.bl j)=(i==j):=by
 rw[P5];simp
theorem Tg{i j:Str}:decide (V.str i=V.str j)=(i==j):=by
 rw[P5];simp
theorem Th{i j:Array UInt8}:decide (V.byt i=V.byt j)=(i.toList==j.toList):=by
 rw[P5];cases i;cases j;simp
section
variable{X:Cx}{a b c:Expr}{ta tb tc:TE}{pos:Pos}
theorem Bm{d:A_}{σ:St}{H:Hp}{s:P_}{Q:VK}{k f:Bool}(I:Inv X d σ H s)(q:Q (.bl k) H)(e:k=f):EP X d σ Q (.bool f) s:=by
 subst e;exact⟨.bl k,H,I,Z,q⟩
theorem Ci:OpR X (compareOp .Eq) rEq:=by
 intro g s σ H x y v u Q I f d h;obtain⟨e,q⟩:=h;cases x with
 |non =>
  cases f;cases y with
  |non=>cases d;exact PySem.EqNone.eq_none_none (Bm I q B0)
  |bl j=>cases d;exact PySem.EqNone.eq_none_bool (Bm I q B0)
  |int j=>obtain⟨t',rfl⟩:=d;exact PySem.EqNone.eq_none_int (Bm I q B0)
  |str j=>obtain⟨t',rfl⟩:=d;exact PySem.EqNone.eq_none_str (Bm I q B0)
  |_=>exact absurd (show false=true from e) F4
 |bl i =>
  cases f;cases y with
  |non=>cases d;exact PySem.EqNone.eq_bool_none (Bm I q B0)
  |bl j=>cases d;exact eq_bool (Bm I q Wh)
  |str j=>obtain⟨t',rfl⟩:=d;exact PySem.EqMixed.eq_bool_str (Bm I q B0)
  |_=>exact absurd (show false=true from e) F4
 |int i =>
  obtain⟨t,rfl⟩:=f;cases y with
  |non=>cases d;exact PySem.EqNone.eq_int_none (Bm I q B0)
  |int j=>obtain⟨t',rfl⟩:=d;exact eq_int (Bm I q Jg)
  |str j=>obtain⟨t',rfl⟩:=d;exact PySem.EqMixed.eq_int_str (Bm I q B0)
  |_=>exact absurd (show false=true from e) F4
 |str i =>
  obtain⟨t,rfl⟩:=f;cases y with
  |non=>cases d;exact PySem.EqNone.eq_str_none (Bm I q B0)
  |bl j=>cases d;exact PySem.EqMixed.eq_str_bool (Bm I q B0)
  |int j=>obtain⟨t',rfl⟩:=d;exact PySem.EqMixed.eq_str_int (Bm I q B0)
  |str j=>obtain⟨t',rfl⟩:=d;exact eq_str (Bm I q Tg)
  |_=>exact absurd (show false=true from e) F4
 |byt i =>
  obtain⟨t,rfl⟩:=f;cases y with
  |byt j=>obtain⟨t',rfl⟩:=d;exact W.eq_bytes (Bm I q Th)
  |_=>exact absurd (show false=true from e) F4
 |_=>cases y<;>exact absurd (show false=true from e) F4
theorem Iu:OpR X (compareOp .NotEq) rNe:=by
 intro g s σ H x y v u Q I f d h;obtain⟨e,q⟩:=h;cases x with
 |non =>
  cases f;cases y with
  |non=>cases d;exact PySem.EqNone.ne_none_none (Bm I q B0)
  |bl j=>cases d;exact PySem.EqNone.ne_none_bool (Bm I q B0)
  |int j=>obtain⟨t',rfl⟩:=d;exact PySem.EqNone.ne_none_int (Bm I q B0)
  |str j=>obtain⟨t',rfl⟩:=d;exact PySem.EqNone.ne_none_str (Bm I q B0)
  |_=>exact absurd (show false=true from e) F4
 |bl i =>
  cases f;cases y with
  |non=>cases d;exact PySem.EqNone.ne_bool_none (Bm I q B0)
  |bl j=>cases d;exact ne_bool (Bm I q (Y7 not Wh))
  |str j=>obtain⟨t',rfl⟩:=d;exact PySem.EqMixed.ne_bool_str (Bm I q B0)
  |_=>exact absurd (show false=true from e) F4
 |int i =>
  obtain⟨t,rfl⟩:=f;cases y with
  |non=>cases d;exact PySem.EqNone.ne_int_none (Bm I q B0)
  |int j=>obtain⟨t',rfl⟩:=d;exact ne_int (Bm I q (Y7 not Jg))
  |str j=>obtain⟨t',rfl⟩:=d;exact PySem.EqMixed.ne_int_str (Bm I q B0)
  |_=>exact absurd (show false=true from e) F4
 |str i =>
  obtain⟨t,rfl⟩:=f;cases y with
  |non=>cases d;exact PySem.EqNone.ne_str_none (Bm I q B0)
  |bl j=>cases d;exact PySem.EqMixed.ne_str_bool (Bm I q B0)
  |int j=>obtain⟨t',rfl⟩:=d;exact PySem.EqMixed.ne_str_int (Bm I q B0)
  |str j=>obtain⟨t',rfl⟩:=d;exact ne_str (Bm I q (Y7 not Tg))
  |_=>exact absurd (show false=true from e) F4
 |byt i =>
  obtain⟨t,rfl⟩:=f;cases y with
  |byt j=>obtain⟨t',rfl⟩:=d;exact W.ne_bytes (Bm I q (Y7 not Th))
  |_=>exact absurd (show false=true from e) F4
 |_=>cases y<;>exact absurd (show false=true from e) F4
theorem Lb:OpR X (compareOp .Lt) (rI0 λi j=>.bl (decide (i<j))):=opB0 λ_ _ _ _ _ _ _ q=>lt_int q
theorem Ld:OpR X (compareOp .LtE) (rI0 λi j=>.bl (decide (i<=j))):=opB0 λ_ _ _ _ _ _ _ q=>le_int q
theorem Oy:OpR X (compareOp .Gt) (rI0 λi j=>.bl (decide (j<i))):=opB0 λ_ _ _ _ _ _ _ q=>gt_int q
theorem op_ge:OpR X (compareOp .GtE) (rI0 λi j=>.bl (decide (j<=i))):=opB0 λ_ _ _ _ _ _ _ q=>ge_int q
theorem TQ:OpR X (compareOp .In) (λx y H Q=>∃i j,x=.str i/\y=.str j/\Q (.bl (!(Builtin.Str.occurrences j i 0 j.length 1).isEmpty)) H):=by
 intro d s σ H x y v u Q I e f h;obtain⟨i,j,rfl,rfl,q⟩:=h;obtain⟨t,rfl⟩:=e;obtain⟨t',rfl⟩:=f;exact in_str (Bm I q Z)
theorem Nr:OpR X (compareOp .Is) (λx y H Q=>y=.non/\Q (.bl (decide (x=.non))) H):=by
 intro d s σ H x y v u Q I e f h;obtain⟨rfl,q⟩:=h;cases f;refine is_none_gen (Bm I q ?_);cases x<;>first
  | (cases e;rfl)
  | (obtain⟨t,rfl⟩:=e;rfl)
theorem La:OpR X (compareOp .NotIn) (λx y H Q=>∃i j,x=.str i/\y=.str j/\Q (.bl (!(!(Builtin.Str.occurrences j i 0 j.length 1).isEmpty))) H):=by
 intro d s σ H x y v u Q I e f h;obtain⟨i,j,rfl,rfl,q⟩:=h;obtain⟨t,rfl⟩:=e;obtain⟨t',rfl⟩:=f;exact notIn_str (Bm I q Z)
theorem AI(b:Expr){d:CmpOp}(h:d≠.In:=by decide)(g:d≠.NotIn:=by decide):behindInMarks d b=false:=by
 have e:(d==CmpOp.In)=false:=by cases d<;>first|rfl|exact absurd rfl h
 have f:(d==CmpOp.NotIn)=false:=by cases d<;>first|rfl|exact absurd rfl g
 cases b<;>simp[behindInMarks,e,f]
theorem Do{e:CmpOp}{r:R2}(l:OpR X (compareOp e) r)(i:PE X a ta)(j:PE X b tb)(k:behindInMarks e b=false):PE X (.Compare a [e] [b] pos) (tOp r ta tb):=by
 intro d s σ H Q I h;exact wpAny_Compare1 (binT i j I h λv u o x y f g m n q=>l d o σ f x y v u Q g m n q) k
def tTest(t:TE):TT:=fun σ H Q=>t σ H λx H'=>∃k,x=.bl k/\Q k H'
theorem AF{f:CmpOp}{r:R2}(t:OpR X (compareOp f) r)(o:PE X a ta)(p:PE X b tb)(q:behindInMarks f b=false):PT X (.Compare a [f] [b] pos) (tTest (tOp r ta tb)):=by
 intro d s σ H Q I h;refine wpAny_isTrue_Compare1 (thn (o d s σ H _ I h) λv F ⟨x,g,l,C,w⟩=>thn (p d F σ g _ l w) λu G ⟨y,i,m,D,A⟩ =>
  thn (t d G σ i x y v u _ m C D A) λc K ⟨z,j,n,E,k,e,B⟩=>?_) q
 subst e;cases E;exact Z3 ⟨j,n,B⟩
def US(r r':R2)(ta tb tc:TE):TE:=fun σ H Q=>ta σ H λx H1=>tb σ H1 λy H2=>r x y H2 λz H3=>∃k,z=.bl k /\
 (if k=true then tc σ H3 λw' H4=>r' y w' H4 Q else Q (.bl false) H3)
theorem Vp{j g:CmpOp}{r o:R2}(K:OpR X (compareOp j) r)(i:OpR X (compareOp g) o)(D:PE X a ta)(E:PE X b tb)(F:PE X c tc)
  (G:lastMarks [j,g] [b,c]=false:=by with_unfolding_all rfl):PE X (.Compare a [j,g] [b,c] pos) (US r o ta tb tc):=by
 intro f s σ H Q I h;refine Compare_chain (thn (D f s σ H _ I h) λv S ⟨x,q,A,O,L⟩=>chain_link (thn (E f S σ q _ A L) λu T ⟨y,t,B,p,M⟩ =>
  thn (K f T σ t x y v u _ B O p M) λd U ⟨z,l,m,P,k,e,n⟩=>?_)) G
 subst e;cases P;refine Z3 ?_;cases k with
 |false=>exact ite_ff ⟨.bl false,l,m,Z,n⟩
 |true=>exact ite_tt (chain_last (thn (F f U σ l _ m n) λW V ⟨Y,w,C,R,N⟩=>i f V σ w y Y u W Q C p R N))
theorem JU{j g:CmpOp}{r o:R2}(O:OpR X (compareOp j) r)(i:OpR X (compareOp g) o)(K:PE X a ta)(L:PE X b tb)(M:PE X c tc)
  (N:lastMarks [j,g] [b,c]=false:=by with_unfolding_all rfl):PT X (.Compare a [j,g] [b,c] pos) (tTest (US r o ta tb tc)):=by
 intro f s σ H Q I h;refine isTrue_chain (thn (K f s σ H _ I h) λv s1 ⟨x,q,B,V,R⟩=>test_link (thn (L f s1 σ q _ B R) λu s2 ⟨y,t,C,p,S⟩ =>
  thn (O f s2 σ t x y v u _ C V p S) λd s3 ⟨z,l,m,W,k,e,n⟩=>?_)) N
 subst e;cases W;refine Z3 ?_;cases k with
 |false =>
  obtain⟨k',F,P⟩:=n;cases F;exact ite_ff ⟨l,m,P⟩
 |true =>
  refine ite_tt (test_last (thn (M f s3 σ l _ m n) λw' s4 ⟨z',w,D,Y,T⟩=>thn (i f s4 σ w y z' u w' _ D p Y T) λd' s5 ⟨z2,A,E,r5,k2,G,U⟩=>?_));subst G;cases r5;exact Z3 ⟨A,E,U⟩
theorem Mc:(sizeLine:Nat)<2^63:=by rw[sizeLine_eq];decide
theorem Nt:OpR X (binaryOp .Add) (λx y H Q=>∃i j,x=.str i/\y=.str j/\i.length+j.length<=sizeLine/\Q (.str (i++j)) H):=by
 intro d s σ H x y v u Q I f g h;obtain⟨i,j,rfl,rfl,e,q⟩:=h;obtain⟨t,rfl⟩:=f;obtain⟨t',rfl⟩:=g;exact add_str (λt' tk=>⟨.str (i++j),H,I.tok _,⟨_,Z⟩,q⟩) e
theorem Mi{x:V}{us:F_}(r:AV [x] us):∃u,us=[u]/\Bg x u:=by
 cases r with
 |cons d e=>cases e;exact⟨_,Z,d⟩
theorem vals2{x y:V}{us:F_}(r:AV [x,y] us):∃u d,us=[u,d]/\Bg x u/\Bg y d:=by
 cases r with
 |cons e f =>
  cases f with
  |cons g h=>cases h;exact⟨_,_,Z,e,g⟩
theorem Uz(f:X.calm=true):FN X (.builtin "min") (λxs H Q=>∃i j,xs=[.int i,.int j]/\Q (.int (if j<i then j else i)) H):=by
 intro e s σ H xs us Q I r h;obtain⟨i,j,rfl,q⟩:=h;obtain⟨u,g,rfl,⟨t,rfl⟩,⟨t',rfl⟩⟩:=vals2 r;refine min_two_ints (I.ok.hd f) λh' tk k=>⟨_,H,I.kept k,?_,q⟩
 by_cases d:j<i
 .rw[W9 d,W9 d];exact⟨_,Z⟩
 .rw[W4 d,W4 d];exact⟨_,Z⟩
theorem OP:FN X (.type "int") (λxs H Q=>(∃i,xs=[.int i]/\Q (.int i) H)\/∃k,xs=[.bl k]/\Q (.int (if k then 1 else 0)) H):=by
 intro d s σ H xs us Q I r h;rcases h with ⟨i,rfl,q⟩|⟨k,rfl,q⟩
 .obtain⟨u,rfl,t,rfl⟩:=Mi r;exact call_int_int ⟨.int i,H,I,⟨_,Z⟩,q⟩
 .obtain⟨u,rfl,e⟩:=Mi r;cases e;exact call_int_bool ⟨.int (if k then 1 else 0),H,I.tok _,⟨_,Z⟩,q⟩
theorem EW:FN X (.type "str") (λxs H Q=>∃i,xs=[.int i]/\i.natAbs.log2<1920/\Q (.str (toString i)) H):=by
 intro d s σ H xs us Q I r h;obtain⟨i,rfl,e,q⟩:=h;obtain⟨u,rfl,t,rfl⟩:=Mi r;exact PySem.P.str_of_int e ⟨.str _,H,I.tok _,⟨_,Z⟩,q⟩
end
structure Sb(h:T_)(x dx C:R_)(mA:C_):Prop where
obj:h.get? x=some (instObj C dx)
ns:h.Ns1 dx mA
ne:dx≠x
theorem Ue{h:T_}{c:R_}{f:C_}(n:h.Ns1 c f):∃g,h.get? c=some g/\∀name,lookIn name g=some (f name):=by
 obtain⟨o,d,r,m,j,k,_,l⟩:=n;refine⟨o,m,λname=>?_⟩;have e:=l name;unfold nsFind findBy at e;rw[<-Array.find?_toList]at e;unfold lookIn;rw[j];dsimp only;split
 .rename_i y q;rw[q]at e;exact Y7 some e
 .rename_i q;rw[q]at e;have a:d.toList.any (·.refKey)=false:=by
   rw[List.any_eq_false];intro y p;obtain⟨z,t,b⟩:=k y (Array.mem_toList_iff.mp p);simp[DictEntry.refKey,b]
  have i:¬d.toList.any (·.refKey)=true:=by rw[a];exact F4
  rw[W4 i];exact Y7 some e
theorem Sb.look{h:T_}{x b C:R_}{c:C_}(I:Sb h x b C c):∃a,W.InstAt h x (instObj C b) C (some a)/\∀name,lookIn name a=some (c name) :=
 let ⟨a,ho,hl⟩:=Ue I.ns
 ⟨a,⟨I.obj,Z,Z,ho⟩,hl⟩
section
variable{prog:N_}{w:Q_}{A:Around}{E:B_}{s:P_}{K:O_}{x dx C f:R_}{mA:C_}{name:Str}{v:S_}
theorem get_map{a:Bool}{Q:B_}(X:K.In s.heap)(I:Sb s.heap x dx C mA)(d:plainGet K C name=true)(e:hasDictIn K C=true)
  (c:findIn K (.ref C) name=some none) (i:mA name=some v) (b:handedIn v=true) (h:Q v {s with toks:=s.toks+1}) :
  wpAny (model prog w) A (getAttr (.ref x) name a) Q E s:=by
 obtain⟨j,J,g⟩:=I.look;exact W.get_value X J (A1b d).1 (W.findObj_own e c Z (by rw[g,i])) b h
theorem VX{pl:Sem Bool}{Q:Value×List Value->Shared->Prop}(X:K.In s.heap)(I:Sb s.heap x dx C mA)(a:plainGet K C name=true)
  (b:findIn K (.ref C) name=some (some (.ref f))) (d:isFn K (.ref f)=true) (e:mA name=none) (h:Q (.ref f,[.ref x]) s) :
  wpAny (model prog w) A (getMethod (.ref x) name pl) Q E s:=by
 obtain⟨g,J,c⟩:=I.look;exact W.method_fn X J (A1b a).1 (A1b a).2 b (beq_iff_eq.mp d) (by show(lookIn name g).map (·.isSome)=some false;rw[c,e];rfl) h
theorem set_map{k:K_}{Q:Unit->Shared->Prop}(X:K.In s.heap)(I:Sb s.heap x dx C mA)
  (q:findIn K (.ref C) "__setattr__" = some (some (.builtin "object.__setattr__"))) (p:plainOver K C=true) (t:takerIn K C name=some none) (o:hasDictIn K C=true)
  (u:PySem.Within mA k) (hsz:k.length<=sizeLine)
  (h:∀h',Sb h' x dx C (λy=>if y=name then some v else mA y)->Heap.SameBut dx s.heap h'->Q () {s with heap:=h',toks:=s.toks+2}) :
  wpAny (model prog w) A (setAttr (.ref x) name v) Q E s:=by
 obtain⟨G,J,D⟩:=I.look;refine W.set_plain X J q (W.osa_open (s:={s with toks:=s.toks+1}) (r:=none) X J p t λb=>?_)
 obtain⟨B,n,g⟩:=any_some o;have z:s.heap.get? x=some ⟨.ref C,some dx,.plain,#[]⟩:=I.obj;refine W0 (Y6 (W0 (W0 (wpAny_loadPart z (W0 (W.Looks.here (s:={s with toks:=s.toks+1}) (W.looks_clsIn X n) ?_))))))
 rw[g];refine Y6 (a:=some dx) (W0 (Y6 (W0 ?_)));refine wpAny_nsSet1 (s:={s with toks:=s.toks+1}) I.ns λh' c d=>?_;obtain⟨F,m,l,j,i,e⟩:=c.count (PySem.Within.cons name v u);refine W0 (wpAny_lookBehind j (by rw[i];exact pastItsLine_dict (D4 e (by rw[F7];lia))) ?_);exact Y6 (h _ ⟨(d.2 _ (W8 I.ne)).trans I.obj,c,I.ne⟩ d)
theorem VI{R:Result->Shared->Prop}{vs:F_}{kw:List (Str×Value)}(X:K.In s.heap)(e:makesIn K C=true)
  (c:findIn K (.ref C) "__init__" = some (some (.ref f))) (b:W.typeIn K (.ref f)=some (.type "function"))
  (h:codeAny (model prog w) (A.under (.builtin "type.__call__" ⟨.ref C::vs,kw⟩)) (.call (.ref f) ⟨.ref (s.heap.objs.size+1)::vs,kw⟩) (W.InitBack (s.heap.objs.size+1) R)
   {s with heap:=(s.heap.push emptyDict).push (instObj C s.heap.objs.size)}) :
  codeAny (model prog w) A (.call (.ref C) ⟨vs,kw⟩) R s:=by
 obtain⟨i,g,d,t,j⟩:=s;exact W.make_core (W.makes_of X e) (W.looks_findIn X c) (λa=>W.bind_fn X a b) (.inl Z) h
end
noncomputable def AW(f:Str)(v:V):List (Str×V)->List (Str×V)
|[]=>[(f,v)]
| (g,x)::r=>if g=f then(g,v)::r else(g,x)::AW f v r
theorem Ak(f g:Str)(v:V):∀fs:List (Str×V),(AW f v fs).lookup g=if g=f then some v else fs.lookup g
|[]=>by
 show List.lookup g [(f,v)]=_;by_cases h:g=f
 .have a:(g==f)=true:=beq_iff_eq.mpr h;simp only[List.lookup,a,W9 h]
 .have a:(g==f)=false:=beq_eq_false_iff_ne.mpr h;simp only[List.lookup,a,W4 h]
| (k,x)::r=>by
 have c:=Ak f g v r;rw[show AW f v ((k,x)::r)=(if k=f then(k,v)::r else(k,x)::AW f v r)from rfl];by_cases b:k=f
 .rw[W9 b];by_cases h:g=k
  .have a:(g==k)=true:=beq_iff_eq.mpr h;simp only[List.lookup,a,W9 (h.trans b)]
  .have a:(g==k)=false:=beq_eq_false_iff_ne.mpr h;simp only[List.lookup,a,W4 (λe:g=f=>h (e.trans b.symm))]
 .rw[W4 b];by_cases h:g=k
  .have a:(g==k)=true:=beq_iff_eq.mpr h;simp only[List.lookup,a,W4 (λe:g=f=>b (h.symm.trans e))]
  .have a:(g==k)=false:=beq_eq_false_iff_ne.mpr h;simp only[List.lookup,a];exact c
theorem Md(f:Str)(v:V):∀fs:List (Str×V),f∈(AW f v fs).map (·.1)/\∀g,g∈fs.map (·.1)->g∈(AW f v fs).map (·.1)
|[]=>⟨by simp[AW],λg h=>by simp at h⟩
| (k,x)::r=>by
 obtain⟨b,c⟩:=Md f v r;rw[show AW f v ((k,x)::r)=(if k=f then(k,v)::r else(k,x)::AW f v r)from rfl];by_cases a:k=f
 .rw[W9 a];subst a;exact⟨by simp,λg h=>by simpa using h⟩
 .rw[W4 a];refine⟨?_,λg h=>?_⟩
  .rw[J1];exact D9 _ b
  .rw[J1]at h⊢;rcases D1.mp h with e|e
   .exact D1.mpr (.inl e)
   .exact D9 _ (c g e)
theorem BM(f:Str)(v:V):∀fs:List (Str×V),(AW f v fs).length<=fs.length+1
|[]=>by simp[AW]
| (k,x)::r=>by
 have b:=BM f v r;rw[show AW f v ((k,x)::r)=(if k=f then(k,v)::r else(k,x)::AW f v r)from rfl];by_cases a:k=f
 .rw[W9 a,F7,F7];lia
 .rw[W4 a,F7,F7];lia
theorem Iw.some_of{v:V}{o:Option Value}(r:Iw (some v) o):∃u,o=some u/\Bg v u:=by
 cases o with
 |none=>exact(show False from r).elim
 |some u=>exact⟨u,Z,r⟩
theorem Iw.none_of{o:Option Value}(r:Iw none o):o=none:=by
 cases o with
 |none=>rfl
 |some u=>exact(show False from r).elim
theorem Uo{v:V}{u:S_}(r:Bg v u):handedIn u=true:=by
 cases v with
 |non=>cases(show u=Value.none from r);rfl
 |bl b=>cases(show u=Value.bool b from r);rfl
 |int i=>obtain⟨t,e⟩:=(show ∃t,u=Value.int i t from r);cases e;rfl
 |str x=>obtain⟨t,e⟩:=(show ∃t,u=Value.str x t from r);cases e;rfl
 |byt b=>obtain⟨t,e⟩:=(show ∃t,u=Value.bytes b t from r);cases e;rfl
 |flt b=>obtain⟨t,e⟩:=(show ∃t,u=Value.float b t from r);cases e;rfl
 |ref a=>cases(show u=Value.ref a from r);rfl
 |ty n=>cases(show u=Value.type n from r);rfl
section
variable{P:N_}{w:Q_}{H H':Hp}{h h':T_}{a C dx:R_}{fs fs':List (Str×V)}
theorem MQ(c:HOk P w H h)(e:H a=some (.ins C dx fs)):∃b,Sb h a dx C b/\(∀f,Iw (fs.lookup f) (b f))/\PySem.Within b (fs.map (·.1))/\fs.length<=1000/\H dx=some (.own a):=by
 obtain⟨d,z,g,i,b,n,r,q⟩:=(show Ca P w H h a (.ins C dx fs)from c a _ e)
 exact⟨b,⟨i,n,g⟩,r,q,z,d⟩
end
structure Cls(K:O_)(C:R_):Prop where
pg:plainGet K C Str.empty=true
hd:hasDictIn K C=true
po:plainOver K C=true
sa:findIn K (.ref C) "__setattr__" = some (some (.builtin "object.__setattr__"))
theorem Cls.get{K:O_}{C:R_}(c:Cls K C)(f:Str):plainGet K C f=true:=c.pg
def BR(K:O_)(C:R_)(f:Str):Prop:=findIn K (.ref C) f=some none
theorem BR.taker{K:O_}{C:R_}{f:Str}(n:BR K C f):takerIn K C f=some none:=by
 unfold takerIn;rw[show findIn K (.ref C) f=some none from n];rfl
structure Qn(K:O_)(C:R_)(m:Str)(f:R_):Prop where
at_:findIn K (.ref C) m=some (some (.ref f))
fn:isFn K (.ref f)=true
kp:keepIn K (.ref f)=true
section
variable{X:Cx}{pins:A_}{σ:St}{H:Hp}{s:P_}{a C dx:R_}{fs:List (Str×V)}{f:Str}{v:V}{A:Around}{E:B_}
theorem RU{b:Bool}{Q:B_}(I:Inv X pins σ H s)(e:H a=some (.ins C dx fs))(c:Cls X.K C)(n:BR X.K C f)(l:fs.lookup f=some v)
  (h:∀u g,Inv X pins σ H g->Bg v u->Q u g):wpAny (model X.prog X.w) A (getAttr (.ref a) f b) Q E s:=by
 obtain⟨j,O,r,_,_,_⟩:=MQ I.hok e;obtain⟨u,i,d⟩:=Iw.some_of (v:=v) (o:=j f) (by rw[<-l];exact r f);exact get_map I.kIn O (c.get f) c.hd n i (Uo d) (h u _ (I.tok _) d)
theorem RT{m:Str}{g:R_}{pl:Sem Bool}{Q:Value×List Value->Shared->Prop}(I:Inv X pins σ H s)(e:H a=some (.ins C dx fs))(c:Cls X.K C)(k:Qn X.K C m g)(l:fs.lookup m=none)
  (h:Q (.ref g,[.ref a]) s):wpAny (model X.prog X.w) A (getMethod (.ref a) m pl) Q E s:=by
 obtain⟨d,O,r,_,_,_⟩:=MQ I.hok e;have b:d m=none:=Iw.none_of (by rw[<-l];exact r m);exact VX I.kIn O (c.get m) k.at_ k.fn b h
theorem Rw{y:V}{u:S_}{Q:Unit->Shared->Prop}(I:Inv X pins σ H s)(e:H a=some (.ins C dx fs))(c:Cls X.K C)(n:BR X.K C f)(G:fs.length<1000)(D:Bg y u)
  (h:∀l,Inv X pins σ (upd H a (.ins C dx (AW f y fs))) l->Q () l):wpAny (model X.prog X.w) A (setAttr (.ref a) f u) Q E s:=by
 obtain⟨k,O,r,m,_,j⟩:=MQ I.hok e;have B:(fs.map (·.1)).length<=sizeLine:=by rw[B8,sizeLine_eq];lia
 refine set_map I.kIn O c.sa c.po n.taker c.hd m B λh' d F=>h _ ?_;have i:∃o,h'.get? dx=some o:=let ⟨o,_,_,e',_⟩:=d.ns;⟨o,e'⟩;refine I.write (x:=a) (e:=dx) (by rw[e];exact True.intro) (.inr j) (λb q p z=>(F.2 b p).trans z) i ?_;refine⟨by rw[Ar O.ne];exact j,?_,O.ne,d.obj,_,d.ns,λg=>?_,λg t=>?_⟩
 .have:=BM f y fs;lia
 .show Iw ((AW f y fs).lookup g) (if g=f then some u else k g);rw[Ak];by_cases q:g=f
  .rw[W9 q,W9 q];exact D
  .rw[W4 q,W4 q];exact r g
 .by_cases q:g=f
  .rw[q];exact(Md f y fs).1
  .refine(Md f y fs).2 g (m g λz=>t ?_);show(if g=f then some u else k g)=none;rw[W4 q];exact z
theorem Inv.made(I:Inv X pins σ H s):Inv X pins σ (upd (upd H s.heap.objs.size (.own (s.heap.objs.size+1))) (s.heap.objs.size+1) (.ins C s.heap.objs.size []))
  {s with heap:=(s.heap.push emptyDict).push (instObj C s.heap.objs.size)}:=by
 have c:(s.heap.push emptyDict).get? s.heap.objs.size=some emptyDict:=F8 s.heap Z;have h:((s.heap.push emptyDict).push (instObj C s.heap.objs.size)).get? (s.heap.objs.size+1)=some (instObj C s.heap.objs.size):=by
  have:=F8 (s.heap.push emptyDict) (o:=instObj C s.heap.objs.size) Z
  rwa [P9]at this
 have i:(s.heap.push emptyDict).Ns s.heap.objs.size (λ_=>none):=⟨emptyDict,#[],_,c,Z,(λe j=>absurd j B0),λ_=>Z⟩
 have g:=I.laid (a:=s.heap.objs.size) (o:=.own (s.heap.objs.size+1)) (h':=s.heap.push emptyDict) (t':=s.toks) (λb u q=>D0 _ q) (C9 _) ⟨_,c⟩;refine g.laid (a:=s.heap.objs.size+1) (o:=.ins C s.heap.objs.size []) (t':=s.toks) (λb u q=>D0 _ q) (Nat.le_of_eq (P9 _ _)) ?_;have d:s.heap.objs.size≠s.heap.objs.size+1:=L9 (Nat.lt_succ_self _);refine⟨by rw[Ar d,Ag],L5 _,d,h,λ_=>none,(Heap.Ns1.of_empty i).at λo q=>D0 _ q,λ_=>True.intro,λy k=>absurd rfl k⟩
theorem attr_of{prog:N_}{w:Q_}{b:Env}{e:Expr}{f:Str}{d:Pos}{s:P_}{Q:B_}(g:attributeBase e f b (eval e b)=eval e b)
  (h:wpAny (model prog w) A (eval e b) (λo c=>wpAny (model prog w) A (getAttr o f true) Q E c) E s):wpAny (model prog w) A (eval (.Attribute e f d) b) Q E s :=
 Attribute_any_ h (by rw[arm_eval_Attribute,g])
end
def tFld(K:O_)(ta:TE)(f:Str):TE:=fun σ H Q=>ta σ H λx H1=>∃a C dx fs v,x=.ref a/\H1 a=some (.ins C dx fs)/\Cls K C/\BR K C f/\fs.lookup f=some v/\Q v H1
def sFld(K:O_)(ta tv:TE)(f:Str):TS:=λD σ H=>tv σ H λy H1=>ta σ H1 λx H2=>∃a C dx fs,x=.ref a/\H2 a=some (.ins C dx fs)/\Cls K C/\BR K C f/\fs.length<1000 /\
 D.nx σ (upd H2 a (.ins C dx (AW f y fs)))
section
variable{X:Cx}{o e value:Expr}{f:Str}{pos pos' tpos:Pos}{ta tv:TE}
theorem AK(p:PE X e ta)(m:attributeBase e f X.env (eval e X.env)=eval e X.env):PE X (.Attribute e f pos) (tFld X.K ta f):=by
 intro b s σ H Q I h;refine attr_of m (thn (p b s σ H _ I h) λu y ⟨x,d,g,t,a,C,w,fs,v,k,j,c,n,l,q⟩=>?_);subst k;obtain rfl:u=Value.ref a:=t;exact RU g j c n l λA z i r=>⟨v,d,i,r,q⟩
theorem CC(p:PE X o ta)(t:PE X value tv)(r:swapsWith value (some (.Attribute o f pos')) pos.line X.env=pure false):PS X (.Assign [.Attribute o f pos'] value pos) (sFld X.K ta tv f):=by
 intro b s σ H D I h;refine plainObj_wpAny_Assign_Attribute (thn (t b s σ H _ I h) λu B ⟨y,d,g,A,q⟩=>thn (p b B σ d _ g q) λv G ⟨x,E,i,z,a,C,F,fs,m,k,c,n,l,w⟩=>?_) r;subst m;obtain rfl:v=Value.ref a:=z;exact Rw i k c n l A λL j=>⟨σ,_,j,w⟩
end
section
variable{X:Cx}{pins:A_}{σ:St}{H:Hp}{s:P_}{A:Around}{E:B_}{Q:B_}{c:S_}{b:Bool}
inductive Mg(K:O_)(H:Hp):V->Value->Prop where
|non:Mg K H .non (.type "NoneType")
|bl (x:Bool):Mg K H (.bl x) (.type "bool")
|int (i:Int):Mg K H (.int i) (.type "int")
|str (x:Str):Mg K H (.str x) (.type "str")
|flt (x:UInt64):Mg K H (.flt x) (.type "float")
|lst {a:R_} {xs:List V} (e:H a=some (.lst xs)):Mg K H (.ref a) (.type "list")
|frz {a:R_} {o:Obj} {xs:List V} (e:H a=some (.frz o (.lst xs))):Mg K H (.ref a) (.type "list")
|tup {a:R_} {xs:List V} (e:H a=some (.tup xs)):Mg K H (.ref a) (.type "tuple")
|dK {a:R_} {kvs:List (Key×V)} (e:H a=some (.dK kvs)):Mg K H (.ref a) (.type "dict")
|dT {a:R_} {kvs:List (List Key×V)} (e:H a=some (.dT kvs)):Mg K H (.ref a) (.type "dict")
|ins {a C dx:R_} {fs:List (Str×V)} (e:H a=some (.ins C dx fs)) (cl:Cls K C) (ha:findIn K (.ref C) "__class__" = some (some (.builtin "object.__class__")))
  (hn:specialIn K (.builtin "object.__class__") "__get__" = some (some (.builtin "getset_descriptor.__get__"))) (htk:takesIn K (.builtin "object.__class__")=some true)
  (hm:mroIn K C (.type "object")=some true):Mg K H (.ref a) (.ref C)
theorem Uk{x:V}{u t:S_}(I:Inv X pins σ H s)(f:Bg x u)(L:Mg X.K H x t)(e:kitOne X.K t c=some b)(h:∀tk,Q (.bool b) {s with toks:=tk}) :
  wpAny (model X.prog X.w) A (call (.builtin "isinstance") [u,c]) Q E s:=by
 cases L with
 |non=>cases(show u=Value.none from f);exact Z4 W.kitx_none I.kIn True.intro e (λz=>nomatch z) h
 |bl y=>cases(show u=Value.bool y from f);exact Z4 W.kitx_bool I.kIn True.intro e (λz=>nomatch z) h
 |int i=>obtain⟨t,q⟩:=(show ∃t,u=Value.int i t from f);cases q;exact Z4 W.kitx_int I.kIn True.intro e (λz=>nomatch z) h
 |str y=>obtain⟨t,q⟩:=(show ∃t,u=Value.str y t from f);cases q;exact Z4 W.kitx_str I.kIn True.intro e (λz=>nomatch z) h
 |flt y=>obtain⟨t,q⟩:=(show ∃t,u=Value.float y t from f);cases q;exact Z4 W.kitx_float I.kIn True.intro e (λz=>nomatch z) h
 |@lst a xs d =>
  cases(show u=Value.ref a from f);obtain⟨_,_,n,_,g⟩:=(show Ca X.prog X.w H s.heap a (.lst xs)from I.hok a _ d)
  exact Z4 kitx_list I.kIn ⟨_,g,Z⟩ e (λz=>nomatch z) h
 |@frz a G xs d =>
  cases(show u=Value.ref a from f);obtain⟨_,_,_,n,_,g⟩:=(show Ca X.prog X.w H s.heap a (.frz G (.lst xs))from I.hok a _ d)
  exact Z4 kitx_list I.kIn ⟨_,g,Z⟩ e (λz=>nomatch z) h
 |@tup a xs d =>
  cases(show u=Value.ref a from f);obtain⟨_,_,_,p⟩:=(show Ca X.prog X.w H s.heap a (.tup xs)from I.hok a _ d)
  obtain⟨o,g,k,_⟩:=p;exact Z4 W.kitx_tuple I.kIn ⟨o,g,k⟩ e (λz=>nomatch z) h
 |@dK a j d =>
  cases(show u=Value.ref a from f);obtain⟨_,_,vs,_,p⟩:=(show Ca X.prog X.w H s.heap a (.dK j)from I.hok a _ d)
  obtain⟨o,v,r,g,k,_⟩:=p;exact Z4 kitx_dict I.kIn ⟨o,g,k.1⟩ e (λz=>nomatch z) h
 |@dT a j d =>
  cases(show u=Value.ref a from f);obtain⟨_,_,xs,_,o,v,r,g,k,_⟩:=(show Ca X.prog X.w H s.heap a (.dT j)from I.hok a _ d)
  exact Z4 kitx_dict I.kIn ⟨o,g,k.1⟩ e (λz=>nomatch z) h
 |@ins a C M fs d m B F l D =>
  cases(show u=Value.ref a from f);obtain⟨N,O,_⟩:=MQ I.hok d;obtain⟨P,J,_⟩:=O.look;exact Z4 (W.kitx_own (m.get _) m.hd B F l D) I.kIn J e (λz=>nomatch z) h
end
structure Du(k:Nat)(A:Around):Prop where
hd:A.handled=none
dp:A.depth+3*k+5<recursionLimit
un:A.units+16*k+200<cLine
theorem Du.mono{j k:Nat}{A:Around}(r:Du k A)(h:j<=k):Du j A:=⟨r.hd,by have:=r.dp;lia,by have:=r.un;lia⟩
theorem Du.deeper{k:Nat}{A:Around}(r:Du (k+1) A)(a:Env):Du k (A.deeper a) :=
 ⟨r.hd,by have:=r.dp;show A.depth+1+3*k+5<_;lia,by have:=r.un;show A.units+3+16*k+200<_;lia⟩
theorem RL{A:Around}{C:R_}{us:F_}{kw:List (Str×Value)}:(A.under (.builtin "type.__call__" ⟨.ref C::us,kw⟩)).depth=A.depth+1:=by
 first|rfl|simp[Around.under,Code.weight,Code.isCreation,Code.isGuard,Code.isCaller,Code.frames,Code.isFrame,guardIds]
theorem RK{A:Around}{C:R_}{us:F_}{kw:List (Str×Value)}:(A.under (.builtin "type.__call__" ⟨.ref C::us,kw⟩)).units=A.units+1:=by
 first|rfl|simp[Around.under,Code.cUnits,Code.frames,Code.isFrame]
theorem Du.make{k:Nat}{A:Around}(r:Du (k+1) A)(C:R_)(us:F_)(kw:List (Str×Value)):Du k (A.under (.builtin "type.__call__" ⟨.ref C::us,kw⟩)) :=
 ⟨r.hd,by have:=r.dp;rw[RL];lia,by have:=r.un;rw[RK];lia⟩
theorem Du.depth{k:Nat}{A:Around}(r:Du k A):A.depth<recursionLimit:=by have:=r.dp;lia
theorem Du.units{k:Nat}{A:Around}(r:Du k A):A.units+64<cLine:=by have:=r.un;lia
def OZ:TA:=λ_ H Q=>Q [] H
def CO(ta:TE)(tr:TA):TA:=fun σ H Q=>ta σ H λx H1=>tr σ H1 λxs H2=>Q (x::xs) H2
section
variable{X:Cx}{e:Expr}{es:List Expr}{te:TE}{t:TA}{pos:Pos}
theorem Ab:PA X [] OZ:=λ_ _ _ _ H Q I h=>Calls.spliced_nil ⟨[],H,I,.nil,h⟩
theorem Aa(g:PE X e te)(i:PA X es t)(j:starEach (e::es) X.env=(false,eval e X.env)::starEach es X.env:=by rfl):PA X (e::es) (CO te t):=by
 intro pos a s σ H Q I h;rw[j];show wpAny _ _ (spliced ((false,eval e X.env)::backTo pos (starEach es X.env))) _ _ s;refine Calls.spliced_cons (thn (g a s σ H _ I h) λu o ⟨x,b,d,m,k⟩=>?_);exact thn (i pos a o σ b _ d k) λus p ⟨xs,c,f,n,l⟩=>⟨x::xs,c,f,.cons m n,l⟩
def UQ(t:TA):TE:=fun σ H Q=>t σ H λxs H1=>xs.length<=sizeLine/\∀p,H1 p=none->Q (.ref p) (upd H1 p (.tup xs))
def tLst(t:TA):TE:=fun σ H Q=>t σ H λxs H1=>xs.length<=sizeLine/\∀p,H1 p=none->Q (.ref p) (upd H1 p (.lst xs))
theorem CD{x1}(h:PA X es t):PE X (.Tuple es x1 pos) (UQ t):=by
 intro a s σ H Q I i;refine wpAny_Tuple_spliced (thn (h pos a s σ H _ I i) λus c ⟨xs,d,f,r,z,q⟩=>⟨by rw[<-r.length];exact z,?_⟩);have g:d c.heap.objs.size=none:=f.hok.fresh (C9 _);refine⟨.ref c.heap.objs.size,upd d c.heap.objs.size (.tup xs),f.laid (t':=c.toks) (λb u e=>D0 _ e) (C9 _) ?_,Z,q _ g⟩;exact⟨z,us,r,⟨_,F8 _ Z,Z,_,Z⟩⟩
theorem Bq(h:PA X es t):PE X (.List es pos) (tLst t):=by
 intro a s σ H Q I i;refine wpAny_List_spliced (thn (h pos a s σ H _ I i) λus c ⟨xs,d,f,r,z,q⟩=>⟨by rw[<-r.length];exact z,?_⟩);have g:d c.heap.objs.size=none:=f.hok.fresh (C9 _);refine⟨.ref c.heap.objs.size,upd d c.heap.objs.size (.lst xs),f.laid (t':=c.toks) (λb u e=>D0 _ e) (C9 _) ?_,Z,q _ g⟩;exact⟨z,us,0,r,F8 _ Z⟩
end
abbrev Sp:=List V->Hp->VK->XK->Prop
abbrev CXT:=List Env->Hp->Shared->XK->Value->Shared->Prop
structure Sc(P:N_)(w:Q_)(K:O_)(mg:C_)(base:T_)(A:Around)(outer:List Env)(s:P_)(H:Hp):Prop where
frames:A.frames=some outer
mod:Mod K mg base
bs:∀b o,base.get? b=some o->s.heap.get? b=some o/\H b=none
bsz:base.objs.size<=s.heap.objs.size
funs:s.heap.FunFrames base outer
frf:∀b∈frs outer,H b=none
hok:HOk P w H s.heap
bare:AllBare s.gens
def CE(outer:List Env)(P:N_)(w:Q_)(H:Hp)(s:P_)(Q:VK)(u:S_)(s':P_):Prop :=
 ∃v H',s'.os=s.os/\AllBare s'.gens/\Un (frs outer) [] H H' s.heap s'.heap/\HOk P w H' s'.heap/\Bg v u/\Q v H'
def CR(CX:CXT)(outer:List Env)(P:N_)(w:Q_)(H:Hp)(s:P_)(Q:VK)(E:XK)(r:Result)(s':P_):Prop :=
 match r with
 |.ok (.ret u)=>CE outer P w H s Q u s'
 |.ok _=>False
 |.error e=>CX outer H s E e s'
structure AT(P:N_)(w:Q_)(K:O_)(mg:C_)(base:T_)(CX:CXT)(k:Nat)(f:R_)(fd:E_)(ps:K_)(sp:Sp):Prop where
len:∀vs H Q E,sp vs H Q E->vs.length=ps.length
run:∀(A:Around)(outer:List Env)(s:P_)(H:Hp)(args:Args)(us:F_)(vs:List V)(Q:VK)(E:XK),Du k A->Sc P w K mg base A outer s H->BindsTo s fd args (ps.zip us)->AV vs us->sp vs H Q E ->
 codeAny (model P w) A (.call (.ref f) args) (CR CX outer P w H s Q E) s
theorem AT.imp{P:N_}{w:Q_}{K:O_}{g:C_}{a:T_}{CX:CXT}{k:Nat}{f:R_}{e:E_}{ps:K_}{sp d:Sp}(F:AT P w K g a CX k f e ps sp)
  (h:∀vs H Q E,d vs H Q E->sp vs H Q E):AT P w K g a CX k f e ps d :=
 ⟨λvs H Q E q=>F.len vs H Q E (h _ _ _ _ q),λA b s H c us vs Q E l j i n m=>F.run A b s H c us vs Q E l j i n (h _ _ _ _ m)⟩
theorem Sc.make{P:N_}{w:Q_}{K:O_}{c:C_}{b:T_}{A:Around}{a:List Env}{s:P_}{H:Hp}(e:Sc P w K c b A a s H)(C:R_)(us:F_)(kw:List (Str×Value)) :
 Sc P w K c b (A.under (.builtin "type.__call__" ⟨.ref C::us,kw⟩)) a s H:=⟨by first|exact e.frames|(simpa[Around.under,Code.envs,Code.isFrame,pushEnvs] using e.frames),e.mod,e.bs,e.bsz,e.funs,e.frf,e.hok,e.bare⟩
section
variable{X:Cx}{pins:A_}{σ:St}{H:Hp}{s s':P_}
theorem Inv.env0(I:Inv X pins σ H s):Sc X.prog X.w X.K X.mg X.base X.A X.stack s H :=
 ⟨I.ok.frames,I.ok.mod,I.bs,D4 I.ok.bsz I.sz,I.stack,I.stkFree,I.hok,I.bare⟩
theorem Inv.after{Q:VK}{u:S_}(I:Inv X pins σ H s)(h:CE X.stack X.prog X.w H s Q u s'):EP X pins σ Q u s':=by
 obtain⟨v,f,e,bare,un,a,r,q⟩:=h;obtain⟨i,g,d,t,c⟩:=s';obtain rfl:c=s.os:=e;exact⟨v,f,I.call (h':=i) (g':=g) (d':=d) (t':=t) (ch:=[]) un a bare (λb z=>absurd z B0),r,q⟩
end
def tCall(sp:Sp)(dvs:List V)(E:XK)(t:TA):TE:=fun σ H Q=>t σ H λvs H1=>sp (vs++dvs) H1 Q E
def Sf(C:R_)(m:Str)(sp:Sp)(dvs:List V)(E:XK)(ta:TE)(t:TA):TE:=fun σ H Q=>ta σ H λx H1=>∃a dx fs,x=.ref a/\H1 a=some (.ins C dx fs)/\fs.lookup m=none /\
 t σ H1 λvs H2=>sp (x::(vs++dvs)) H2 Q E
def Sg(C:R_)(sp:Sp)(dvs:List V)(E:XK)(t:TA):TE:=fun σ H Q=>t σ H λvs H1=>∀x dx,H1 x=none->H1 dx=none->dx≠x ->
 sp (.ref x::(vs++dvs)) (upd (upd H1 dx (.own x)) x (.ins C dx [])) (λv H2=>v=.non/\Q (.ref x) H2) E
def DB(K:O_)(fd:E_)(ps:K_)(ds:F_):Prop :=
 ∀(s:P_)(us:F_),K.In s.heap->(us++ds).length=ps.length->BindsTo s fd ⟨us,[]⟩ (ps.zip (us++ds))
theorem DB.all{K:O_}{a:E_}{ps:K_}(h:∀us:List Value,us.length=ps.length->bindArgs a ⟨us,[]⟩=pure (ps.zip us)):DB K a ps []:=λs us _ b=>by
 rw[P4]at b⊢;exact .of_eq (h us b)
def FJ(CX:CXT)(X:Cx)(E:XK):Prop:=∀(pins:A_)(σ:St)(H:Hp)(s:P_)(e:S_)(s':P_),Inv X pins σ H s->CX X.stack H s E e s'->X.xe e s'
section
variable{X:Cx}{CX:CXT}{k:Nat}{f C:R_}{fd:E_}{ps:K_}{sp:Sp}{dvs:List V}{ds:F_}{E:XK}{x m:Str}{p pos apos:Pos}{e o:Expr}{es:List Expr}{ta:TE}{t:TA}
theorem Vi{a:A_}{σ:St}{H:Hp}{s:P_}{Q:VK}{us:F_}{vs:List V}(F:AT X.prog X.w X.K X.mg X.base CX k f fd ps sp)(l:Du k X.A)(g:DB X.K fd ps ds)(i:AV dvs ds)(n:FJ CX X E)
  (I:Inv X a σ H s) (r:AV vs us) (h:sp (vs++dvs) H Q E):wpAny (model X.prog X.w) X.A (call (.ref f) us) (EP X a σ Q) X.xe s:=by
 have c:AV (vs++dvs) (us++ds):=r.append i;have j:(us++ds).length=ps.length:=by rw[<-c.length];exact F.len _ _ _ _ h
 refine wpAny_call (codeAny_mono (F.run X.A X.stack s H ⟨us,[]⟩ (us++ds) (vs++dvs) Q E l I.env0 (g s us I.kIn j) c h) λr q b=>?_);cases r with
 |error e=>exact n a σ H s e q I b
 |ok d =>
  cases d with
  |ret u=>exact I.after b
  |next=>exact False.elim b
  |brk=>exact False.elim b
  |cont=>exact False.elim b
theorem pe_call(F:AT X.prog X.w X.K X.mg X.base CX k f fd ps sp)(y:Du k X.A)(n:Gl X x)(v:X.mg x=some (.ref f))(u:keepIn X.K (.ref f)=true)(i:DB X.K fd ps ds)(j:AV dvs ds)(z:FJ CX X E)
  (g:PA X (e::es) t) (b:(x==("__debug__" : Str))=false:=by decide) (l:starEach (e::es) X.env=(false,eval e X.env)::starEach es X.env:=by rfl) (c:(backTo pos (starEach es X.env)).any (·.1)=false:=by rfl) :
  PE X (.Call (.Name x p) (e::es) [] pos) (tCall sp dvs E t):=by
 intro a s σ H Q I h;refine K5 (MN I n v ?_ b);refine A1e (h₀:=X.base) I.ok.mod.kin u (thn (g pos a s σ H _ I h) λus D ⟨vs,B,d,r,q⟩=>⟨d.kIn,?_⟩) l c;exact Vi F y i j z d r q
theorem pe_meth{pl:Sem Bool}(M:PE X o ta)(c:Cls X.K C)(n:Qn X.K C m f)(F:AT X.prog X.w X.K X.mg X.base CX k f fd ps sp)(N:Du k X.A)(G:DB X.K fd ps ds)(L:AV dvs ds)(P:FJ CX X E)(D:PA X (e::es) t)
  (g:starEach (e::es) X.env=(false,eval e X.env)::starEach es X.env:=by rfl) (d:(backTo pos (starEach es X.env)).any (·.1)=false:=by rfl)
  (O:eval (.Call (.Attribute o m apos) (e::es) [] pos) X.env=(do
   let v <-eval o X.env
   standAt apos.atName
   let (f,first) <-holding [v] (getMethod v m pl)
   callWith pos f first (backTo pos (starEach (e::es) X.env)) (backToKw pos (keywordEach [] X.env))):=by rfl) :
  PE X (.Call (.Attribute o m apos) (e::es) [] pos) (Sf C m sp dvs E ta t):=by
 intro b s σ H Q I h;refine W.methodCall_KW (pl:=pl) (thn (M b s σ H _ I h) λu T ⟨x,y,i,S,a,V,fs,B,z,l,q⟩=>?_) O;subst B;obtain rfl:u=Value.ref a:=S;refine RT i z c n l ?_;refine A1e (first:=[.ref a]) (h₀:=X.base) I.ok.mod.kin n.kp (thn (D pos b T σ y _ i q) λus Y ⟨vs,U,j,r,R⟩=>⟨j.kIn,?_⟩) g d;exact Vi (us:=.ref a::us) (vs:=.ref a::vs) F N G L P j (.cons Z r) R
structure Mk(K:O_)(C f:R_):Prop where
makes:makesIn K C=true
init:findIn K (.ref C) "__init__" = some (some (.ref f))
fn:isFn K (.ref f)=true
kp:keepIn K (.ref C)=true
theorem QB{b:A_}{σ:St}{H:Hp}{s:P_}{Q:VK}{us:F_}{vs:List V}(M:Mk X.K C f)(F:AT X.prog X.w X.K X.mg X.base CX k f fd ps sp)(G:Du (k+1) X.A)(z:DB X.K fd ps ds)(B:AV dvs ds)
  (L:FJ CX X E) (I:Inv X b σ H s) (r:AV vs us)
  (h:∀x d,H x=none->H d=none->d≠x->sp (.ref x::(vs++dvs)) (upd (upd H d (.own x)) x (.ins C d [])) (λv l=>v=.non/\Q (.ref x) l) E) :
  wpAny (model X.prog X.w) X.A (call (.ref C) us) (EP X b σ Q) X.xe s:=by
 have g:=h (s.heap.objs.size+1) s.heap.objs.size (I.hok.fresh (U3 _)) (I.hok.fresh (C9 _)) (L9 (Nat.lt_succ_self _));have c:=Inv.made (C:=C) I;have i:AV (V.ref (s.heap.objs.size+1)::(vs++dvs)) (Value.ref (s.heap.objs.size+1)::(us++ds)):=.cons Z (r.append B);have D:(Value.ref (s.heap.objs.size+1)::us++ds).length=ps.length:=by
  have e:=i.length;rw[F.len _ _ _ _ g]at e;exact e.symm
 refine wpAny_call (VI (f:=f) I.kIn M.makes M.init (beq_iff_eq.mp M.fn) (codeAny_mono (F.run _ X.stack _ _ ⟨Value.ref (s.heap.objs.size+1)::us,[]⟩ (Value.ref (s.heap.objs.size+1)::(us++ds)) _ _ E (G.make C us [])
  (c.env0.make C us []) (z _ (Value.ref (s.heap.objs.size+1)::us) c.kIn D) i g) λr P a=>?_))
 cases r with
 |error e=>exact L b σ _ _ e P c a
 |ok y =>
  cases y with
  |ret u =>
   obtain⟨v,j,n,O,q,N⟩:=c.after a;subst q;exact⟨O,⟨V.ref (s.heap.objs.size+1),j,n,Z,N⟩⟩
  |next=>exact False.elim a
  |brk=>exact False.elim a
  |cont=>exact False.elim a
theorem pe_make(M:Mk X.K C f)(F:AT X.prog X.w X.K X.mg X.base CX k f fd ps sp)(v:Du (k+1) X.A)(n:Gl X x)(u:X.mg x=some (.ref C))(i:DB X.K fd ps ds)(j:AV dvs ds)(y:FJ CX X E)
  (g:PA X (e::es) t) (b:(x==("__debug__" : Str))=false:=by decide) (l:starEach (e::es) X.env=(false,eval e X.env)::starEach es X.env:=by rfl) (c:(backTo pos (starEach es X.env)).any (·.1)=false:=by rfl) :
  PE X (.Call (.Name x p) (e::es) [] pos) (Sg C sp dvs E t):=by
 intro a s σ H Q I h;refine K5 (MN I n u ?_ b);refine A1e (h₀:=X.base) I.ok.mod.kin M.kp (thn (g pos a s σ H _ I h) λus B ⟨vs,z,d,r,q⟩=>⟨d.kIn,?_⟩) l c;exact QB M F v i j y d r q
theorem Vo(M:Mk X.K C f)(F:AT X.prog X.w X.K X.mg X.base CX k f fd ps sp)(j:Du (k+1) X.A)(g:Gl X x)(i:X.mg x=some (.ref C))(c:DB X.K fd ps ds)(d:AV dvs ds)(l:FJ CX X E)
  (a:(x==("__debug__" : Str))=false:=by decide):PE X (.Call (.Name x p) [] [] pos) (Sg C sp dvs E OZ):=by
 intro b s σ H Q I h;refine K5 (MN I g i ?_ a);exact W.callWith_K0 I.kIn M.kp (QB (us:=[]) M F j c d l I .nil h)
end
structure Ay(N P:K_)(sc:Scope):Prop where
kind:sc.kind=.function
co:sc.isCoroutine=false
gen:sc.isGenerator=false
nd:N.Nodup
pre:N.take P.length=P
par:∀x∈P,sc.names.lookup x=some .local\/sc.names.lookup x=some .cell
nofree:∀y∈sc.names,y.2≠.free
theorem OQ{a:Str->Option NameKind}{x:Str}:∀{binds:List (Str×Value)}{m:C_},(∀v,(x,v)∉binds)->bindL a binds m x=m x
|[],_,_=>rfl
| (n,v)::r,m,h=>by
 unfold bindL;rw[OQ λw b=>h w (D9 _ b)];split
 .have:x≠n:=by rintro rfl;exact h v D8
  simp[this]
 .rfl
theorem OS{a:Str->Option NameKind}{x:Str}:∀{binds:List (Str×Value)}{m:C_},(∀v,(x,v)∉binds)->bindC a binds m x=m x
|[],_,_=>rfl
| (n,v)::r,m,h=>by
 unfold bindC;rw[OS λw b=>h w (D9 _ b)];split
 .rfl
 .have:x≠n:=by rintro rfl;exact h v D8
  simp[this]
theorem OR{a:Str->Option NameKind}{x:Str}{v:S_}:∀{P:K_}{vs:F_}{i:Nat}{m:C_},P.Nodup->P[i]?=some x->vs[i]?=some v->a x=some .local ->
 bindL a (P.zip vs) m x=some v
|[],_,_,_,_,h,_,_=>by simp at h
|_::_,[],_,_,_,_,h,_=>by simp at h
|p::P,w::vs,0,m,nd,h1,h2,hk=>by
 simp at h1 h2;subst h1;subst h2;show bindL a ((p,w)::P.zip vs) m p=_;unfold bindL;rw[OQ λv b=>(N8.mp nd).1 (List.of_mem_zip b).1,W9 hk];simp
|p::P,w::vs,i+1,m,nd,h1,h2,hk=>by
 show bindL a ((p,w)::P.zip vs) m x=_;unfold bindL;exact OR (i:=i) (N8.mp nd).2 (by simpa using h1) (by simpa using h2) hk
theorem OT{a:Str->Option NameKind}{x:Str}{v:S_}:∀{P:K_}{vs:F_}{i:Nat}{m:C_},P.Nodup->P[i]?=some x->vs[i]?=some v->a x≠some .local ->
 bindC a (P.zip vs) m x=some v
|[],_,_,_,_,h,_,_=>by simp at h
|_::_,[],_,_,_,_,h,_=>by simp at h
|p::P,w::vs,0,m,nd,h1,h2,hk=>by
 simp at h1 h2;subst h1;subst h2;show bindC a ((p,w)::P.zip vs) m p=_;unfold bindC;rw[OS λv b=>(N8.mp nd).1 (List.of_mem_zip b).1,W4 hk];simp
|p::P,w::vs,i+1,m,nd,h1,h2,hk=>by
 show bindC a ((p,w)::P.zip vs) m x=_;unfold bindC;exact OT (i:=i) (N8.mp nd).2 (by simpa using h1) (by simpa using h2) hk
noncomputable def Mj(N:K_)(vs:List V):St:=vs.map some++List.replicate (N.length-vs.length) none
noncomputable def Uw(CX:CXT)(P:N_)(w:Q_)(K:O_)(mg:C_)(base:T_)(N:K_)(qual:Str)(scope:Scope)(f:R_)(cd:S_)(A:Around)(outer:List Env)(s:P_)(H:Hp)(E:XK):Cx where
 prog:=P
 w:=w
 K:=K
 mg:=mg
 base:=base
 A:=A.deeper (envOfC qual scope s.heap.objs.size f cd)
 N:=N
 s₀:=s
 H₀:=H
 env:=envOfC qual scope s.heap.objs.size f cd
 outer:=outer
 stack:=envOfC qual scope s.heap.objs.size f cd::outer
 ex:=[]
 calm:=true
 fn:=λ_=>true
 pn:=[]
 xe:=λe s'=>wpAny (model P w) (A.deeper (envOfC qual scope s.heap.objs.size f cd)) (leaving (envOfC qual scope s.heap.objs.size f cd) e) (λ_ s''=>CX outer H s E e s'') (λe' s''=>CX outer H s E e' s'') s'
theorem Rf{a:Scope}{n:Nat}{x:Str}(h:a.names.lookup x=some .cell):∃c,(cellsFrom n a.names []).lookup x=some c:=by
 have q:=W.cellsFrom_some a.names n [] (.inl h);exact Option.isSome_iff_exists.mp q
theorem Ul{CX:CXT}{P:N_}{w:Q_}{K:O_}{L:C_}{m:T_}{N ps:K_}{j:Str}{d:Scope}{f:R_}{F:S_}{A:Around}{g:List Env}{s Q:P_}{H:Hp}{E:XK}{us:F_}{vs:List V}
  (S:Ay N ps d) (T:A.handled=none) (o:Sc P w K L m A g s H) (hl:vs.length=ps.length) (r:AV vs us)
  (x:InCallC s s.heap.objs.size (bindL (envOfC j d s.heap.objs.size f F).kindOf (ps.zip us) λ_=>none) (cellsFrom (s.heap.objs.size+1) d.names []) (bindC (envOfC j d s.heap.objs.size f F).kindOf (ps.zip us) λ_=>none) Q) :
  Inv (Uw CX P w K L m N j d f F A g s H E) [] (Mj N vs) H Q:=by
 have U:ps.length<=N.length:=by have:=Y7 List.length S.pre;rw[M6]at this;lia
 obtain⟨G,tk,rfl,M⟩:=x.done;have B:∀b:Addr,b∉(Uw CX P w K L m N j d f F A g s H E).ex:=λb z=>absurd (show b∈([]:H_)from z) B0;refine⟨⟨o.mod,S.kind,Z,Z,C9 _,λy z c G l=>?_,λy t=>?_,λy c _ h=>?_,λ_=>T,Around.frames_deeper o.frames,.inr ⟨Z,Z⟩,λb z=>absurd z (B b),o.bs,o.bsz,λb _ _=>B b,λb z=>absurd z (B b),o.funs,o.frf⟩,
  rfl,o.bare,Un.kept M,⟨_,x.toInCall.ns,λi y v G l Y=>?_⟩,λy c h=>⟨_,x.cell y c h⟩,o.hok.fresh (C9 _),λy c h=>?_,λp C=>absurd (show p∈([]:A_)from C) B0,o.hok.kept M,?_⟩
 .exact name_of_addr x.apart (X4 G) (X4 l)
 .have t:d.names.lookup y=some .cell\/d.names.lookup y=some .free:=t;rcases t with t|t
  .exact Rf t
  .exact absurd Z (S.nofree _ (X4 t))
 .exact V6 (x.above y c (X4 h))
 .have I:i<vs.length:=by
   unfold Mj at l;by_cases I:i<vs.length
   .exact I
   .rw[F1 (by simpa using I)]at l;rw[S9]at l;split at l<;>cases l
  have R:vs[i]?=some v:=by
   unfold Mj at l;rw[J3 (by simpa using I),C7]at l;cases e:vs[i]? with
   |none=>rw[e]at l;cases l
   |some a=>rw[e]at l;cases l;rfl
  obtain⟨u,O,X⟩:=r.get R;have C:ps[i]?=some y:=by
   rw[<-S.pre,S6 A1];exact G
  have D:ps.Nodup:=by rw[<-S.pre];exact S.nd.sublist (List.take_sublist _ _)
  refine⟨u,X,?_⟩;rcases S.par y (D6 C)with k|k
  .exact .inl ⟨k,OR D C O k⟩
  .obtain⟨c,e⟩:=Rf (n:=s.heap.objs.size+1) k;refine .inr ⟨.inl k,c,e,?_⟩;have q:=x.cell y c e;rw[OT D C O (by show d.names.lookup y≠_;rw[k];decide)]at q;exact q
 .exact o.hok.fresh (V6 (x.above y c (X4 h)))
 .unfold Mj;show _=N.length;rw[C6,B8,O3];lia
theorem fn_of{CX:CXT}{P:N_}{w:Q_}{K:O_}{F:C_}{g:T_}{k:Nat}{f:R_}{name d:Str}{i:Arguments}{j:List Stmt}{a:Scope}{dV kV B pm h ct oc:S_}{X od:Option Addr}
  {O:Array (Option Value)} {N ps:K_} {sp:Sp} (lk:K.lookup f=some ⟨oc,od,.func (W.fnOf name d i j a dV kV B pm X h ct),O⟩) (G:W.codeIn K h d=true) (S:Ay N ps a)
  (len:∀vs H Q E,sp vs H Q E->vs.length=ps.length)
  (m:∀(A:Around)(c:List Env)(s:P_)(H:Hp)(vs:List V)(Q:VK)(E:XK),Du k (A.deeper (envOfC d a s.heap.objs.size f h))->sp vs H Q E ->
   ∃t,PSs (Uw CX P w K F g N d a f h A c s H E) j t/\t {nx:=λ_ l=>Q .non l,rt:=Q} (Mj N vs) H) :
  AT P w K F g CX (k+1) f (W.fnOf name d i j a dV kV B pm X h ct) ps sp:=by
 refine⟨len,λA c s H Y us vs Q E L C hb r D=>?_⟩;have hl:=len _ _ _ _ D;have U:K.In s.heap:=C.mod.kin.keeps λb o e=>(C.bs b o e).1;have M:s.heap.NoLimit:=C.mod.nolimit.keeps λb o e=>(C.bs b o e).1;have p:∀y∈ps.zip us,a.names.lookup y.1=some .local\/(a.names.lookup y.1=some .cell/\((cellsFrom (s.heap.objs.size+1) a.names []).lookup y.1).isSome=true):=λ⟨n,v⟩ hy=>by
  rcases S.par n (List.of_mem_zip hy).1 with q|q
  .exact .inl q
  .exact .inr ⟨q,W.cellsFrom_some _ _ _ (.inl q)⟩
 refine codeAny_call_function L.depth (U _ _ lk) Z S.co S.gen Z (W.codeRec_of U G) (hb _ _ _ _ ?_);refine wpAny_newFunctionEnv_cells S.kind p λaa he s1 x=>?_;subst he;refine⟨M.keeps x.toInCall.keep,codeAny_func ?_⟩;obtain⟨t,ht,hq⟩:=m A c s H vs Q E (L.deeper _) D;have I:Inv (Uw CX P w K F g N d a f h A c s H E) [] (Mj N vs) H s1:=Ul S L.hd C hl r x;refine X6 (ht [] s1 (Mj N vs) H _ I hq) (λfl T z=>?_) λe T z=>z;have fin:∀{σ':St}{l:Hp}{v:V}{u:S_},Inv (Uw CX P w K F g N d a f h A c s H E) [] σ' l T->Bg v u->Q v l->CE c P w H s Q u T :=
  λ{σ' l v u} J R q=>⟨v,l,J.os,J.bare,J.base,J.hok,R,q⟩
 cases fl with
 |ret u =>
  obtain⟨v,σ',l,J,R,q⟩:=z;exact fin J R q
 |next =>
  obtain⟨σ',l,J,q⟩:=z;exact fin (v:=V.non) (u:=Value.none) J Z q
 |brk =>
  obtain⟨_,_,_,q⟩:=z;exact False.elim q
 |cont =>
  obtain⟨_,_,_,q⟩:=z;exact False.elim q
section
variable{X:Cx}{x:Str}{p pos:Pos}{e:Expr}{es:List Expr}{t:TA}{id T:String}{r:List V->Hp->VK->Prop}
def tCB(r:List V->Hp->VK->Prop)(t:TA):TE:=fun σ H Q=>t σ H λvs H1=>r vs H1 Q
theorem AU(i:FN X (.builtin id) r)(k:Gl X x)(l:X.mg x=none)(n:bootBuiltins x=some (.builtin id))(g:PA X (e::es) t)(m:x≠"__name__" := by decide)(b:(x==("__debug__" : Str))=false:=by decide)
  (j:starEach (e::es) X.env=(false,eval e X.env)::starEach es X.env:=by rfl) (c:(backTo pos (starEach es X.env)).any (·.1)=false:=by rfl):PE X (.Call (.Name x p) (e::es) [] pos) (tCB r t):=by
 intro a s σ H Q I h;refine K5 (JH I k l n ?_ m b);exact PyProof.Rows.callWith_builtin1 (thn (g pos a s σ H _ I h) λus u ⟨vs,d,f,q,o⟩=>i a u σ d vs us Q f q o) j c
theorem Bp(i:FN X (.type T) r)(k:Gl X x)(l:X.mg x=none)(n:bootBuiltins x=some (.type T))(g:PA X (e::es) t)(m:x≠"__name__" := by decide)(b:(x==("__debug__" : Str))=false:=by decide)
  (j:starEach (e::es) X.env=(false,eval e X.env)::starEach es X.env:=by rfl) (c:(backTo pos (starEach es X.env)).any (·.1)=false:=by rfl):PE X (.Call (.Name x p) (e::es) [] pos) (tCB r t):=by
 intro a s σ H Q I h;refine K5 (JH I k l n ?_ m b);exact X5 (thn (g pos a s σ H _ I h) λus u ⟨vs,d,f,q,o⟩=>i a u σ d vs us Q f q o) j c
end
end L2
namespace HT
open PySem PyProof.Rows
section
variable{prog:N_}{w:Q_}{A:Around}{E:B_}{s:P_}
noncomputable def sIx(n d:Nat):Option Int->Nat
|none=>d
|some v=>if v<0 then(v+(n:Int)).toNat else min v.toNat n
theorem Sz(n d k:Nat):sIx n d (some (k:Int))=min k n:=by
 show(if(k:Int)<0 then((k:Int)+(n:Int)).toNat else min (k:Int).toNat n)=min k n;rw[W4 A1,N3]
end
end HT
namespace L2
open PySem PySem.Spec PyProof.Rows
abbrev TO:=St->Hp->(Option Int->Hp->Prop)->Prop
def PO(X:Cx)(e:Option Expr)(t:TO):Prop :=
 ∀(pins:A_)(s:P_)(σ:St)(H:Hp)(Q:Option Int->Hp->Prop),Inv X pins σ H s->t σ H Q ->
  wpAny (model X.prog X.w) X.A (evalPart e X.env) (λu s'=>∃o H',Inv X pins σ H' s'/\IsPart u o/\Q o H') X.xe s
def tNoPart:TO:=λ_ H Q=>Q none H
def tPart(t:TE):TO:=fun σ H Q=>t σ H λx H1=>∃i,x=.int i/\Q (some i) H1
section
variable{X:Cx}{e:Expr}{te:TE}{lo hi:Option Expr}{tl th:TO}{pos p2:Pos}
theorem po_none:PO X none tNoPart:=by
 intro a s σ H Q I h;rw[evalPart_none];exact Y6 ⟨none,H,I,.none,h⟩
theorem DP(h:PE X e te):PO X (some e) (tPart te):=by
 intro a s σ H Q I d;rw[evalPart_some];refine thn (h a s σ H _ I d) λu j ⟨x,b,c,g,f⟩=>?_;obtain⟨i,rfl,q⟩:=f;obtain⟨t,rfl⟩:=g;exact⟨some i,b,c,.int i t,q⟩
def SlR(X:Cx)(r:V->Option Int->Option Int->Hp->VK->Prop):Prop :=
 ∀(pins:A_)(s:P_)(σ:St)(H:Hp)(x:V)(v vl vu:S_)(lo hi:Option Int)(sl:R_)(Q:VK),Inv X pins σ H s->Bg x v->s.heap.IsSliceOf sl vl vu .none->IsPart vl lo->IsPart vu hi->r x lo hi H Q ->
  ∃T id,typeLookup (.type T) "__getitem__" = pure (some (.builtin id))/\s.TypeIs v T/\wpAny (model X.prog X.w) X.A (getItem v (.ref sl)) (EP X pins σ Q) X.xe s
def tSl(r:V->Option Int->Option Int->Hp->VK->Prop)(te:TE)(tl th:TO):TE:=fun σ H Q=>te σ H λx H1=>tl σ H1 λl H2=>th σ H2 λu H3=>r x l u H3 Q
theorem GF{r:V->Option Int->Option Int->Hp->VK->Prop}(B:SlR X r)(t:PE X e te)(z:PO X lo tl)(D:PO X hi th):PE X (.Subscript e (.Slice lo hi none p2) pos) (tSl r te tl th):=by
 intro a s σ H Q I h;refine Subscript_ (thn (t a s σ H _ I h) λv M ⟨x,i,k,L,F⟩=>?_);refine wpAny_Slice (thn (z a M σ i _ k F) λd N ⟨l,j,m,pl,G⟩=>thn (D a N σ j _ m G) λf c ⟨u,g,n,E,K⟩=>?_);rw[evalPart_none];refine Y6 ?_;have o:Inv X a σ g {c with heap:=c.heap.push {cls:=.type "slice",data:=.fields #[d,f,.none]} }:=n.kept (t':=c.toks) λb O q=>D0 _ q;obtain⟨T,id,p,C,y⟩:=B a {c with heap:=c.heap.push {cls:=.type "slice",data:=.fields #[d,f,.none]} } σ g x v d f l u c.heap.objs.size Q o L (Heap.IsSliceOf.new ..) pl E K;show wpAny (model X.prog X.w) X.A (subscriptTail e (.Slice lo hi none p2) v (.ref c.heap.objs.size)) (EP X a σ Q) X.xe {c with heap:=c.heap.push {cls:=.type "slice",data:=.fields #[d,f,.none]} };exact tail_any (ops:=[.ref c.heap.objs.size,v]) C p y (by with_unfolding_all rfl)
noncomputable def NQ(xs:List V)(lo hi:Option Int):List V:=(xs.drop (HT.sIx xs.length 0 lo)).take (HT.sIx xs.length xs.length hi-HT.sIx xs.length 0 lo)
theorem QZ(xs:List V)(lo hi:Option Int):(NQ xs lo hi).length<=xs.length:=by
 unfold NQ;rw[M6,List.length_drop];lia
end
noncomputable def ixN(n:Nat)(i:Int):Option Nat:=if 0<=i then(if i<n then some i.toNat else none)else if -(n:Int)<=i then some (i+n).toNat else none
noncomputable def atI{α:Type}(xs:List α)(i:Int):Option α:=(ixN xs.length i).bind λj=>xs[j]?
theorem SW{n:Nat}{i:Int}{j:Nat}(h:ixN n i=some j):seqIndex? i n=some j/\j<n/\-(n:Int)<=i/\i<n:=by
 unfold ixN at h;by_cases b:0<=i
 .rw[W9 b]at h;by_cases a:i<n
  .rw[W9 a]at h;have e:i.toNat=j:=Y8 h;exact⟨by rw[seqIndex_of b a,e],by lia,by lia,a⟩
  .rw[W4 a]at h;cases h
 .rw[W4 b]at h;by_cases a:-(n:Int)<=i
  .rw[W9 a]at h;have e:(i+n).toNat=j:=Y8 h;exact⟨by rw[seqIndex_neg A1 a,e],by lia,a,by lia⟩
  .rw[W4 a]at h;cases h
theorem Qj{α:Type}{xs:List α}{i:Int}{v:α}(h:atI xs i=some v):∃j,seqIndex? i xs.length=some j/\xs[j]?=some v/\j<xs.length/\-(xs.length:Int)<=i/\i<xs.length:=by
 unfold atI at h;cases e:ixN xs.length i with
 |none=>rw[e]at h;cases h
 |some j =>
  rw[e]at h;obtain⟨a,b,c,d⟩:=SW e;exact⟨j,a,h,b,c,d⟩
theorem Am{α:Type}{xs:List α}{j:Nat}{v:α}(h:xs[j]?=some v):atI xs (j:Int)=some v:=by
 have a:j<xs.length:=(B9.mp h).1;have e:ixN xs.length (j:Int)=some j:=by
  unfold ixN;rw[W9 A1,W9 A1];simp
 unfold atI;rw[e];exact h
def PlainIx(b:Expr):Prop:=∀o i,subscripted b false o i=operate [o,i] (getItem o i)
def IxR(X:Cx)(r:R2):Prop :=
 ∀(value slice:Expr)(pins:A_)(s:P_)(σ:St)(H:Hp)(x y:V)(v u:S_)(Q:VK),Inv X pins σ H s->Bg x v->Bg y u->r x y H Q ->
  subscripted slice false v u=operate [v,u] (getItem v u)->wpAny (model X.prog X.w) X.A (subscriptTail value slice v u) (EP X pins σ Q) X.xe s
def MtR(X:Cx)(id:String)(r:V->List V->Hp->VK->Prop):Prop :=
 ∀(pins:A_)(s:P_)(σ:St)(H:Hp)(x:V)(xs:List V)(v:S_)(us:F_)(Q:VK),Inv X pins σ H s->Bg x v->AV xs us->r x xs H Q ->
  wpAny (model X.prog X.w) X.A (call (.builtin id) (v::us)) (EP X pins σ Q) X.xe s
section
variable{X:Cx}{a b:Expr}{ta tb:TE}{pos:Pos}
theorem Ah{r:R2}(i:IxR X r)(f:PE X a ta)(g:PE X b tb)(j:PlainIx b):PE X (.Subscript a b pos) (tOp r ta tb):=by
 intro c s σ H Q I h;exact Subscript_ (binT f g I h λv u m x y d e k l q=>i a b c m σ d x y v u Q e k l q (j _ _))
def rIxL(K:O_):R2:=λx y H Q=>∃p xs i v,x=.ref p/\y=.int i/\SqL K H p xs/\atI xs i=some v/\Q v H
def Jj(K:O_):R2:=λx y H Q=>∃p xs i v,x=.ref p/\y=.int i/\SqT K H p xs/\atI xs i=some v/\Q v H
def rIxS:R2:=λx y H Q=>∃z i c,x=.str z/\y=.int i/\z.length<=sizeLine/\atI z.cps.toList i=some c/\Q (.str ⟨#[c]⟩) H
theorem Au:IxR X (rIxL X.K):=by
 intro l k c s σ H x y v u Q I G L h o;obtain⟨p,xs,i,z,rfl,rfl,F,D,q⟩:=h;cases G;obtain⟨t,rfl⟩:=L;obtain⟨f,r,pl,P⟩:=I.list F;obtain⟨j,d,A,N,B,C⟩:=Qj D;obtain⟨w,m,g⟩:=r.get A;have E:=r.length;have O:=Mc;have fin:EP X c σ Q w s:=⟨z,H,I,g,q⟩
 by_cases n:0<=i
 .have e:i.toNat=j:=by
   rw[seqIndex_of n C]at d;exact Y8 d
  exact item_listR pl.isList n A1 (by rw[e];simpa using m) fin o
 .have e:(i+(f.toArray.size:Int)).toNat=j:=by
   rw[seqIndex_neg A1 B]at d;rw[J0,<-E];exact Y8 d
  exact subscriptTail_builtinR (x:=w) pl.isList.typeIs slot_list_getitem.lookup
   (wpAny_getItem_list_neg (Q:=λr M=>r=w/\EP X c σ Q r M) pl.isList A1 (by rw[J0]<;>lia) A1 (by rw[e];simpa using m) ⟨Z,fin⟩) o
theorem Ap:IxR X (Jj X.K):=by
 intro f e c s σ H x y v u Q I C D h A;obtain⟨p,xs,i,z,rfl,rfl,o,m,q⟩:=h;cases C;obtain⟨t,rfl⟩:=D;obtain⟨B,r,pl,N⟩:=I.tuple o;obtain⟨j,k,l,F,G,L⟩:=Qj m;obtain⟨w,g,d⟩:=r.get l;have n:=r.length;have M:=Mc;have fin:EP X c σ Q w s:=⟨z,H,I,d,q⟩
 exact subscriptTail_builtinR (x:=w) pl.typeIs slot_tuple_getitem.lookup
  (getItem_tuple (j:=j) (Q:=λr E=>r=w/\EP X c σ Q r E) pl A1 A1 (by rw[J0,<-n];exact k) (by simpa using g) ⟨Z,fin⟩) A
theorem ix_str:IxR X rIxS:=by
 intro e d g s σ H x y v u Q I A B h w;obtain⟨z,i,c,rfl,rfl,E,p,q⟩:=h;obtain⟨t,rfl⟩:=A;obtain⟨t',rfl⟩:=B;obtain⟨j,f,m,C,n,o⟩:=Qj p;have r:z.cps.toList.length=z.length:=by simp[Str.length]
 rw[r]at f n o;have D:=Mc;exact tail_any (A1c s z t) slot_str_getitem.lookup (getItem_str (c:=c) (by
  have k:decide (i < -(2^63:Int))=false:=W3 A1;have l:decide (i ≥ 2^63)=false:=W3 A1;rw[k,l,Bool.or_false]) (by rw[f];simpa using m) ⟨.str ⟨#[c]⟩,H,I.tok _,⟨_,Z⟩,q⟩) w
theorem RJ(c:F_)(n j:Nat)(u:S_):Obj.mapSeq (·.setIfInBounds j u) {cls:=.type "list",data:=.seq c.toArray n}={cls:=.type "list",data:=.seq (c.set j u).toArray n}:=by
 simp[Obj.mapSeq]
theorem Inv.lst{d:A_}{σ:St}{H:Hp}{s:P_}{p:R_}{xs:List V}(I:Inv X d σ H s)(h:H p=some (.lst xs)) :
  ∃(c:F_)(n:Nat),AV xs c/\s.heap.get? p=some {cls:=.type "list",data:=.seq c.toArray n}/\xs.length<=sizeLine:=by
 obtain⟨z,c,n,r,e⟩:=I.hok p _ h;exact⟨c,n,r,e,z⟩
theorem Inv.lstUpd{c:A_}{σ:St}{H:Hp}{s:P_}{p:R_}{xs ys:List V}{d its':F_}{n g:Nat}{f:Obj->Obj}(I:Inv X c σ H s)(h:H p=some (.lst xs))
  (k:s.heap.get? p=some {cls:=.type "list",data:=.seq d.toArray n}) (i:f {cls:=.type "list",data:=.seq d.toArray n}={cls:=.type "list",data:=.seq its'.toArray g}) (r:AV ys its') (l:ys.length<=sizeLine) (t:Nat) :
  Inv X c σ (upd H p (.lst ys)) {s with heap:=s.heap.update p f,toks:=t}:=by
 have e:(s.heap.update p f).get? p=some {cls:=.type "list",data:=.seq its'.toArray g}:=by
  rw[Heap.get?_update_self f k (by rw[i]<;>rfl),i]
 refine I.write (x:=p) (e:=p) (by rw[h];trivial) (.inl Z) (λb u j q=>(T6 _ _ (W8 j)).trans q) ⟨_,e⟩ ?_;exact⟨l,its',g,r,e⟩
def rSetL:V->V->V->Hp->(Hp->Prop)->Prop:=λo i v H Q=>∃p xs k j,o=.ref p/\i=.int k/\H p=some (.lst xs)/\ixN xs.length k=some j/\Q (upd H p (.lst (xs.set j v)))
theorem Na:PSet X rSetL:=by
 intro d s σ H o i v L K u Q I D C E h;obtain⟨p,xs,k,j,rfl,rfl,z,A,q⟩:=h;cases D;obtain⟨t,rfl⟩:=C;obtain⟨c,n,r,l,B⟩:=I.lst z;obtain⟨e,F,x,y⟩:=SW A;have g:=r.length;have G:=Mc;have m:Inv X d σ (upd H p (.lst (xs.set j v))) {s with heap:=s.heap.update p (Obj.mapSeq (·.setIfInBounds j u))} :=
  I.lstUpd z l (RJ c n j u) (r.set E j) (by rw[List.length_set];exact B) s.toks
 by_cases w:0<=k
 .have f:k.toNat=j:=by
   rw[seqIndex_of w y]at e;exact Y8 e
  exact W.ki_setAt l w A1 (by rw[J0,<-g];exact y) (by rw[f];exact⟨_,m,q⟩)
 .have f:(k+(c.toArray.size:Int)).toNat=j:=by
   rw[seqIndex_neg A1 x]at e;rw[J0,<-g];exact Y8 e
  exact W.ki_setBack l A1 (by rw[J0,<-g];exact x) A1 (by rw[f];exact⟨_,m,q⟩)
theorem Ph(lo c:Option Int)(n:Nat):(sliceBounds lo c none n).1=((HT.sIx n 0 lo:Nat):Int)/\(sliceBounds lo c none n).2.1=((HT.sIx n n c:Nat):Int)/\(sliceBounds lo c none n).2.2=1:=by
 refine⟨?_,?_,Z⟩
 .cases lo with
  |none=>simp[sliceBounds,HT.sIx]
  |some i =>
   simp only[sliceBounds,HT.sIx,Option.getD_none,show(1:Int) > 0 by decide,A1a];by_cases h:i<0
   .simp only[h,A1a]<;>lia
   .simp only[h,if_false]<;>lia
 .cases c with
  |none=>simp[sliceBounds,HT.sIx]
  |some i =>
   simp only[sliceBounds,HT.sIx,Option.getD_none,show(1:Int) > 0 by decide,A1a];by_cases h:i<0
   .simp only[h,A1a]<;>lia
   .simp only[h,if_false]<;>lia
theorem NY(c:F_)(lo d:Option Int):slicePick c.toArray lo d none=((c.drop (HT.sIx c.length 0 lo)).take (HT.sIx c.length c.length d-HT.sIx c.length 0 lo)).toArray:=by
 obtain⟨e,f,g⟩:=Ph lo d c.toArray.size;unfold slicePick;rw[e,f,g];simp only[sliceRange_one,pick_run,J0]<;>rfl
def rSlL(K:O_):V->Option Int->Option Int->Hp->VK->Prop:=λx lo hi H Q=>∃a xs,x=.ref a/\SqL K H a xs/\∀p,H p=none->Q (.ref p) (upd H p (.lst (NQ xs lo hi)))
theorem Jd:SlR X (rSlL X.K):=by
 intro f s σ H x v t u lo d p Q I m g pl l h;obtain⟨a,xs,rfl,i,q⟩:=h;cases m;obtain⟨k,r,e,j⟩:=I.list i;have c:=r.length;refine⟨"list",_,slot_list_getitem.lookup,e.isList.typeIs,?_⟩;refine wpAny_getItem_list_slice e.isList g pl l .none B0 ?_ (by rw[J0]<;>lia);rw[NY,<-c];refine⟨.ref s.heap.objs.size,_,I.laid (t':=s.toks) (o:=.lst (NQ xs lo d)) (λb n q=>D0 _ q) (C9 _) ?_,Z,q _ (I.hok.fresh (C9 _))⟩;exact⟨D4 (QZ xs lo d) j,_,0,(r.drop (HT.sIx xs.length 0 lo)).take (HT.sIx xs.length xs.length d-HT.sIx xs.length 0 lo),F8 _ Z⟩
noncomputable def Ll:V->Bool
|.non=>true
|.bl _=>true
|.int _=>true
|.str _=>true
|_=>false
noncomputable def eqV:V->V->Bool
|.non,.non=>true
|.bl a,.bl b=>a==b
|.bl a,.int b=>(if a then 1 else 0)==b
|.int a,.bl b=>a==(if b then 1 else 0)
|.int a,.int b=>a==b
|.str a,.str b=>a==b
|_,_=>false
theorem eqAt_V{A:Around}{s:P_}{y x:V}{u v:S_}(e:Bg y u)(c:Bg x v)(f:Ll y=true)(d:Ll x=true):SeqAt.EqAt A s u v (eqV y x):=by
 cases y with
 |non =>
  cases e;cases x with
  |non=>cases c;exact SeqAt.EqAt.same _
  |bl b=>cases c;exact SeqAt.EqAt.none_bool b
  |int b=>obtain⟨t,rfl⟩:=c;exact SeqAt.EqAt.none_int b t
  |str b=>obtain⟨t,rfl⟩:=c;exact SeqAt.EqAt.none_str b t
  |_=>exact absurd (show false=true from d) F4
 |bl a =>
  cases e;cases x with
  |non=>cases c;exact SeqAt.EqAt.bool_none a
  |bl b=>cases c;exact SeqAt.EqAt.bool_bool a b
  |int b=>obtain⟨t,rfl⟩:=c;exact SeqAt.EqAt.bool_int a b t
  |str b=>obtain⟨t,rfl⟩:=c;exact SeqAt.EqAt.bool_str a b t
  |_=>exact absurd (show false=true from d) F4
 |int a =>
  obtain⟨t',rfl⟩:=e;cases x with
  |non=>cases c;exact SeqAt.EqAt.int_none a t'
  |bl b=>cases c;exact SeqAt.EqAt.int_bool a t' b
  |int b=>obtain⟨t,rfl⟩:=c;exact SeqAt.EqAt.int_int a t' b t
  |str b=>obtain⟨t,rfl⟩:=c;exact SeqAt.EqAt.int_str a t' b t
  |_=>exact absurd (show false=true from d) F4
 |str a =>
  obtain⟨t',rfl⟩:=e;cases x with
  |non=>cases c;exact SeqAt.EqAt.str_none a t'
  |bl b=>cases c;exact SeqAt.EqAt.str_bool a t' b
  |int b=>obtain⟨t,rfl⟩:=c;exact SeqAt.EqAt.str_int a t' b t
  |str b=>obtain⟨t,rfl⟩:=c;exact SeqAt.EqAt.str_str a t' b t
  |_=>exact absurd (show false=true from d) F4
 |_=>exact absurd (show false=true from f) F4
noncomputable def eqU(x:V)(u:S_):Bool:=match u with
|.none=>eqV .non x
|.bool b=>eqV (.bl b) x
|.int i _=>eqV (.int i) x
|.str z _=>eqV (.str z) x
|_=>false
theorem Wd{x y:V}{u:S_}(r:Bg y u)(f:Ll y=true):eqU x u=eqV y x:=by
 cases y with
 |non=>cases r;rfl
 |bl b=>cases r;rfl
 |int i=>obtain⟨t,rfl⟩:=r;rfl
 |str z=>obtain⟨t,rfl⟩:=r;rfl
 |_=>exact absurd (show false=true from f) F4
theorem Ql{x:V}:∀{xs:List V}{us:F_},AV xs us->xs.all Ll=true->us.any (eqU x)=xs.any λy=>eqV y x
|_,_,.nil,_=>rfl
|y::xs,u::us,.cons r t,f=>by
 rw[U8,Q5]at f;rw[S7,S7,Wd r f.1,Ql t f.2]
theorem NI{A:Around}{s:P_}{x:V}{v:S_}(e:Bg x v)(d:Ll x=true):∀{xs:List V}{us:F_},AV xs us->xs.all Ll=true->∀u∈us,SeqAt.EqAt A s u v (eqU x u)
|_,_,.nil,_=>λu c=>by cases c
|y::xs,u::us,.cons r t,f=>λg c=>by
 rw[U8,Q5]at f;rcases D1.mp c with rfl|c
 .rw[Wd r f.1];exact eqAt_V r e f.1 d
 .exact NI e d t f.2 g c
noncomputable def inV(x:V)(xs:List V):Bool:=xs.any λy=>eqV y x
def rIn(K:O_)(neg:Bool):R2:=λx y H Q=>∃p xs,y=.ref p/\(SqL K H p xs\/SqT K H p xs)/\Ll x=true/\xs.all Ll=true/\Q (.bl (if neg then !inV x xs else inV x xs)) H
theorem TR:OpR X (compareOp .In) (rIn X.K false):=by
 intro g s σ H x y v u Q I i k h;obtain⟨p,xs,rfl,d,f,fs,q⟩:=h;cases k;rcases d with d|d
 .obtain⟨c,r,pl,j⟩:=I.list d;refine SeqAt.in_listAt (eqU x) pl.isList (λw e=>NI i f r fs w (by simpa using e)) ⟨.bl _,H,I,Z,?_⟩;rw[show c.toArray.any (eqU x)=c.any (eqU x) by simp,Ql r fs];exact q
 .obtain⟨c,r,pl,j⟩:=I.tuple d;refine SeqAt.in_tupleAt (eqU x) pl (λw e=>NI i f r fs w (by simpa using e)) ⟨.bl _,H,I,Z,?_⟩;rw[show c.toArray.any (eqU x)=c.any (eqU x) by simp,Ql r fs];exact q
theorem BK:FN X (.builtin "len") (λxs H Q=>∃p ys,xs=[.ref p]/\(SqL X.K H p ys\/SqT X.K H p ys)/\Q (.int ys.length) H):=by
 intro g s σ H xs us Q I r h;obtain⟨p,ys,rfl,d,q⟩:=h;obtain⟨u,rfl,j⟩:=Mi r;cases j;have k:=Mc;rcases d with d|d
 .obtain⟨e,f,pl,i⟩:=I.list d;have c:=f.length;exact Calls.call_len_list pl.isList (by simp only[J0]<;>lia) ⟨.int ys.length,H,I.tok _,⟨s.toks+1,by rw[J0,c]⟩,q⟩
 .obtain⟨e,f,pl,i⟩:=I.tuple d;have c:=f.length;exact len_tuple pl (by simp only[J0]<;>lia) ⟨.int ys.length,H,I.tok _,⟨s.toks+1,by rw[J0,c]⟩,q⟩
theorem Il:FN X (.builtin "len") (λxs H Q=>∃z,xs=[.str z]/\z.length<=sizeLine/\Q (.int z.length) H):=by
 intro c s σ H xs us Q I r h;obtain⟨z,rfl,e,q⟩:=h;obtain⟨u,rfl,t,rfl⟩:=Mi r;have d:=Mc;exact len_str A1 ⟨.int z.length,H,I.tok _,⟨_,Z⟩,q⟩
theorem Ik:FN X (.type "list") (λxs H Q=>∃p ys,xs=[.ref p]/\(SqL X.K H p ys\/SqT X.K H p ys)/\∀l,H l=none->Q (.ref l) (upd H l (.lst ys))):=by
 intro k s σ H xs us Q I r h;obtain⟨p,ys,rfl,i,q⟩:=h;obtain⟨u,rfl,y⟩:=Mi r;cases y;have fin:∀(c:F_),AV ys c->ys.length<=sizeLine->∀(h':T_)(d:Nat),(∀b x,s.heap.get? b=some x->h'.get? b=some x) ->
   h'.get? s.heap.objs.size=some {cls:=.type "list",dict:=none,data:=.seq c.toArray d,slots:=#[]}->EP X k σ Q (.ref s.heap.objs.size) {s with heap:=h'}:=λc f j h' d kp e =>
  ⟨.ref s.heap.objs.size,_,I.laid (t':=s.toks) kp (C9 _) (show Ca X.prog X.w _ h' _ (.lst ys)from⟨j,c,d,f,e⟩),Z,q _ (I.hok.fresh (C9 _))⟩
 rcases i with i|i
 .obtain⟨c,f,pl,j⟩:=I.list i;have g:=f.length;obtain⟨o,v,m,n,t⟩:=pl.isList;exact call_list_seq p (.inl Z) v m t (λh' d kp e=>fin c f j h' d kp e) (by simp only[J0]<;>lia)
 .obtain⟨c,f,pl,j⟩:=I.tuple i;have g:=f.length;obtain⟨o,v,m,n,t⟩:=pl;exact call_list_seq p (.inr Z) v m t (λh' d kp e=>fin c f j h' d kp e) (by simp only[J0]<;>lia)
theorem CN:FN X (.type "tuple") (λxs H Q=>∃p ys,xs=[.ref p]/\((SqL X.K H p ys/\∀l,H l=none->Q (.ref l) (upd H l (.tup ys)))\/(SqT X.K H p ys/\Q (.ref p) H))):=by
 intro c s σ H xs us Q I r h;obtain⟨p,ys,rfl,h⟩:=h;obtain⟨u,rfl,n⟩:=Mi r;cases n;rcases h with ⟨f,q⟩|⟨f,q⟩
 .obtain⟨d,g,pl,k⟩:=I.list f;have j:=g.length;refine call_tuple_list pl.isList (λh' kp=>?_) (by simp only[J0]<;>lia);have i:Inv X c σ H {s with heap:=h'}:=I.kept (t':=s.toks) kp
  have m:Inv X c σ (upd H h'.objs.size (.tup ys)) {s with heap:=h'.push {cls:=.type "tuple",data:=.seq d.toArray} } :=
   i.laid (t':=s.toks) (λb o e=>D0 _ e) (C9 _) (show Ca X.prog X.w _ _ _ (.tup ys)from⟨k,d,g,IsTup.new _ _⟩)
  exact⟨.ref h'.objs.size,_,m,Z,q _ (i.hok.fresh (C9 _))⟩
 .obtain⟨d,g,pl,k⟩:=I.tuple f;exact call_tuple_same pl ⟨.ref p,H,I,Z,q⟩
def tyV(K:O_)(T:String)(x:V)(H:Hp):Prop:=match x with
|.str _=>T="str"
|.int _=>T="int"
|.ref p=>(T="list" /\ ∃xs,SqL K H p xs)\/(T="tuple" /\ ∃o,K.lookup p=some o/\o.cls=.type "tuple" /\ o.dict=none) \/
  (T="dict" /\ ((∃kvs,H p=some (.dK kvs))\/∃kvs,H p=some (.dT kvs)))\/(T="set" /\ ∃S n,H p=some (.set S n))
|_=>False
theorem tyV_is{g:A_}{σ:St}{H:Hp}{s:P_}{T:String}{x:V}{v:S_}(I:Inv X g σ H s)(r:Bg x v)(h:tyV X.K T x H) :
  s.TypeIs v T/\∀a,v=.ref a->∃m,s.heap.get? a=some m/\m.dict=none:=by
 cases x with
 |str z =>
  obtain⟨t,rfl⟩:=r;cases(show T="str" from h);exact⟨A1c s z t,λ_ e=>nomatch e⟩
 |int i =>
  obtain⟨t,rfl⟩:=r;cases(show T="int" from h);exact⟨typeIs_int s i t,λ_ e=>nomatch e⟩
 |ref p =>
  cases r;rcases h with ⟨rfl,xs,u⟩|⟨rfl,o,d,q,k⟩|⟨rfl,d⟩|⟨rfl,S,n,d⟩
  .obtain⟨w,_,pl,_⟩:=I.list u;refine⟨pl.isList.typeIs,λa e=>?_⟩;cases e;obtain⟨o,n,e,c,k,_⟩:=pl;exact⟨o,e,k⟩
  .refine⟨⟨o,I.kIn p o d,q⟩,λa e=>?_⟩;cases e;exact⟨o,I.kIn _ o d,k⟩
  .have z:∃o,s.heap.get? p=some o/\o.ExactDict:=by
    rcases d with ⟨l,d⟩|⟨l,d⟩
    .obtain⟨_,_,_,_,o,_,_,e,f,_⟩:=I.hok p _ d;exact⟨o,e,f⟩
    .obtain⟨_,_,_,_,o,_,_,e,f,_⟩:=I.hok p _ d;exact⟨o,e,f⟩
   obtain⟨o,e,f⟩:=z;refine⟨⟨o,e,f.1⟩,λa j=>?_⟩;cases j;exact⟨o,e,f.2.1⟩
  .obtain⟨o,_,_,_,e,f,_⟩:=I.hok p _ d;refine⟨⟨o,e,f.1⟩,λa j=>?_⟩;cases j;exact⟨o,e,f.2.1⟩
 |_=>exact False.elim h
def tBM(K:O_)(T:String)(r:V->List V->Hp->VK->Prop)(to:TE)(t:TA):TE:=fun σ H Q=>to σ H λx H1=>tyV K T x H1/\t σ H1 λxs H2=>r x xs H2 Q
variable{o e:Expr}{es:List Expr}{to:TE}{t:TA}{name:Str}{apos cpos:Pos}{T id:String}{r:V->List V->Hp->VK->Prop}
theorem Cf(D:PlainAttrs T)(j:Slot T name id)(k:typeOf (.builtin id)=pure (.type "method_descriptor"))(A:MtR X id r)(B:PE X o to)(z:PA X (e::es) t)
  (f:attributeBase o name X.env (eval o X.env)=eval o X.env:=by rfl)
  (i:((backTo cpos (starEach (e::es) X.env)).all (λx=>!x.1) && (backToKw cpos (keywordEach [] X.env)).all (λx=>x.1.isSome)
   && decide ((e::es).length+([]:List Keyword).length+(if([]:List Keyword).isEmpty then 0 else 1)<30))=true:=by rfl)
  (g:(apos.endLine==cpos.line)=true:=by rfl) (C:starEach (e::es) X.env=(false,eval e X.env)::starEach es X.env:=by rfl) (d:(backTo cpos (starEach es X.env)).any (·.1)=false:=by rfl) :
  PE X (.Call (.Attribute o name apos) (e::es) [] cpos) (tBM X.K T r to t):=by
 intro c s σ H Q I h;refine wpAny_Call_method_late f i g Z (thn (B c s σ H _ I h) λv L ⟨x,p,l,n,N,E⟩=>?_);obtain⟨w,y⟩:=tyV_is l n N;refine⟨T,id,D,j,k,w,y,?_⟩;have m:=z cpos c L σ p _ l E;rw[C]at m⊢;refine Calls.callWith_builtin (by show(false || (backTo cpos (starEach es X.env)).any (·.1))=false;rw[d]<;>rfl) (Calls.evalArgs_plain ?_);exact thn m λus M ⟨vs,q,u,G,F⟩=>A c M σ q x vs v us Q u n G F
end
def MtM(X:Cx)(id:String)(r:V->List V->Hp->VK->Prop):Prop :=
 ∀(pins:A_)(s:P_)(σ:St)(H:Hp)(x:V)(xs:List V)(v:S_)(us:F_)(Q:VK),Inv X pins σ H s->Bg x v->AV xs us->r x xs H Q ->
  wpAny (model X.prog X.w) X.A (call (.builtin id) (v::us)) (EP X pins σ Q) X.xe s
theorem AV.one:∀{x:V}{us:F_},AV [x] us->∃u,us=[u]/\Bg x u
|_,_,.cons r .nil=>⟨_,Z,r⟩
theorem AV.two:∀{x y:V}{us:F_},AV [x,y] us->∃u v,us=[u,v]/\Bg x u/\Bg y v:=by
 intro x y us h;cases h with
 |cons r t=>cases t with
  |cons q t=>cases t;exact⟨_,_,Z,r,q⟩
theorem AV.rep{xs:List V}{us:F_}(h:AV xs us):∀k:Nat,AV (List.replicate k xs).flatten (List.replicate k us).flatten
|0=>.nil
|k+1=>by
 rw[Q7,Q7,P6,P6];exact AV.append h (AV.rep h k)
theorem OK(b:F_):∀(k:Nat)(a:F_),
 List.foldl (λd f=>d++f) a.toArray (List.replicate k b.toArray)=(a++(List.replicate k b).flatten).toArray
|0,a=>by simp
|k+1,a=>by
 have e:a.toArray++b.toArray=(a++b).toArray:=by simp
 have c:(a++b)++(List.replicate k b).flatten=a++(List.replicate (k+1) b).flatten:=by
  rw[Q7,P6,O2]
 rw[<-c,<-OK b k (a++b),<-e,Q7,R9]
section
variable{X:Cx}{pins:A_}{σ:St}{H:Hp}{s:P_}{l b:R_}{xs ys zs:List V}
theorem Inv.lset{a its':F_}{n:Nat}{f:Array Value->Array Value}{t':Nat}(I:Inv X pins σ H s)(c:H l=some (.lst xs))
  (e:s.heap.get? l=some {cls:=.type "list",data:=.seq a.toArray n}) (g:f a.toArray=its'.toArray) (i:AV ys its') (j:ys.length<=sizeLine) :
  Inv X pins σ (upd H l (.lst ys)) {s with heap:=s.heap.update l (Obj.mapSeq f),toks:=t'}:=by
 have q:=PySem.IsL.update e f;rw[g]at q;refine I.write (x:=l) (e:=l) (by rw[c];exact trivial) (.inl Z) (λb' u d h=>(T6 s.heap (Obj.mapSeq f) (W8 d)).trans h) ⟨_,q⟩ ?_;exact⟨j,its',_,i,q⟩
theorem Inv.lnew{a:F_}{t':Nat}(I:Inv X pins σ H s)(c:AV ys a)(d:ys.length<=sizeLine) :
  Inv X pins σ (upd H s.heap.objs.size (.lst ys)) {s with heap:=s.heap.push {cls:=.type "list",data:=.seq a.toArray},toks:=t'} :=
 I.laid (λ_ _ q=>D0 _ q) (C9 _) ⟨d,a,0,c,F8 _ Z⟩
theorem Inv.fresh(I:Inv X pins σ H s):H s.heap.objs.size=none:=I.hok.fresh (C9 _)
theorem Inv.lstM(I:Inv X pins σ H s)(c:H l=some (.lst xs)):xs.length<=sizeLine/\∃(a:F_)(n:Nat),AV xs a/\xs.length=a.length/\s.heap.get? l=some {cls:=.type "list",data:=.seq a.toArray n}:=by
 obtain⟨z,a,n,r,e⟩:=I.hok l _ c;exact⟨z,a,n,r,r.length,e⟩
theorem VE{n:Nat}(h:n<=sizeLine):Builtin.List.listTooLong n=false:=by
 unfold Builtin.List.listTooLong;exact W3 A1
end
section
variable{X:Cx}
def SF:V->List V->Hp->VK->Prop:=λx vs H Q=>∃l xs y,x=.ref l/\vs=[y]/\H l=some (.lst xs)/\xs.length<sizeLine/\Q .non (upd H l (.lst (xs++[y])))
theorem Bd:MtM X "list.append" SF:=by
 intro c s σ H x vs v us Q I g f h;obtain⟨l,xs,y,rfl,rfl,b,j,q⟩:=h;cases g;obtain⟨u,rfl,d⟩:=f.one;obtain⟨z,a,n,r,i,e⟩:=I.lstM b;refine K6 F.slot_list_append ⟨_,e,Z⟩ F.entry_list_append (F.args_list_append_2 _ _) (PySem.list_append l a.toArray n u (by rw[J0];lia)) ⟨e,?_⟩;refine⟨.non,_,I.lset (its':=a++[u]) b e B0 (r.append (.cons d .nil)) ?_,Z,q⟩;rw[C6,N6];lia
def rCat:R2:=λx y H Q=>∃l b xs zs,x=.ref l/\y=.ref b/\H l=some (.lst xs)/\H b=some (.lst zs)/\xs.length+zs.length<=sizeLine/\∀p,H p=none->Q (.ref p) (upd H p (.lst (xs++zs)))
theorem LS:OpR X (binaryOp .Add) rCat:=by
 intro d s σ H x y v u Q I o p h;obtain⟨l,b,xs,C,rfl,rfl,j,i,w,q⟩:=h;cases o;cases p;obtain⟨z,c,n,r,t,e⟩:=I.lstM j;obtain⟨B,a,A,m,k,f⟩:=I.lstM i;refine PySem.P.add_list e f ?_ (by rw[J0,J0];lia);have g:c.toArray++a.toArray=(c++a).toArray:=by simp
 rw[g];exact⟨.ref _,_,I.lnew (t':=s.toks) (r.append m) (by rw[C6];lia),Z,q _ I.fresh⟩
def rRep:R2:=λx y H Q=>∃l k xs,x=.ref l/\y=.int k/\H l=some (.lst xs)/\-(2^63)<=k/\k<2^63/\xs.length*k.toNat<=sizeLine /\
 ∀p,H p=none->Q (.ref p) (upd H p (.lst (List.replicate k.toNat xs).flatten))
theorem len_rep{α:Type}(xs:List α)(k:Nat):(List.replicate k xs).flatten.length=k*xs.length:=by
 induction k with
 |zero=>simp
 |succ k a=>rw[Q7,P6,C6,a,T2,Q3]
theorem Vt:OpR X (binaryOp .Mult) rRep:=by
 intro w s σ H x y v u Q I G K h;obtain⟨l,k,xs,rfl,rfl,D,B,C,p,q⟩:=h;cases G;obtain⟨t,rfl⟩:=K;obtain⟨z,b,n,r,E,e⟩:=I.lstM D;have g:b.toArray.size*k.toNat<=sizeLine:=by rw[J0,<-E];exact p
 have d:¬b.toArray.size*k.toNat > (2^63-1)/8:=by
  have:(sizeLine:Nat)<=(2^63-1)/8:=by decide
  lia
 have f:¬(!Builtin.List.listFitsIndex k)=true:=by
  rw[fitsIndex_both B C];exact F4
 have c:¬Builtin.List.listTooLong (b.toArray.size*k.toNat)=true:=by
  rw[VE g];exact F4
 have i:List.foldl (λj o=>j++o) #[] (List.replicate (if b.toArray.isEmpty=true then 0 else k.toNat) b.toArray)=(List.replicate k.toNat b).flatten.toArray:=by
  have A:∀m:Nat,List.foldl (λj o=>j++o) #[] (List.replicate m b.toArray)=(List.replicate m b).flatten.toArray:=λm=>by
   have:=OK b m [];rw[T9]at this;exact this
  rw[A];cases b with
  |nil=>simp
  |cons a M=>rw[W4 B0]
 refine wpAny_binaryOp_repeat_ref (T:="list") (U:="int") A3 ⟨_,e,Z⟩ (λL=>typeIs_int L k t) noFill_list_mul F.fills_int_mul F.slot_int_rmul repeat_list F.slot_int_index.lookup
  (K6 F.slot_int_rmul (typeIs_int s k t) F.entry_int_rmul (F.args_int_rmul_2 _ _) (int___rmul___int_list k t l b.toArray n)
   ⟨e,Z,⟨_,e,Z⟩,K6 F.slot_list_mul ⟨_,e,Z⟩ F.entry_list_mul (F.args_list_mul_2 _ _) (AutoListH.list___mul___list_int_3 l b.toArray n k t f d c) ⟨e,?_⟩⟩)
 rw[i];exact⟨.ref _,_,I.lnew (t':=s.toks) (r.rep k.toNat) (by rw[len_rep,V5];exact p),Z,q _ I.fresh⟩
end
end L2
namespace Att
open PySem PySem.W PySem.Calls PyProof.Rows
theorem Mz{P:Params}{h:T_}:∀(c:I_)(vs:F_),WellAll P h vs (c.map WData.int)->IntsAre vs c:=by
 intro c;induction c with
 |nil =>
  intro vs w;rw[List.map_nil]at w;cases w;exact .nil
 |cons n c d =>
  intro vs w;rw[J1]at w;cases w with
  |cons a b =>
   cases a;exact .cons _ _ (d _ b)
theorem TK{l:OpenLaw}{n:Nat}(u:l.most=some n){P:Params}{h:T_}{args:List WData}{e:F_}
  (c:l.row.toRowW.claim.pre args=true) (m:WellAll P h e args) :
  ∃a vs b,e=[Value.ref a]/\args=[WData.list (b.map WData.int)]/\h.get? a=some {cls:=.type "list",data:=.seq vs.toArray}/\IntsAre vs b/\b.length<=n:=by
 have k:WShape.hasAll [] args [.list .int]=true:=(pre_splitW c).1;have o:l.pre.holds [] {args:=args}=true:=(pre_splitW c).2;obtain⟨d,r,rfl,p,s⟩:=hasAllW_cons k;obtain rfl:=hasAllW_nil s;obtain⟨xs,rfl,t⟩:=hasW_list p;obtain⟨b,rfl⟩:=items_int t;have g:b.length<=n:=by
  unfold OpenLaw.pre at o;have i:(WTm.not (.lt (.lit (.int (n:Int))) (.len (.arg 0)))).holds [] {args:=[.list (b.map .int)]}=true:=by
   have i:=(holds_andW o).1;rw[u]at i;exact i
  have j:=condW_of i (w_not (w_lt w_lit (w_len_list (w_arg Z))));rw[B8]at j;refine Nat.le_of_not_lt λq=>?_;have w:(n:Int)<((b.length:Nat):Int):=by lia
  first
   | (rw[W1 w]at j;exact absurd j A3)
   | (simp at j;lia)
 cases m with
 |cons x y =>
  cases y;cases x with
  |list v f=>exact⟨_,_,b,Z,Z,v,Mz b _ f,g⟩
theorem TM(l:OpenLaw)(args:List WData):l.row.toRowW.claim.post args (.bool true) args=true :=
 postW_of (r:=l.row.toRowW) (X:=(true==true))
  (show WShape.has [] (.bool true) .bool=true by first|rfl|decide|simp[WShape.has,WShape.arms,WShape.armsAll])
  (show(WTm.eq .res (.lit (.bool true))).value [] {args:=args,res:=some (.bool true),after:=args}=some (.bool (true==true))from w_eq_bool (w_res Z) w_lit) Z
theorem Ri{l:OpenLaw}{n:Nat}{q:N_}{c:K_}{C:(Str->Option Value)->Heap->Prop}{D:World->Heap->Prop}{d:DefRec}
  (S:l.most=some n) (x:d.params.defaults=[])
  (call:∀(w:Q_)(e b:P_)(s A:C_)(i:R_)(o:Obj)(B p g:S_)(a:R_)(vs:F_)(t:I_),
   Ground q c [] C w e s A b.heap->D w b.heap ->
   b.heap.get? i=some o->o.data=.func (docDef d.name d.params d.body d.scope B p g)->b.heap.CodeRec p d.name->s d.name=some (.ref i) ->
   b.heap.get? a=some {cls:=.type "list",data:=.seq vs.toArray}->IntsAre vs t->t.length<=n->b.gens=#[] ->
   codeAny (model l.prog w) callerA (.call (.ref i) ⟨[.ref a],[]⟩) (λr u=>r=.ok (.ret (.bool true))/\OldK b.heap u.heap/\u.os=b.os/\AllBare u.gens) b) :
  WalkO q c C D l.row.toRowW d [] (λf vs=>PySem.call f vs):=by
 intro w e b s A G Y i o B p g K kV T O v F y P E I as m H V z Q;obtain rfl:K=.none:=Dflts.none F x;obtain rfl:kV=.none:=Dflts.noKw F;obtain⟨a,vs,t,rfl,rfl,k,h,j⟩:=TK S m z;refine enter_call (codeAny_mono (call w e b s A i o B p g a vs t G Y T (fd_plain O) v y k h j P) λr u U=>?_);obtain⟨rfl,L,M,N⟩:=U;exact⟨.inl ⟨.bool true,.bool true,[],Z,λ_=>Z,.bool true,TM l _,λ_=>⟨List.Pairwise.nil,λ_ R=>(nomatch R)⟩⟩,L,M,N⟩
end Att
namespace L2
open PySem PySem.Spec PyProof.Rows
theorem Ou:∀{vs:F_}{a:I_},IntsAre vs a->AV (a.map V.int) vs
|_,_,.nil=>.nil
|_,_,.cons n t h=>.cons ⟨t,Z⟩ (Ou h)
def Only(H:Hp):Prop:=∀b,H b=none\/∃o xs,H b=some (.frz o (.lst xs))
theorem VN{P:N_}{w:Q_}{K:O_}{L mb:C_}{CX:CXT}{k:Nat}{S a:R_}{fd:E_}{x:Str}{sp:Sp}{c:P_}{vs:F_}{M:I_}
  (KX:K.In c.heap) (D:c.heap.Ns mainGlobals L) (g:c.heap.Ns builtinsNs mb) (U:∀x:Str,x≠"__name__" -> mb x=bootBuiltins x) (C:c.heap.NoLimit) (hg:c.gens=#[])
  (Q:c.heap.get? a=some {cls:=.type "list",data:=.seq vs.toArray}) (hi:IntsAre vs M) (hl:M.length<=sizeLine) (hr:Du k callerA)
  (F:∀i:Heap,K.In i->i.Ns mainGlobals L->AT P w K L i CX k S fd [x] sp) (t:∀(s:P_)(u:S_),BindsTo s fd ⟨[u],[]⟩ [(x,u)])
  (Y:∀H:Hp,Only H->SqL K H a (M.map V.int)->sp [.ref a] H (λv _=>v=.bl true) λ_ _ _=>False)
  (T:∀H e j,CX [] H c (λ_ _ _=>False) e j->False) :
  codeAny (model P w) callerA (.call (.ref S) ⟨[.ref a],[]⟩) (λr j=>r=.ok (.ret (.bool true))/\OldK c.heap j.heap/\j.os=c.os/\AllBare j.gens) c:=by
 have rv:=Ou hi;have I:=hi.length;have p:∀H:Hp,Only H->SqL K H a (M.map V.int)->HOk P w H c.heap->(∀b,H b≠none->b=a)->(H a≠none->K.lookup a=none) ->
   codeAny (model P w) callerA (.call (.ref S) ⟨[.ref a],[]⟩) (λr j=>r=.ok (.ret (.bool true))/\OldK c.heap j.heap/\j.os=c.os/\AllBare j.gens) c:=by
  intro H hO hS E hA hK;have f:∀{b:R_}{o:Obj},c.heap.get? b=some o->H b=none->(Qc c.heap H).get? b=some o:=λe n=>VV e n;have aa:∀{b:R_}{o:Obj}{A:Array DictEntry}{y:Nat},c.heap.get? b=some o->o.data=.dict A y->H b=none:=λ{b o A y} e d=>by
   cases q:H b with
   |none=>rfl
   |some u =>
    have R:b=a:=hA b (by rw[q];simp);subst R;rw[Q]at e;cases e;have d':Data.seq vs.toArray _=Data.dict A y:=d;cases d'
  have l:∀{b:R_}{m:C_},c.heap.Ns b m->(Qc c.heap H).Ns b m:=λ{b m} ⟨o,A,y,e,d,r⟩=>⟨o,A,y,f e (aa e d),d,r⟩
  have B:K.In (Qc c.heap H):=λb o e=>f (KX b o e) (by
   cases q:H b with
   |none=>rfl
   |some u =>
    have R:b=a:=hA b (by rw[q];simp);subst R;rw[hK (by rw[q];simp)]at e;cases e)
  have hM:Mod K L (Qc c.heap H):=⟨B,l D,⟨mb,l g,U⟩,let ⟨mc,h1,h2⟩:=C;⟨mc,l h1,h2⟩⟩
  have e0:Sc P w K L (Qc c.heap H) callerA [] c H:=⟨Z,hM,λb o e=>of_hidT e,Nat.le_of_eq (Um _ _),trivial,λb g=>absurd (show b∈([]:H_)from g) B0,E,.of_eq hg⟩
  refine codeAny_mono ((F _ B (l D)).run callerA [] c H ⟨[.ref a],[]⟩ [.ref a] [.ref a] _ _ hr e0 (t c (.ref a)) (.cons Z .nil) (Y H hO hS)) λr j h=>?_;cases r with
  |error e=>exact(T H e j h).elim
  |ok fl =>
   cases fl with
   |next=>exact False.elim h
   |brk=>exact False.elim h
   |cont=>exact False.elim h
   |ret u =>
    obtain⟨v,H',N,bare,un,G,r',q⟩:=h;have q':v=.bl true:=q;subst q';obtain rfl:u=Value.bool true:=r';refine⟨Z,OldK.of_keep λb o e=>?_,N,bare⟩;cases q:H b with
    |none=>exact un.keep b o e q (by intro z;exact absurd (show b∈([]:H_)from z) B0) B0
    |some u =>
     rcases hO b with z|⟨ob,xs,z⟩
     .rw[q]at z;cases z
     .have z2:=un.frzs b ob _ z;obtain⟨e1,_⟩:=E b _ z;obtain⟨e2,_⟩:=G b _ z2;rw[e]at e1;cases e1;exact e2
 cases X:K.lookup a with
 |some o =>
  have e:=KX a o X;rw[Q]at e;cases e;refine p (λ_=>none) (λ_=>.inl Z) (.inr ⟨_,vs.toArray,_,X,Z,Z,Z,by rw[J0,I];exact hl,by simpa using rv⟩) (λb u z=>by have O:(none:Option HO)=some u:=z;cases O) (λb z=>absurd Z z) λz=>absurd Z z
 |none =>
  refine p (λb=>if b=a then some (.frz {cls:=.type "list",data:=.seq vs.toArray} (.lst (M.map V.int)))else none) (λb=>?_) (.inl (.inr ⟨{cls:=.type "list",data:=.seq vs.toArray},W9 Z⟩)) (λb u z=>?_) (λb z=>?_) λ_=>X
  .by_cases g:b=a
   .exact .inr ⟨_,_,W9 g⟩
   .exact .inl (W4 g)
  .by_cases g:b=a
   .have O:=(W9 g).symm.trans z;cases O;subst g;exact⟨Q,by rw[B8];exact hl,vs,_,rv,Q⟩
   .have O:=(W4 g).symm.trans z;cases O
  .by_cases g:b=a
   .exact g
   .exact absurd (W4 g) z
theorem Sd{l:W.OpenLaw}{n k:Nat}{q:N_}{m:K_}{P:(Str->Option Value)->Heap->Prop}{N:World->Heap->Prop}{d:DefRec}{K:Params->W.Frag}{CX:World->CXT}{sp:World->Sp}{x:Str}
  (hn:l.most=some n) (E:n<=sizeLine) (C:d.params.defaults=[]) (hr:Du k callerA)
  (X:∀(w:Q_)(h:T_),N w h->(K w.params).In h)
  (F:∀(w:Q_)(p:C_)(y:R_)(h:T_),(K w.params).In h->h.Ns mainGlobals p->p d.name=some (.ref y) ->
   ∃A:FuncData,(∀(s:P_)(u:S_),BindsTo s A ⟨[u],[]⟩ [(x,u)]) /\
    ∀c:Heap,(K w.params).In c->c.Ns mainGlobals p->AT l.prog w (K w.params) p c (CX w) k y A [x] (sp w))
  (I:∀(w:Q_)(H:Hp)(a:R_)(z:I_),z.length<=n->Only H->SqL (K w.params) H a (z.map V.int)->sp w [.ref a] H (λv _=>v=.bl true) λ_ _ _=>False)
  (B:∀(w:Q_)(H:Hp)(s:P_)(e:S_)(L:P_),CX w [] H s (λ_ _ _=>False) e L->False) :
  W.WalkO q m P N l.row.toRowW d [] (λf vs=>PySem.call f vs):=by
 refine Att.Ri hn C λw O t p mb y o pm cd Q a vs z G Y ho hd aa D r j i hg=>?_;have M:=X w _ Y;obtain⟨A,hb,R⟩:=F w p y _ M G.T.g D;exact VN M G.T.g G.T.b G.T.builtins G.T.nolimit hg r j (D4 i E) hr R hb (λH S U=>I w H a z i S U) λH e L=>B w H t e L
end L2
namespace L2
open PySem PySem.Spec PyProof.Rows
noncomputable def Bf(s:Stmt)(j:Nat):Stmt:=match s with
|.ClassDef _ _ _ body _ _ _ _ _ _ _=>body.getD j (.Pass ⟨0,0,0,0⟩)
|_=>.Pass ⟨0,0,0,0⟩
noncomputable def Lo(s:Stmt):Arguments:=match s with
|.FunctionDef _ a _ _ _ _ _ _ _ _=>a
|_=>{posonlyargs:=[],args:=[],vararg:=none,kwonlyargs:=[],kw_defaults:=[],kwarg:=none,defaults:=[]}
noncomputable def Jf(s:Stmt):List Stmt:=match s with
|.FunctionDef _ _ b _ _ _ _ _ _ _=>b
|_=>[]
noncomputable def Ai(s:Stmt):Scope:=match s with
|.FunctionDef _ _ _ _ _ _ sc _ _ _=>sc
|_=>{kind:=.function,names:=[],isGenerator:=false,isCoroutine:=false}
abbrev CX0:CXT:=λ_ _ _ _ _ _=>False
abbrev E0:XK:=λ_ _ _=>False
theorem Ao{X:Cx}:FJ CX0 X E0:=λ_ _ _ _ _ _ _ h=>h.elim
structure Fun(K:O_)(x qual:Str)(st:Stmt)(f:R_)(fd:E_):Prop where
ex:∃(oc:S_)(od:Option Addr)(kV doc pm:S_)(an:Option Addr)(cdv ct:S_)(osl:Array (Option Value)),
 fd=W.fnOf x qual (Lo st) (Jf st) (Ai st) .none kV doc pm an cdv ct/\K.lookup f=some ⟨oc,od,.func fd,osl⟩/\W.codeIn K cdv qual=true
kp:keepIn K (.ref f)=true
section
variable{P:N_}{w:Q_}{K:O_}{mg:C_}{base:T_}
theorem Fun.ok{x b:Str}{e:Stmt}{f:R_}{j:E_}{N ps:K_}{k:Nat}{sp:Sp}(F:Fun K x b e f j)(S:Ay N ps (Ai e))(len:∀vs H Q E,sp vs H Q E->vs.length=ps.length)
  (d:∀(c:S_)(A:Around)(a:List Env)(s:P_)(H:Hp)(vs:List V)(Q:VK)(E:XK),Du k (A.deeper (envOfC b (Ai e) s.heap.objs.size f c))->sp vs H Q E ->
   ∃t,PSs (Uw CX0 P w K mg base N b (Ai e) f c A a s H E).nox (Jf e) t/\t {nx:=λ_ l=>Q .non l,rt:=Q} (Mj N vs) H):AT P w K mg base CX0 (k+1) f j ps sp:=by
 obtain⟨v,y,kV,m,z,r,c,u,p,rfl,o,g⟩:=F.ex;refine fn_of o g S len λA a s H vs Q E n i=>?_;obtain⟨t,h,q⟩:=d c A a s H vs Q E n i;exact⟨t,h.nox,q⟩
theorem Fun.binds{x a:Str}{d:Stmt}{f:R_}{j:E_}{ps:K_}(F:Fun K x a d f j)
  (h:∀(kV c i:S_)(e:Option Addr)(b g:S_)(us:F_),us.length=ps.length->bindArgs (W.fnOf x a (Lo d) (Jf d) (Ai d) .none kV c i e b g) ⟨us,[]⟩=pure (ps.zip us)):DB K j ps []:=by
 obtain⟨n,o,kV,c,i,e,b,g,l,rfl,m,k⟩:=F.ex;exact .all (h kV c i e b g)
theorem RV {x a:Str} {e:Stmt} {f:R_} {m:S_} {n h:Option Addr} {g:Array (Option Value)} {kV d j b i:S_} (l:K.lookup f=some ⟨m,n,.func (W.fnOf x a (Lo e) (Jf e) (Ai e) .none kV d j h b i),g⟩)
 (c:W.codeIn K b a=true) (k:keepIn K (.ref f)=true):Fun K x a e f (W.fnOf x a (Lo e) (Jf e) (Ai e) .none kV d j h b i):=⟨⟨m,n,kV,d,j,h,b,i,g,Z,l,c⟩,k⟩
end
theorem DY{A:Around}{k:Nat}(a:Du k A):A.units+1<cLine:=F3 (Nat.add_le_add_left (by decide:1<=64) _) a.units
section
variable{X:Cx}
theorem pv(i:Nat){x:Str}{b:Pos}(c:X.N[i]?=some x:=by rfl)(e:Vis X.env.scope x:=by first|exact Or.inl rfl|exact Or.inr O_9|exact Or.inr (Or.inr rfl))(d:(x==("__debug__" : Str))=false:=by decide)
 (a:(x==("__classdict__" : Str))=false:=by decide):PE X (.Name x b) (GD i):=pe_var c e d a
end
theorem Bl{A B:Prop}(h:B):if false=true then A else B:=by
 rw[W4 F4];exact h
theorem CT{A B:Prop}(h:A):if true=true then A else B:=by
 rw[W9 rfl];exact h
theorem FG{c A B:Prop}[Decidable c](a:c->A)(b:¬c->B):if c then A else B:=by
 by_cases h:c
 .rw[W9 h];exact a h
 .rw[W4 h];exact b h
theorem SX{c A B:Prop}[Decidable c](a:c)(h:B):if(!decide c)=true then A else B:=by
 rw[W1 a];exact Bl h
def Az(H H':Hp):Prop:=∀b o,H b=some o->H' b=some o
theorem Az.refl(H:Hp):Az H H:=λ_ _ h=>h
theorem Az.trans{H d e:Hp}(a:Az H d)(b:Az d e):Az H e:=λc o h=>b c o (a c o h)
theorem Az.seq{K:O_}{H b:Hp}{a:R_}{xs:List V}(e:Az H b)(h:SqL K H a xs):SqL K b a xs:=by
 rcases h with (h|⟨o,h⟩)|h
 .exact .inl (.inl (e _ _ h))
 .exact .inl (.inr ⟨o,e _ _ h⟩)
 .exact .inr h
def Tw(a D:R_)(h:T_):Prop:=∃o,h.get? a=some o/\o.cls=.ref D/\∃vs,o.data=.fields vs/\vs[2]?=some .none
theorem Tw.not{a D:R_}{h:T_}(x:Tw a D h):∃o,h.get? a=some o/\o.cls=.ref D/\notCls o=true:=by
 obtain⟨o,e,c,vs,d,_⟩:=x;exact⟨o,e,c,by unfold notCls;rw[d]⟩
noncomputable def isExc(a D:R_):HO:=.ext (Tw a D)
theorem Inv.track{X:Cx}{d:A_}{σ:St}{H:Hp}{s:P_}{a:R_}{o:HO}(I:Inv X d σ H s)(i:H a=none)(g:X.s₀.heap.get? a=none)(l:X.base.get? a=none)(h:X.env.locals≠a)(j:∀x c,X.env.cells.lookup x=some c->c≠a)
  (k:∀p,p∈X.pn++d->p.1≠a) (t:∀b,b∈X.fs->b≠a) (new:Ca X.prog X.w (upd H a o) s.heap a o):Inv X d σ (upd H a o) s:=by
 have f:∀b u,H b=some u->b≠a:=λb u q z=>by rw[z,i]at q;cases q
 refine⟨I.ok,I.os,I.bare,⟨I.base.keep,I.base.slot,λb u q n x=>?_,I.base.there,λb xs q=>?_,λb u v q=>?_,λb ps q=>?_⟩,I.loc,I.cell,?_,λx c q=>?_,λp z=>?_,λb u q=>?_,I.len⟩
 .rw[Ar (λz=>by rw[z,g]at q;cases q)];exact I.base.free b u q n x
 .have z:=I.base.tups b xs q;rw[Ar (f _ _ z)];exact z
 .have z:=I.base.frzs b u v q;rw[Ar (f _ _ z)];exact z
 .obtain⟨m,z⟩:=I.base.tbls b ps q;exact⟨m,by rw[Ar (f _ _ z)];exact z⟩
 .rw[Ar h];exact I.free
 .rw[Ar (j x c q)];exact I.freeC x c q
 .obtain⟨e,n,r⟩:=I.pin p z;exact⟨e,by rw[Ar (k p z)];exact n,r⟩
 .by_cases z:b=a
  .subst z;rw[Ag]at q;cases q;exact new
  .rw[Ar z]at q;exact(I.hok b u q).stay (λc v _ r=>r) (λc r=>by rw[Ar (f _ _ r)];exact r) λc xs r=>by rw[Ar (f _ _ r)];exact r
section
variable{X:Cx}{tg:Expr}
noncomputable def Its(x:Str):It:=⟨λi _=>i<x.cps.size,λi H v H'=>H'=H/\∃c,x.cps[i]?=some c/\v=.str ⟨#[c]⟩,λi _=>i=x.cps.size⟩
theorem Qq{P:N_}{w:Q_}{K:O_}(it:R_)(x:Str)(t:Tok)(T:String)(S:["enumerate","zip","dict_itemiterator","dict_reverseitemiterator","odict_iterator","itertools.zip_longest","itertools.pairwise"].contains T=false)
  (W:∀A:Around,A.handled=none->Walks P w A it [it] [it] x.cps.size (SignAt x) (λi h=>h.IsStrIter it T x t i))
  (g:∀(A:Around)(i:Nat)(s:P_)(Q:B_)(E:B_),s.heap.IsStrIter it T x t i->Q (.ref it) s->wpAny (model P w) A (pyIter (.ref it)) Q E s):Qm P w K tg (Its x) [it] it (λi h=>h.IsStrIter it T x t i) where
 mem:=by simp
 obj:=λi h j b f=>by
  have e:b=it:=by simpa using f
  subst e;obtain⟨o,e,c,d⟩:=j;exact⟨o,e,λv z=>by rw[d]at z;cases z⟩
 keep:=λi h h' ⟨o,e,r⟩ k=>⟨o,k it B0 o e,r⟩
 item:=by
  intro X D M C F i a s σ H E I m j L;subst D M C;obtain⟨n,p,R,q,y,B⟩:=m it B0;refine(W X.A (I.ok.hd F)).item i s _ _ L j λv h' tk U l N=>?_;obtain⟨c,u,G,rfl⟩:=U;have O:Inv X a σ H {s with heap:=h',toks:=tk}:=I.turned (λb o f e=>N b o (by simpa using f) e) n p q y B;obtain⟨o,e,V,Y⟩:=id l;exact⟨_,Z,SY (s:={s with heap:=h',toks:=tk}) e V Y S ⟨.str ⟨#[c]⟩,H,O,⟨u,Z⟩,⟨Z,c,G,Z⟩,l,λb f=>(m b f).1⟩⟩
 done:=by
  intro X D M C F i a s σ H E I m j L;subst D M C;obtain⟨n,p,R,q,y,B⟩:=m it B0;have z:i=x.cps.size:=L;subst z;exact(W X.A (I.ok.hd F)).done s _ _ j λh' tk N=>⟨Z,I.turned (λb o f e=>N b o (by simpa using f) e) n p q y B⟩
 self:=g
def iStr(tl:TE):TI:=fun σ H R=>tl σ H λv H1=>∃x,v=.str x/\R (Its x) H1
theorem Vl{l:Expr}{k:TE}(p:PE X l k):PI X tg l (iStr k):=by
 intro a s σ H R I h;refine thn (p a s σ H _ I h) λv c m=>?_;obtain⟨y,f,d,u,r⟩:=m;obtain⟨x,rfl,q⟩:=r;obtain⟨t,rfl⟩:=u;have fp:∀b,b∈[c.heap.objs.size]->GJ X a f b:=λb n=>by
  have e:b=c.heap.objs.size:=by simpa using n
  subst e;exact d.fpOk (C9 _) (d.hok.fresh (C9 _))
 cases j:x.cps.all (· < 128)with
 |true =>
  refine wpAny_pyIter_ascii j ?_;refine⟨c.heap.objs.size,[c.heap.objs.size],_,_,f,Z,d.kept (t':=c.toks) λb o e=>D0 _ e,Qq _ x t "str_ascii_iterator" A3 (λA g=>Walks.strAscii g _ x t) (λ_ _ _ _ _ i h=>wpAny_pyIter_striter_ascii i h),⟨_,F8 _ Z,Z,Z⟩,fp,q⟩
 |false =>
  refine wpAny_pyIter_wide j ?_;refine⟨c.heap.objs.size,[c.heap.objs.size],_,_,f,Z,d.kept (t':=c.toks) λb o e=>D0 _ e,Qq _ x t "str_iterator" A3 (λA g=>Walks.strWide g _ x t) (λ_ _ _ _ _ i h=>wpAny_pyIter_striter_wide i h),⟨_,F8 _ Z,Z,Z⟩,fp,q⟩
theorem for_str{x:Str}{g:TG}{k:TS}{D:JJ}{σ:St}{H:Hp}(b:Nat->St->Hp->Prop)(l:b 0 σ H)
  (q:∀i c σ H,x.cps[i]?=some c->b i σ H->g (.str ⟨#[c]⟩) σ H fun d h=>k {D with nx:=b (i+1),ct:=b (i+1),bk:=D.nx} d h) (o:∀σ H,b x.cps.size σ H->D.nx σ H) :
  ∃W:Nat->Nat->St->Hp->Prop,(∃m,W 0 m σ H)/\∀i m σ H,W i m σ H ->
   ((Its x).stop i H/\D.nx σ H)\/((Its x).go i H/\∃N:St->Hp->Prop,(∀σ' a,N σ' a->∃j,j<m/\W (i+1) j σ' a)/\∀v a,(Its x).yld i H v a->g v σ a fun d h=>k {D with nx:=N,ct:=N,bk:=D.nx} d h):=by
 refine⟨λi m σ H=>m=x.cps.size-i/\i<=x.cps.size/\b i σ H,⟨x.cps.size,by simp,L5 _,l⟩,?_⟩;rintro i m σ H ⟨rfl,s,p⟩;by_cases f:i<x.cps.size
 .refine .inr ⟨f,b (i+1),fun σ' a r=>⟨x.cps.size-(i+1),by lia,Z,f,r⟩,λv a y=>?_⟩;obtain⟨e,c,n,rfl⟩:=y;subst e;exact q i c σ _ n p
 .have e:i=x.cps.size:=by lia
  subst e;exact .inl ⟨Z,o σ H p⟩
theorem GB:FN X (.type "int") (λxs H Q=>∃x n,xs=[.str x]/\PySem.intText? x=some n/\x.length<=640/\Q (.int n) H):=by
 intro a s σ H xs us Q I r h;obtain⟨x,n,rfl,c,b,q⟩:=h;cases r with
 |cons d e =>
  cases e;obtain⟨t,rfl⟩:=d;exact W.KIN.call_text c b ⟨.int n,H,I.tok _,⟨_,Z⟩,q⟩
theorem Rh(F:X.calm=true):FN X (.builtin "all") (λxs H Q=>∃(p:R_)(bs:List Bool),xs=[.ref p]/\SqL X.K H p (bs.map V.bl)/\Q (.bl (bs.all id)) H):=by
 intro d s σ H xs us Q I r h;obtain⟨p,bs,rfl,G,q⟩:=h;cases r with
 |cons M N =>
  cases N;cases(show _=Value.ref p from M);obtain⟨a,m,pl,S⟩:=I.list G;have l:p≠s.heap.objs.size:=L9 (by obtain⟨o,n,e,_⟩:=pl;exact F5 e);refine call_all_walk (A0e pl.isList ?_);have f:∀(i:Nat) v,a[i]?=some v->∃b,bs[i]?=some b/\v=.bool b:=λi v e=>by
   cases g:bs[i]? with
   |none =>
    have:a[i]?=none:=m.none_of (by rw[C7,g];rfl);rw[e]at this;cases this
   |some b =>
    obtain⟨u,t,O⟩:=m.get (i:=i) (x:=V.bl b) (by rw[C7,g];rfl);rw[e]at t;cases t;exact⟨b,Z,O⟩
  refine⟨s.heap.objs.size,_,_,_,_,_,λi=>bs.getD i true,Z,Walks.list (A:=X.A.in1) (I.ok.hd F) s.heap.objs.size p l a.toArray,⟨⟨_,F8 _ Z,Z,Z⟩,?_⟩,?_,?_⟩
  .exact pl.isList.at λo e=>D0 _ e
  .intro i v P y R D j;obtain⟨b,g,rfl⟩:=f i v (by simpa using D);have B:bs.getD i true=b:=by rw[L8,g];rfl
   have j:y (bs.getD i true) P:=j;rw[B]at j;exact Z3 j
  .intro h' tk L;have w:Inv X d σ H {s with heap:=h',toks:=tk}:=I.kept λb o e=>L b o (by intro z;exact L9 (F5 e) (by simpa using z)) (D0 _ e);have len:a.toArray.size=bs.length:=by rw[J0,<-m.length,B8]
   have C:(List.range a.toArray.size).all (λi=>bs.getD i true)=bs.all id:=by
    rw[len,P5,P2,P2];constructor
    .intro z b E;obtain⟨i,k,e⟩:=List.mem_iff_getElem.mp E;have:=z i (J8.mpr k);rw[L8,F0 k,e]at this;exact this
    .intro z i k;have c:=J8.mp k;rw[L8,F0 c];exact z _ (List.getElem_mem c)
   rw[C];exact⟨.bl _,H,w,Z,q⟩
end
structure WG(K:O_)(D:R_):Prop where
hd:hasDictIn K D=true
ga:findIn K (.ref D) "__getattribute__" = some (some (.builtin "BaseException.__getattribute__"))
gt:findIn K (.ref D) "__getattr__" = some none
cl:findIn K (.ref D) "__class__" = some (some (.builtin "object.__class__"))
sp:specialIn K (.builtin "object.__class__") "__get__" = some (some (.builtin "getset_descriptor.__get__"))
tk:takesIn K (.builtin "object.__class__")=some true
mo:mroIn K D (.type "object")=some true
mb:mroIn K D (.type "BaseException")=some true
section
variable{K:O_}{prog:N_}{w:Q_}{A:Around}{E:B_}{s:P_}{a D:R_}{o:Obj}
open PySem.W Builtin Builtin.ObjectAttr Builtin.Getset_descriptor
theorem Wc{M:Model}{h:T_}(X:K.In h)(f:WG K D):Looks M h (find (.ref a) (.ref D) "__class__") (.bind (.builtin "getset_descriptor.__get__") (.builtin "object.__class__")) :=
 (looks_findIn X f.cl).andThen ((looks_specialIn X f.sp).andThen ((show Looks M h (dataDescriptor? (some (.builtin "object.__class__")) (some (.builtin "getset_descriptor.__get__"))) (some (.builtin "getset_descriptor.__get__",.builtin "object.__class__"))from(looks_takesIn X f.tk).andThen .now).andThen (Looks.tag .now)))
theorem exc_get{R:Result->Shared->Prop}{i:S_}(X:K.In s.heap)(f:WG K D)(c:s.heap.get? a=some o)(b:o.cls=.ref D)(e:R (.ok (.ret (.ref D))) s) :
  codeAny (model prog w) A (.call (.builtin "getset_descriptor.__get__") ⟨[.builtin "object.__class__",.ref a,i],[]⟩) R s:=by
 obtain⟨h,g,d,t,l⟩:=s;have j:Looks (model prog w) h (typeOf (.ref a)) (.ref D):=b▸(Looks.ld c).andThen .now;have k:=looks_mroIn (M:=model prog w) X f.mo;refine codeAny_call_builtin KF.slot_gs.plain KF.entry_gs (KF.slot_gs.check _ _ _ _ _ _ _ _ KF.type_class (KF.args_gs _ _ _) ?_);unfold Builtin.«getset_descriptor.__get__» descrGet;rw[dga_obj];refine W0 (Y6 ?_);unfold descrGetter descrCheckInstance descrNameAndClass isInstance;simp only[KF.owner_class]
 repeat lk
 refine⟨Code.quiet_builtin _ A0,codeAny_builtin KF.entry_class ?_⟩;unfold Builtin.«object.__class__» shownTypeOf
 repeat lk
 exact e
theorem Us{Q:Option Value->Shared->Prop}(X:K.In s.heap)(f:WG K D)(j:s.heap.get? a=some o)(i:o.cls=.ref D)(q:Q (some (.ref D)) {s with toks:=s.toks+1}) :
  wpAny (model prog w) A (getAttr? (.ref a) "__class__") Q E s:=by
 obtain⟨h,g,d,t,u⟩:=s;have e:Looks (model prog w) h (typeOf (.ref a)) (.ref D):=i▸(Looks.ld j).andThen .now;have k:=looks_findIn (M:=model prog w) X f.ga;have l:=looks_findIn (M:=model prog w) X f.gt;have m:=Wc (M:=model prog w) (a:=a) X f;have n:Looks (model prog w) h (isInstance (.ref a) (.type "BaseException")) true:=e.andThen (looks_mroIn X f.mb);unfold getAttr? getAttrBy? getAttrBy;refine W0 (wpAny_mkText (W0 (A1h (A0f (W0 (e.at (W0 (k.at ?_))))))));dsimp only;have r:(Value.builtin "BaseException.__getattribute__" == Value.builtin "object.__getattribute__")=false:=by decide +kernel
 rw[W4 (by rw[r,Bool.and_false];exact F4)];unfold getAttrByItsOwn hookBefore;rw[W9 (by rfl)];refine W0 (l.at ?_);refine W0 (A1h (A0f ?_));unfold callGetattribute;rw[W4 A3];unfold boundAndCalled;refine W0 (wpAny_of_eq (PySem.F.excAttr_ValueError.ga.bind (.ref a)) ?_);dsimp only;refine wpAny_call (codeAny_call_builtin PySem.F.excAttr_ValueError.ga.plain PySem.F.entry_bexc_ga ?_);have p:builtinKind "BaseException.__getattribute__" = some .slot:=by decide +kernel
 have c:splitId "BaseException.__getattribute__" = some ("BaseException","__getattribute__"):=by decide +kernel
 have b:=PySem.F.args_bexc_ga (.ref a) (.str "__class__" t);simp only[checkBuiltinCall,p,c];refine W0 (n.at ?_);rw[W4 A3];refine wpAny_of_eq (a:=()) b ?_;unfold Builtin.«object.__getattribute__»;dsimp only at m
 repeat ((fail_if_success (with_reducible show wpAny _ _ (call _ _) _ _ _));lk)
 refine wpAny_call (exc_get (s:=⟨h,g,d,t+1,u⟩) X f j i ?_);dsimp only
 repeat lk
 exact q
end
inductive TyX(K:O_)(H:Hp):V->Value->Prop where
|of {x:V} {t:S_} (h:Mg K H x t):TyX K H x t
|exc {a D:R_} (e:H a=some (isExc a D)) (f:WG K D):TyX K H (.ref a) (.ref D)
theorem VO{K:O_}{a D:R_}(f:WG K D):W.KitX K (.ref a) (.ref D) (λh=>∃o,h.get? a=some o/\o.cls=.ref D/\notCls o=true) where
 ty:=λM h X ⟨o,e,c,_⟩=>c▸(W.Looks.ld e).andThen .now
 it:=λM h X _=>by
  obtain⟨m,b,_⟩:=any_some f.hd;unfold clsIn at b;split at b
  .rename_i l d' d j g;intro s u t v k q;unfold isType loadHead;exact W0 (wpAny_loadPart (k _ _ (X _ _ g)) (Y6 q))
  .cases b
 ne:=λh r dd p n w X i=>by
  obtain⟨m,b,_⟩:=any_some f.hd;refine V9.mpr λq=>?_;have e:D=r:=Value.ref.inj (beq_iff_eq.mp q);subst e;unfold clsIn at b;split at b
  .rename_i l d' d j g;have z:=(X _ _ g).symm.trans i;cases z
  .cases b
 ca:=λX ⟨o,e,c,_⟩ k=>Us X f e c k
noncomputable def clsV:V->Option Value
|.ty n=>some (.type n)
|.ref C=>some (.ref C)
|_=>none
theorem Dk{X:Cx}:FN X (.builtin "isinstance") (λxs H Q=>∃x c d t b,xs=[x,c]/\clsV c=some d/\TyX X.K H x t/\kitOne X.K t d=some b/\Q (.bl b) H):=by
 intro j s σ H xs us Q I r h;obtain⟨x,c,d,t,b,rfl,g,ty,i,q⟩:=h;cases r with
 |@cons _ u _ _ l y =>
  cases y with
  |@cons _ v _ _ k o =>
   cases o;have m:v=d:=by
    cases c with
    |ty n=>cases g;exact k
    |ref C=>cases g;exact k
    |_=>cases g
   subst m;cases ty with
   |of ty=>exact Uk I l ty i λtk=>⟨.bl b,H,I.tok tk,Z,q⟩
   |@exc a D e f =>
    cases(show u=Value.ref a from l);obtain⟨p,_,_⟩:=(show Ca X.prog X.w H s.heap a (isExc a D)from I.hok a _ e)
    exact Z4 (VO f) I.kIn (Tw.not p) i (λz=>nomatch z) λtk=>⟨.bl b,H,I.tok tk,Z,q⟩
noncomputable def Gz(env:Env)(a:List (Str×Addr))(x:Str×NameKind):List (Str×Addr):=if(x.2==NameKind.free)=true then(x.1,(env.cells.lookup x.1).getD 0)::a else a
noncomputable def RY(env:Env)(l:List (Str×NameKind)):List (Str×Addr):=l.foldl (Gz env) []
theorem RW{α β:Type}{l:List α}{f:α->β->Sem (ForInStep β)}{g:β->α->β}(h:∀x∈l,∀b,f x b=pure (.yield (g b x))):∀b,forIn l b f=pure (l.foldl g b):=by
 induction l with
 |nil=>intro b;rfl
 |cons x l c =>
  intro b;rw[List.forIn_cons,h x D8,pure_bind];exact c (λy a=>h y (D9 _ a)) _
theorem NS{d:Scope}{b:Env}(h:∀y∈d.names,y.2=.free->∃c,b.cells.lookup y.1=some c):closureFor d b=pure (RY b d.names):=by
 simp only[closureFor];rw[RW (g:=Gz b) (λx l c=>by
  obtain⟨n,k⟩:=x;by_cases i:k=.free
  .subst i;obtain⟨a,f⟩:=h _ l rfl;have e:cellOf b n=pure a:=by unfold cellOf;rw[show b.cells.lookup n=some a from f]
   simp only[Gz,beq_self_eq_true,A1a,e,show b.cells.lookup n=some a from f,Option.getD_some];rfl
  .have j:(k==NameKind.free)=false:=by simpa using i
   simp only[Gz,j,Bool.false_eq_true,if_false])]
 rfl
theorem OO(b:Env){y:Str}{c:R_}:∀(l:List (Str×NameKind))(a:List (Str×Addr)),(l.foldl (Gz b) a).lookup y=some c->a.lookup y=some c\/((y,NameKind.free)∈l/\c=(b.cells.lookup y).getD 0)
|[],a,h=>.inl h
| (n,k)::r,a,h=>by
 rw[R9]at h;rcases OO b r _ h with z|⟨z,e⟩
 .unfold Gz at z;split at z
  .rename_i g;have d:k=.free:=by simpa using g
   rw[O5]at z;split at z
   .rename_i i;have f:y=n:=by simpa using i
    subst f d;exact .inr ⟨D8,(Y8 z).symm⟩
   .exact .inl z
  .exact .inl z
 .exact .inr ⟨D9 _ z,e⟩
theorem Re(b:Env){y:Str}:∀(l:List (Str×NameKind))(a:List (Str×Addr)),(∃c,a.lookup y=some c)->∃c,(l.foldl (Gz b) a).lookup y=some c
|[],_,h=>h
| (n,k)::r,a,h=>by
 rw[R9];refine Re b r _ ?_;unfold Gz;split
 .rw[O5];split
  .exact⟨_,Z⟩
  .exact h
 .exact h
theorem RX(b:Env){y:Str}:∀(l:List (Str×NameKind))(a:List (Str×Addr)),(y,NameKind.free)∈l->∃c,(l.foldl (Gz b) a).lookup y=some c
|[],_,h=>by simp at h
| (n,k)::r,a,h=>by
 rw[R9];rcases D1.mp h with e|h
 .cases e;refine Re b r _ ⟨(b.cells.lookup y).getD 0,?_⟩;unfold Gz;simp only[beq_self_eq_true,A1a,O5]
 .exact RX b r _ h
theorem Nl{a:Env}{y:Str}:∀{b:List (Str×NameKind)},(∀z∈b,z.2≠.cell) ->
 ((b.map λ(n,k)=>if(k==NameKind.free && a.scope.kind==.function && a.kindOf n==some .cell)then(n,NameKind.cell)else(n,k)).lookup y=some .cell \/
  (b.map λ(n,k)=>if(k==NameKind.free && a.scope.kind==.function && a.kindOf n==some .cell)then(n,NameKind.cell)else(n,k)).lookup y=some .free)->(y,NameKind.free)∈b
|[],_,h=>by simp at h
| (n,k)::r,hc,h=>by
 have e:=@Nl a y r (λz g=>hc z (D9 _ g));have h':List.lookup y ((if(k==NameKind.free && a.scope.kind==.function && a.kindOf n==some .cell)=true then(n,NameKind.cell)else(n,k))::(r.map λ(n,k)=>if(k==NameKind.free && a.scope.kind==.function && a.kindOf n==some .cell)then(n,NameKind.cell)else(n,k)))=some .cell \/
  List.lookup y ((if(k==NameKind.free && a.scope.kind==.function && a.kindOf n==some .cell)=true then(n,NameKind.cell)else(n,k))::(r.map λ(n,k)=>if(k==NameKind.free && a.scope.kind==.function && a.kindOf n==some .cell)then(n,NameKind.cell)else(n,k)))=some .free:=h
 clear h;by_cases d:(k==NameKind.free && a.scope.kind==.function && a.kindOf n==some .cell)=true
 .rw[W9 d]at h';have f:k=.free:=by
   simp only[Q5,A1f]at d;exact d.1.1
  simp only[O5]at h';cases c:y==n with
  |true =>
   have:y=n:=by simpa using c
   subst this f;exact D8
  |false =>
   rw[c]at h';exact D9 _ (e h')
 .rw[W4 d]at h';simp only[O5]at h';cases c:y==n with
  |true =>
   rw[c]at h';have:y=n:=by simpa using c
   subst this;rcases h' with z|z
   .exact absurd (Y8 z) (hc (y,k) D8)
   .cases Y8 z;exact D8
  |false =>
   rw[c]at h';exact D9 _ (e h')
theorem JT{a:Env}{y:Str}:∀{b:List (Str×NameKind)},b.lookup y=some .free ->
 ((b.map λ(n,k)=>if(k==NameKind.free && a.scope.kind==.function && a.kindOf n==some .cell)then(n,NameKind.cell)else(n,k)).lookup y=some .cell \/
  (b.map λ(n,k)=>if(k==NameKind.free && a.scope.kind==.function && a.kindOf n==some .cell)then(n,NameKind.cell)else(n,k)).lookup y=some .free)
|[],h=>by simp at h
| (n,k)::r,h=>by
 have e:=@JT a y r;show List.lookup y ((if(k==NameKind.free && a.scope.kind==.function && a.kindOf n==some .cell)=true then(n,NameKind.cell)else(n,k))::(r.map λ(n,k)=>if(k==NameKind.free && a.scope.kind==.function && a.kindOf n==some .cell)then(n,NameKind.cell)else(n,k)))=some .cell \/
  List.lookup y ((if(k==NameKind.free && a.scope.kind==.function && a.kindOf n==some .cell)=true then(n,NameKind.cell)else(n,k))::(r.map λ(n,k)=>if(k==NameKind.free && a.scope.kind==.function && a.kindOf n==some .cell)then(n,NameKind.cell)else(n,k)))=some .free
 rw[O5]at h;by_cases d:(k==NameKind.free && a.scope.kind==.function && a.kindOf n==some .cell)=true
 .rw[W9 d];simp only[O5];cases c:y==n with
  |true=>exact .inl Z
  |false=>rw[c]at h;exact e h
 .rw[W4 d];simp only[O5];cases c:y==n with
  |true=>rw[c]at h;exact .inr h
  |false=>rw[c]at h;exact e h
section
variable{prog:N_}{w:Q_}{A:Around}{R:Result->Shared->Prop}{s:P_}
noncomputable abbrev Se(ifs:List Expr)(env:Env):Sem Bool:=forIn ifs true λc r=>if r=true then do let ok <-isTrue c env (eval c env);pure (ForInStep.yield ok)else pure (ForInStep.yield r)
theorem Ra{q a i:Expr}{t:List Expr}{c:Scope}{B:Pos}{it p:S_}{b:Env}(I:Nat->Shared->Prop)
  (C:∀n s,I n s->wpAny (model prog w) A (pyNext it) (λr d=>match r with
   |none=>R (.ok .next) d
   |some v=>wpAny (model prog w) A (letOwnedTupleGo a it v) (λ_ j=>wpAny (model prog w) A (assign a b v) (λ_ k =>
     wpAny (model prog w) A (Se t b) (λok e =>
      if ok=true then wpAny (model prog w) A (eval q b) (λx l =>
       wpAny (model prog w) A (call (.builtin "list.append") [p,x]) (λ_ o=>∃m,m<n/\I m o) (λ_ _=>False) l) (λ_ _=>False) e
      else ∃m,m<n/\I m e) (λ_ _=>False) k) (λ_ _=>False) j) (λ_ _=>False) d) (λ_ _=>False) s)
  (n:Nat) (h:I n s):codeAny (model prog w) A (.compLoop (.ListComp q [⟨a,i,t,0⟩] c B) 0 it p b) R s:=by
 refine codeAny_loop Z I (λn s D=>?_) n h;show wpAny _ A ((compTurn (.ListComp q [⟨a,i,t,0⟩] c B) 0 it p b).onRaise (λx=>do noteFrame x b;theTreesLotGoes x)) _ _ s;refine wpAny_noted ?_;rw[compTurn_list];refine W0 (wpAny_standAt (W0 (X6 (C n s D) (λr d f=>?_) λ_ _ h'=>h'.elim)));cases r with
 |none=>exact Y6 f
 |some v =>
  refine W0 (X6 f (λ_ j h₀=>?_) λ_ _ h'=>h'.elim);refine W0 (X6 h₀ (λ_ k u=>W0 (X6 u (λok e g=>?_) λ_ _ h'=>h'.elim)) λ_ _ h'=>h'.elim);cases ok with
  |false=>exact Y6 ⟨Z,g⟩
  |true =>
   exact W0 (W0 (X6 g (λx l y=>W0 (X6 y (λ_ o z=>Y6 (Y6 ⟨Z,z⟩)) λ_ _ h'=>h'.elim)) λ_ _ h'=>h'.elim))
end
noncomputable def MD(cs:J_)(σ:St):St:=cs.map λj=>(σ[j]?).getD none
noncomputable def cxC(X:Cx)(scope:Scope)(N:K_)(s:P_)(H:Hp)(ex:H_):Cx :=
 {X with N:=N,s₀:=s,H₀:=H,env:=compEnvC scope (RY X.env scope.names) s.heap.objs.size X.env,outer:=X.stack,stack:=X.stack,ex:=ex,fn:=λ_=>false,pn:=[],xe:=λ_ _=>False}
def PTs(X:Cx)(ifs:List Expr)(t:TT):Prop :=
 ∀(pins:A_)(s:P_)(σ:St)(H:Hp)(Q:Bool->Hp->Prop),Inv X pins σ H s->t σ H Q->wpAny (model X.prog X.w) X.A (Se ifs X.env) (TP X pins σ Q) X.xe s
def tYes:TT:=λ_ H Q=>Q true H
theorem BB{X:Cx}:PTs X [] tYes:=λ_ _ _ H _ I h=>wpAny_tests_nil ⟨H,I,h⟩
theorem SI{X:Cx}{c:Expr}{t:TT}(h:PT X c t):PTs X [c] t:=λa s σ H Q I q=>wpAny_tests_one (h a s σ H Q I q)
structure Bn(X:Cx)(scope:Scope)(N:K_)(k:Nat)(cs:J_):Prop where
cell:∀y∈scope.names,y.2≠.cell
kind:scope.kind=.function
names:∀y∈scope.names,y.2=.local->scope.names.lookup y.1=some .local
free:∀y∈scope.names,y.2=.free->X.env.scope.names.lookup y.1=some .cell\/X.env.scope.names.lookup y.1=some .free
len:N.length=k+cs.length
cap:∀j,j<cs.length->∃x,N[k+j]?=some x/\X.N[cs.getD j 0]?=some x/\scope.names.lookup x=some .free
def GM(k:Nat)(cs:J_)(g:TG)(tc:TT)(te:TE)(J:It)(σ:St)(H1:Hp)(fin:List V->Hp->Prop):Prop :=
 ∃W:Nat->Nat->List V->Hp->Prop,(∃m,W 0 m [] H1)/\∀i m acc H,W i m acc H ->
  (J.stop i H/\fin acc H)\/(J.go i H/\∃Nx:List V->Hp->Prop,(∀acc' H',Nx acc' H'->∃m',m'<m/\W (i+1) m' acc' H')/\∀x H',J.yld i H x H'->g x (List.replicate k none++MD cs σ) H' fun σ2 H2=>(∃ts:St,ts.length=k/\σ2=ts++MD cs σ)/\acc.length<sizeLine /\
   tc σ2 H2 λb H3=>if b=true then te σ2 H3 λv H4=>Nx (acc++[v]) H4 else Nx acc H3)
def tComp(k:Nat)(cs:J_)(wi:TI)(g:TG)(tc:TT)(te:TE):TE:=fun σ H Q=>wi σ H λJ H1=>GM k cs g tc te J σ H1 λacc H2=>∀p,H2 p=none->Q (.ref p) (upd H2 p (.lst acc))
section
variable{X:Cx}{tg iter elt:Expr}{ifs:List Expr}{scope:Scope}{pos:Pos}{wi:TI}{g:TG}{tc:TT}{te:TE}{N:K_}{k:Nat}{cs:J_}
theorem Inv.block{t:A_}{σ:St}{H:Hp}{s C:P_}{G:H_}(S:Bn X scope N k cs)(I:Inv X t σ H s)
  (f:∀b∈G,GJ X t H b/\∃o,s.heap.get? b=some o) (P:C.os=s.os) (hg:AllBare C.gens) (E:∀b o,s.heap.get? b=some o->C.heap.get? b=some o) (hn:∃m,C.heap.Ns s.heap.objs.size m) :
  Inv (cxC X scope N s H G) [] (List.replicate k none++MD cs σ) H C:=by
 have A:∀{x c},(RY X.env scope.names).lookup x=some c->X.env.cells.lookup x=some c:=λ{x c} h=>by
  rcases OO X.env _ _ h with z|⟨z,e⟩
  .simp at z
  .obtain⟨a,ha⟩:=I.ok.has x (S.free _ z Z);rw[e,ha];rfl
 have Q:∀b,b∈G->b≠s.heap.objs.size:=λb r z=>by
  obtain⟨_,o,B⟩:=f b r;exact absurd (F5 B) (by rw[z];exact P0 _)
 refine⟨⟨I.ok.mod,S.kind,I.ok.glob,I.ok.blt,C9 _,λx y c K d=>I.ok.inj x y c (A K) (A d),λx hx=>?_,λx c h _=>(nomatch h),I.ok.hd,I.ok.frames,.inl Z,λb r=>⟨Q b r,λx c h=>?_⟩,I.bs,?_,λb o e r=>?_,λb r hf=>?_,I.stack,I.stkFree⟩,
  P,hg,Un.kept E,?_,λx c h=>?_,I.hok.fresh (C9 _),λx c h=>I.freeC x c (A h),λp hp=>absurd (show p∈([]:A_)from hp) B0,I.hok.kept E,?_⟩
 .exact RX X.env _ _ (Nl S.cell hx)
 .exact(f b r).1.2.2.2.2.1 x c (A h)
 .exact D4 I.ok.bsz I.sz
 .rcases(f b r).1.2.2.2.1 with z|z
  .exact I.ok.noex b o e z
  .exact absurd (J6 (F5 e) (D4 I.ok.bsz z)) (P0 _)
 .rcases D1.mp (I.stkSub b hf)with z|z
  .exact(f b r).1.2.1 z
  .exact(f b r).1.2.2.1 z
 .obtain⟨m,hm⟩:=hn;obtain⟨mo,aa,O⟩:=I.loc;refine⟨m,hm,λi x v K d h3=>?_⟩;have hi:k<=i:=by
   by_cases z:i<k
   .rw[J3 (by simpa using z),S9,W9 z]at d;cases d
   .lia
  obtain⟨j,rfl⟩:∃j,i=k+j:=⟨i-k,by lia⟩
  rw[F1 B0,O3,R3]at d;unfold MD at d;rw[C7]at d;have M:j<cs.length:=by
   by_cases z:j<cs.length
   .exact z
   .rw[N7 A1]at d;cases d
  obtain⟨x',R,T,F⟩:=S.cap j M;rw[show N[k+j]?=some x from K]at R;cases R;rw[F0 M]at d;have n:(σ[cs[j]]?).getD none=some v:=Y8 d;rw[L8,F0 M]at T;have Y:σ[cs[j]]?=some (some v):=by
   cases q:σ[cs[j]]? with
   |none=>rw[q]at n;cases n
   |some w=>rw[q]at n;rw[show w=some v from n]
  have W:=S.free (x,.free) (X4 F) Z;obtain⟨u,ru,l⟩:=O _ x v T Y (.inr W);refine⟨u,ru,?_⟩;rcases l with ⟨z,_⟩|⟨_,c,L,z⟩
  .have z':X.env.scope.names.lookup x=some .local:=z;rcases W with q|q<;>· rw[z']at q;cases q
  .obtain⟨c',U⟩:=RX X.env _ [] (X4 F);have V:=A U;rw[L]at V;cases V;obtain⟨o,B,D⟩:=z;exact .inr ⟨JT F,c,U,o,E _ _ B,D⟩
 .obtain⟨v,o,B,D⟩:=I.cell x c (A h);exact⟨v,o,E _ _ B,D⟩
 .show(List.replicate k none++MD cs σ).length=N.length;rw[C6,O3,S.len];unfold MD;rw[B8]
end
structure Wp(C:Cx->Prop)(P:N_)(w:Q_)(K:O_)(tg:Expr)(J:It)(fp:H_)(it:R_)(tn:Nat->Heap->Prop):Prop where
obj:∀i h,tn i h->∀b∈fp,∃o,h.get? b=some o/\∀v,o.data≠.cell v
keep:∀i h h',tn i h->(∀b∈fp,∀o,h.get? b=some o->h'.get? b=some o)->tn i h'
item:∀(X:Cx),C X->X.prog=P->X.w=w->X.K=K->∀(i:Nat)(pins:A_)(s:P_)(σ:St)(H:Hp)(E:B_),Inv X pins σ H s->(∀b∈fp,GJ X pins H b)->tn i s.heap->J.go i H ->
 wpAny (model P w) X.A (pyNext (.ref it)) (λr s1=>∃u,r=some u/\wpAny (model P w) X.A (letOwnedTupleGo tg (.ref it) u) (λ_ s2=>∃x H',Inv X pins σ H' s2/\Bg x u/\J.yld i H x H'/\tn (i+1) s2.heap/\∀b∈fp,H' b=none) E s1) E s
done:∀(X:Cx),C X->X.prog=P->X.w=w->X.K=K->∀(i:Nat)(pins:A_)(s:P_)(σ:St)(H:Hp)(E:B_),Inv X pins σ H s->(∀b∈fp,GJ X pins H b)->tn i s.heap->J.stop i H ->
 wpAny (model P w) X.A (pyNext (.ref it)) (λr s1=>r=none/\Inv X pins σ H s1) E s
self:∀(A:Around)(i:Nat)(s:P_)(Q:B_)(E:B_),tn i s.heap->Q (.ref it) s->wpAny (model P w) A (pyIter (.ref it)) Q E s
theorem Qm.q{P:N_}{w:Q_}{K:O_}{a:Expr}{J:It}{fp:H_}{it:R_}{b:Nat->Heap->Prop}(T:Qm P w K a J fp it b):Wp (λX=>X.calm=true) P w K a J fp it b :=
 ⟨T.obj,T.keep,λX c p w k=>T.item X p w k c,λX c p w k=>T.done X p w k c,T.self⟩
section
variable{X:Cx}{tg iter elt:Expr}{ifs:List Expr}{scope:Scope}{pos:Pos}{wi:TI}{g:TG}{tc:TT}{te:TE}{N:K_}{k:Nat}{cs:J_}{fin:List V->Hp->Prop}
theorem Ux{l:A_}{σ:St}{E:Hp}{sD s1:P_}{it D:R_}{fp:H_}{tn:Nat->Heap->Prop}{J:It}{n0:Nat}{RR:Result->Shared->Prop}{Cq:Cx->Prop}(hc:∀s H ex,Cq (cxC X scope N s H ex))(S:Bn X scope N k cs)
  (hg:∀s H ex,PG (cxC X scope N s H ex) tg g) (ht:∀s H ex,PTs (cxC X scope N s H ex) ifs tc) (he:∀s H ex,PE (cxC X scope N s H ex) elt te)
  (ID:Inv X l σ E sD) (hD:sD.heap.get? D=some {cls:=.type "list",data:=.seq ([]:F_).toArray n0}) (ag:X.s₀.heap.objs.size<=D) (fD:GJ X l E D) (aj:D∉fp)
  (T:Wp Cq X.prog X.w X.K tg J fp it tn) (st:tn 0 sD.heap) (f2:∀b∈fp,GJ X l E b) (a:GM k cs g tc te J σ E fin)
  (au:s1.os=sD.os) (as:AllBare s1.gens) (hk:∀b o,sD.heap.get? b=some o->s1.heap.get? b=some o) (hn:∃m,s1.heap.Ns sD.heap.objs.size m)
  (ar:∀(B:Hp)(d:List V)(Y:P_),fin d B->B D=none->Inv X l σ (upd B D (.lst d)) Y->(∃m,Y.heap.Ns sD.heap.objs.size m)->GJ X l (upd B D (.lst d)) sD.heap.objs.size->RR (.ok .next) Y) :
  codeAny (model X.prog X.w) X.A (.compLoop (.ListComp elt [⟨tg,iter,ifs,0⟩] scope pos) 0 (.ref it) (.ref D) (compEnvC scope (RY X.env scope.names) sD.heap.objs.size X.env)) RR s1:=by
 obtain⟨W,⟨m0,w0⟩,an⟩:=a;have U:∀b,b∈D::fp->∃o,sD.heap.get? b=some o:=λb a=>by
  rcases D1.mp a with rfl|z
  .exact⟨_,hD⟩
  .obtain⟨o,e,_⟩:=T.obj _ _ st b z;exact⟨o,e⟩
 have t:∀b∈D::fp,GJ X l E b/\∃o,sD.heap.get? b=some o:=λb a=>⟨by
  rcases D1.mp a with rfl|z
  .exact fD
  .exact f2 b z,U b a⟩
 have Q:∀b,b∈D::fp->b≠sD.heap.objs.size:=λb a z=>by
  obtain⟨o,e⟩:=U b a;exact absurd (F5 e) (by rw[z];exact P0 _)
 have ak:∀b,b∈D::fp->b∉frs X.stack:=λb a hf=>by
  rcases D1.mp (ID.stkSub b hf)with z|z
  .exact(t b a).1.2.1 z
  .exact(t b a).1.2.2.1 z
 have I0:=ID.block S t au as hk hn;have ac:=I0.ok;have I:∀b,b∈D::fp->∀x c,(RY X.env scope.names).lookup x=some c->c≠b:=λb a x c h=>(ac.exf b a).2 x c h;have L:∀{B:Hp}{pl:A_},(∀b∈fp,B b=none)->(∀p∈pl,p.1=D)->∀b∈fp,GJ (cxC X scope N sD E (D::fp)) pl B b:=λhn G b a =>
  ⟨hn b a,Q b (.tail _ a),ak b (.tail _ a),.inl (.tail _ a),I b (.tail _ a),λp av z=>aj (by
   have:=G p av;rw[<-this,z];exact a)⟩
 refine Ra (λn O=>∃(i:Nat)(d:List V)(f:F_)(P:Nat)(B:Hp),Inv (cxC X scope N sD E (D::fp)) [] (List.replicate k none++MD cs σ) B O/\tn i O.heap/\(∀b∈fp,B b=none)/\B D=none/\d.length<=sizeLine/\AV d f /\
  O.heap.get? D=some {cls:=.type "list",data:=.seq f.toArray P}/\W i n d B) ?_ m0
  ⟨0,[],[],n0,E,I0,T.keep _ _ _ st (λb _ o e=>hk b o e),λb a=>(f2 b a).1,fD.1,L5 _,.nil,hk _ _ hD,w0⟩
 rintro n s3 ⟨i,d,f,P,H3,I3,al,af,aa,ai,v3,e3,w3⟩;have ad:Inv (cxC X scope N sD E (D::fp)) [(D,{cls:=.type "list",data:=.seq f.toArray P})] (List.replicate k none++MD cs σ) H3 s3:=I3.pins_of λp G=>by
  rw[C8]at G;subst G;exact⟨e3,aa,Q D (.head _),ak D (.head _),λv z=>by cases z⟩
 have one:∀p∈[((D,{cls:=.type "list",data:=.seq f.toArray P}):Addr×Obj)],p.1=D:=λp G=>by
  rw[C8]at G;subst G;rfl
 rcases an i n d H3 w3 with ⟨am,qf⟩|⟨go,Nx,ah,step⟩
 .refine thn (T.done (cxC X scope N sD E (D::fp)) (hc _ _ _) Z Z Z i _ s3 _ H3 _ ad (L af one) al am) λr Y M=>?_;obtain⟨hr,I4⟩:=M;subst hr;have IX:Inv X l σ H3 Y:=ID.call' (ch:=D::fp) I4.os I4.base I4.hok I4.bare λb a=>⟨(t b a).1.2.2.2.1,(t b a).1.2.1,(t b a).1.2.2.2.2.1,(t b a).1.2.2.2.2.2⟩
  have p4:=(I4.pin (D,{cls:=.type "list",data:=.seq f.toArray P}) (by show _∈[]++[_];simp)).1;have IY:Inv X l σ (upd H3 D (.lst d)) Y:=by
   refine IX.track aa (Q0 ag) (Q0 (D4 ID.ok.bsz ag)) (W8 fD.2.1) fD.2.2.2.2.1 fD.2.2.2.2.2 (λb a z=>fD.2.2.1 (z▸a)) ?_;exact⟨ai,f,P,v3,p4⟩
  refine ar H3 d Y qf aa IY ?_ (ID.fpOk (C9 _) ?_)
  .obtain⟨m,hm,_⟩:=I4.loc;exact⟨m,hm⟩
  .rw[Ar (W8 (Q D (.head _)))];exact I4.free
 .refine thn (T.item (cxC X scope N sD E (D::fp)) (hc _ _ _) Z Z Z i _ s3 _ H3 (λ_ _=>False) ad (L af one) al go) λr Y M=>?_;obtain⟨u,hr,h4⟩:=M;subst hr;refine thn h4 λ_ s5 M=>?_;obtain⟨x,H5,I5,r5,y5,ab,aq⟩:=M;have ao:=I5.pinned (L aq one) (T.obj _ _ ab);refine thn (hg sD E (D::fp) _ s5 _ H5 x u _ ao r5 (step x H5 y5)) λ_ s6 M=>?_;obtain⟨R,H6,I6,⟨ts,tl,ae⟩,ay,q6⟩:=M;refine thn (ht sD E (D::fp) _ s6 R H6 _ I6 q6) λb s7 M=>?_;obtain⟨H7,I7,q7⟩:=M;have weak:∀{pl:A_}{B:Hp}{O:P_},Inv (cxC X scope N sD E (D::fp)) pl R B O->Inv (cxC X scope N sD E (D::fp)) [] (List.replicate k none++MD cs σ) B O:=λ{pl B O} J=>by
   refine(J.weak (σ':=List.replicate k none++MD cs σ) ?_ λj v e=>?_).pins_of λp G=>absurd G B0
   .rw[ae,C6,C6,O3,tl]
   .by_cases z:j<k
    .rw[J3 (by simpa using z),S9,W9 z]at e;cases e
    .rw[F1 (by rw[O3];lia),O3]at e;rw[ae,F1 A1,tl];exact e
  have C:∀{pl:A_}{σ':St}{B:Hp}{O:P_},Inv (cxC X scope N sD E (D::fp)) (pl++LL fp s5.heap) σ' B O->tn (i+1) O.heap/\∀b∈fp,B b=none:=λ{pl σ' B O} J =>
   ⟨T.keep _ _ _ ab λb a o e=>(J.pin (b,o) (M4 _ (M4 _ (Ii a e)))).1,λb a=>by
    obtain⟨o,e,_⟩:=T.obj _ _ ab b a;exact(J.pin (b,o) (M4 _ (M4 _ (Ii a e)))).2.1⟩
  cases b with
  |false =>
   have aw:Nx d H7:=by simpa using q7
   obtain⟨m',hm,w7⟩:=ah _ _ aw;rw[W4 F4];have p7:=I7.pin (D,{cls:=.type "list",data:=.seq f.toArray P}) (M4 _ (R7 _ (C8.mpr Z)));exact⟨m',hm,i+1,d,f,P,H7,weak I7,(C I7).1,(C I7).2,p7.2.1,ai,v3,p7.1,w7⟩
  |true =>
   rw[W9 rfl]at q7;rw[W9 rfl];refine thn (he sD E (D::fp) _ s7 R H7 _ I7 q7) λy s8 M=>?_;obtain⟨v,H8,I8,r8,q8⟩:=M;obtain⟨m',hm,w8⟩:=ah _ _ q8;have p8:=I8.pin (D,{cls:=.type "list",data:=.seq f.toArray P}) (M4 _ (R7 _ (C8.mpr Z)));have ax:=v3.length;refine K6 F.slot_list_append ⟨_,p8.1,Z⟩ F.entry_list_append (F.args_list_append_2 _ _) (PySem.list_append D f.toArray P y (by rw[J0];lia)) ⟨p8.1,?_⟩;have q:=PySem.IsL.update p8.1 (·.push y);have eq:f.toArray.push y=(f++[y]).toArray:=by simp
   dsimp only at q;rw[eq]at q;have ap:Inv (cxC X scope N sD E (D::fp)) ([]++LL fp s5.heap) R H8 s8:=I8.pins_of λp G=>I8.pin p (M4 _ (M4 _ G));have I9:=ap.turned (t':=s8.toks) (it:=D) (h':=s8.heap.update D (Obj.mapSeq (·.push y))) (λb o a e=>(T6 s8.heap (Obj.mapSeq (·.push y)) (W8 a)).trans e) p8.2.1 (Q D (.head _)) (.inl (.head _)) (I D (.head _))
    (λp G z=>aj (by
     have:=(Oz (fp:=fp) (h:=s5.heap) (p:=p) (by simpa[cxC] using G)).1;rw[z]at this;exact this))
   refine⟨m',hm,i+1,d++[v],f++[y],_,H8,weak I9,(C I9).1,(C I9).2,p8.2.1,?_,v3.append (.cons r8 .nil),q,w8⟩;rw[C6,N6];lia
theorem NR{d:A_}{σ:St}{B:Hp}{a:P_}{it:R_}{fp:H_}{I:Nat->Heap->Prop}{J:It}{RR:Value->Addr->Result->Shared->Prop}{E:B_}{Cq:Cx->Prop}(U:∀s H q,Cq (cxC X scope N s H q))(S:Bn X scope N k cs)
  (Y:∀s H q,PG (cxC X scope N s H q) tg g) (ht:∀s H q,PTs (cxC X scope N s H q) ifs tc) (W:∀s H q,PE (cxC X scope N s H q) elt te)
  (t:Inv X d σ B a) (T:Wp Cq X.prog X.w X.K tg J fp it I) (M:I 0 a.heap) (P:∀b∈fp,GJ X d B b) (R:GM k cs g tc te J σ B fin)
  (F:∀(D C:R_)(r:Hp)(c:List V)(u:P_),fin c r->r D=none->Inv X d σ (upd r D (.lst c)) u->(∃m,u.heap.Ns C m)->GJ X d (upd r D (.lst c)) C->RR (.ref D) C (.ok .next) u) :
  wpAny (model X.prog X.w) X.A (newList []) (λc f=>wpAny (model X.prog X.w) X.A (newFunctionEnv scope X.env.globals (RY X.env scope.names) [] X.env.qual none .none (some X.env)) (λl x =>
   codeAny (model X.prog X.w) X.A (.compStart (.ListComp elt [⟨tg,iter,ifs,0⟩] scope pos) 0 (.ref it) c {l with scope:=relabel scope X.env}) (RR c l.locals) x) E f) E a:=by
 refine wpAny_newObj_type (wpAny_newFunctionEnv S.cell (by intro y hy;simp at hy) (λn h i=>?_) S.kind);dsimp only at h i⊢;have j:∀b o,a.heap.get? b=some o->(a.heap.push {cls:=.type "list",dict:=none,data:=.seq ([]:F_).toArray}).get? b=some o:=λb o e=>D0 _ e;have O:Inv X d σ B {a with heap:=a.heap.push {cls:=.type "list",dict:=none,data:=.seq ([]:F_).toArray} }:=t.kept (t':=a.toks) j;have Q:(a.heap.push {cls:=.type "list",dict:=none,data:=.seq ([]:F_).toArray}).get? a.heap.objs.size=some {cls:=.type "list",data:=.seq ([]:F_).toArray}:=F8 _ Z;have G:a.heap.objs.size∉fp:=λz=>by
  obtain⟨o,e,_⟩:=T.obj _ _ M _ z;exact absurd (F5 e) (P0 _)
 have v:I 0 (a.heap.push {cls:=.type "list",dict:=none,data:=.seq ([]:F_).toArray}):=T.keep _ _ _ M λb _ o e=>j b o e;have L:∀b o,(a.heap.push {cls:=.type "list",dict:=none,data:=.seq ([]:F_).toArray}).get? b=some o->n.get? b=some o:=λb o e=>i.extBut b o (L9 (F5 e)) (D0 _ e);have p:∀f:Shared,f={a with heap:=n,toks:=a.toks+([]:List (Str×Value)).length} ->
   codeAny (model X.prog X.w) X.A (.compLoop (.ListComp elt [⟨tg,iter,ifs,0⟩] scope pos) 0 (.ref it) (.ref a.heap.objs.size) (compEnvC scope (RY X.env scope.names) (a.heap.push {cls:=.type "list",dict:=none,data:=.seq ([]:F_).toArray}).objs.size X.env))
    (RR (.ref a.heap.objs.size) (a.heap.push {cls:=.type "list",dict:=none,data:=.seq ([]:F_).toArray}).objs.size) f:=by
  rintro f rfl;exact Ux (sD:={a with heap:=a.heap.push {cls:=.type "list",dict:=none,data:=.seq ([]:F_).toArray} }) U S Y ht W O Q t.sz (t.fpOk (C9 _) t.fresh) G T v P R Z t.bare L ⟨_,h⟩ λr c u=>F _ _ r c u
 exact codeAny_compStart_list (p _ Z) (T.self _ 0 _ _ _ (T.keep _ _ _ v λb _ o e=>L b o e) (p _ Z))
theorem BZ(z:X.calm=true)(S:Bn X scope N k cs)(G:PI X tg iter wi)(F:∀s H d,PG (cxC X scope N s H d) tg g)(O:∀s H d,PTs (cxC X scope N s H d) ifs tc)(B:∀s H d,PE (cxC X scope N s H d) elt te)
  (M:∀x,foldedSetIterable iter X.env x=pure x:=by intro _;rfl):PE X (.ListComp elt [⟨tg,iter,ifs,0⟩] scope pos) (tComp k cs wi g tc te):=by
 intro a s σ H Q I h;rw[eval_ListComp];refine wpAny_comprehension_free (use:=none) Z M (NS λy P E=>I.ok.has _ (S.free y P E)) S.kind S.names (thn (G a s σ H _ I h) λv s1 t=>thn t λR s2 u=>?_);obtain⟨it,fp,tn,J,H2,rfl,n,T,j,r,i⟩:=u;refine NR (RR:=λc C=>compPost (model X.prog X.w) X.A X.xe none (EP X a σ Q) c C) (Cq:=λX=>X.calm=true) (λ_ _ _=>z) S F O B n T.q j r i λD C l c W V U p L f=>?_;obtain⟨m,K⟩:=L;refine⟨m,K,λh' Y=>⟨.ref D,upd l D (.lst c),?_,Z,V D U⟩⟩;exact p.turned (t':=W.toks) (it:=C) (λb o i e=>(Y.2 b i).trans e) f.1 f.2.1 f.2.2.2.1 f.2.2.2.2.1 f.2.2.2.2.2
def UR(i k:Nat)(cs:J_)(wi:TI)(g:TG)(tc:TT)(te:TE):TS:=λD σ H=>wi σ H λJ H1=>GM k cs g tc te J σ H1 λacc H2=>∀p,H2 p=none->D.nx (σ.set i (some (.ref p))) (upd H2 p (.lst acc))
theorem CW{i:Nat}{y:Str}{l d:Pos}(hc:X.calm=true)(Y:X.N.Nodup)(u:X.N[i]?=some y)(p:X.env.scope.names.lookup y=some .local)(S:Bn X scope N k cs)(hi:PI X tg iter wi)
  (hg:∀s H n,PG (cxC X scope N s H n) tg g) (ht:∀s H n,PTs (cxC X scope N s H n) ifs tc) (he:∀s H n,PE (cxC X scope N s H n) elt te)
  (E:swapsWith (.ListComp elt [⟨tg,iter,ifs,0⟩] scope pos) (some (.Name y l)) d.line X.env=pure true:=by rfl) (hs:∀x,foldedSetIterable iter X.env x=pure x:=by intro _;rfl) :
  PS X (.Assign [.Name y l] (.ListComp elt [⟨tg,iter,ifs,0⟩] scope pos) d) (UR i k cs wi g tc te):=by
 intro c s σ H D I h;rw[exec_Assign_Name_used _ _ _ _ E];refine W0 (wpAny_standAt (W0 ?_));show wpAny _ X.A (do let _ <-comprehension (.ListComp elt [⟨tg,iter,ifs,0⟩] scope pos) scope X.env _ (newList []) false (eval iter X.env) (some (assign (.Name y l) X.env))) _ _ s;refine W0 (X6 (wpAny_comprehension_free (use:=some (assign (.Name y l) X.env)) (Q:=λ_ r=>SP X c D .next r) Z hs (NS λy p hf=>I.ok.has _ (S.free y p hf)) S.kind S.names
  (thn (hi c s σ H _ I h) λv s1 V=>thn V λaa s2 W=>?_)) (λ_ r hq=>Y6 (Y6 hq)) λ_ _ e=>e)
 obtain⟨it,fp,tn,J,H2,rfl,O,T,K,U,t⟩:=W;refine NR (RR:=λf C=>compPost (model X.prog X.w) X.A X.xe (some (assign (.Name y l) X.env)) (λ_ r=>SP X c D .next r) f C) (Cq:=λX=>X.calm=true) (λ_ _ _=>hc) S hg ht he O T.q K U t λL C M f s4 qf nD P hn j=>?_;obtain⟨m,hm⟩:=hn;show wpAny _ X.A (assign (.Name y l) X.env (.ref L)) _ _ _;refine wpAny_assign_Name (Ow P Y u (.inl p) (v:=.ref L) Z (λs5 R B=>?_) (.inr p));obtain⟨a,sb,ha⟩:=B;have F:C≠a:=by
  rcases ha with z|z
  .rw[z];exact j.2.1
  .exact λq=>j.2.2.2.2.1 y a z q.symm
 refine⟨m,hm.sameBut sb F,λh' G=>⟨σ.set i (some (.ref L)),upd M L (.lst f),?_,qf L nD⟩⟩;exact R.turned (t':=s5.toks) (it:=C) (λb o t e=>(G.2 b t).trans e) j.1 j.2.1 j.2.2.2.1 j.2.2.2.2.1 j.2.2.2.2.2
end
section
variable{K:O_}{k:Nat}{cs:J_}{g:TG}{tc:TT}{te:TE}{σ:St}{H:Hp}{fin:List V->Hp->Prop}
abbrev Bt(k:Nat)(cs:J_)(g:TG)(tc:TT)(te:TE)(σ:St)(x:V)(acc:List V)(H:Hp)(Nx:List V->Hp->Prop):Prop :=
 g x (List.replicate k none++MD cs σ) H fun σ2 H2=>(∃ts:St,ts.length=k/\σ2=ts++MD cs σ)/\acc.length<sizeLine/\tc σ2 H2 λb H3=>if b=true then te σ2 H3 λv H4=>Nx (acc++[v]) H4 else Nx acc H3
theorem Ck{a:R_}{xs:List V}(c:Nat->List V->Hp->Prop)(j:c 0 [] H)(o:∀i b H,i<=xs.length->c i b H->SqL K H a xs)
  (r:∀i x b H,xs[i]?=some x->c i b H->Bt k cs g tc te σ x b H (c (i+1))) (l:∀b H,c xs.length b H->fin b H):GM k cs g tc te (Itl K a) σ H fin:=by
 refine⟨λi m b H=>m=xs.length-i/\i<=xs.length/\c i b H,⟨xs.length,by simp,L5 _,j⟩,?_⟩;rintro i m b H ⟨rfl,n,p⟩;have q:=o i b H n p;by_cases d:i<xs.length
 .refine .inr ⟨⟨xs,xs[i],q,by simp[d]⟩,c (i+1),λf h s=>⟨xs.length-(i+1),by lia,Z,d,s⟩,λx h y=>?_⟩;obtain⟨e,y⟩:=y;subst e;exact r i x b _ (y xs q) p
 .have e:i=xs.length:=by lia
  subst e;exact .inl ⟨⟨xs,q,C9 _⟩,l b H p⟩
theorem Lw{a:R_}{xs:List V}(c:Nat->List V->Hp->Prop)(j:c 0 [] H)(o:∀i b H,i<=xs.length->c i b H->SqT K H a xs)
  (r:∀i x b H,xs[i]?=some x->c i b H->Bt k cs g tc te σ x b H (c (i+1))) (l:∀b H,c xs.length b H->fin b H):GM k cs g tc te (Itt K a) σ H fin:=by
 refine⟨λi m b H=>m=xs.length-i/\i<=xs.length/\c i b H,⟨xs.length,by simp,L5 _,j⟩,?_⟩;rintro i m b H ⟨rfl,n,p⟩;have q:=o i b H n p;by_cases d:i<xs.length
 .refine .inr ⟨⟨xs,xs[i],q,by simp[d]⟩,c (i+1),λf h s=>⟨xs.length-(i+1),by lia,Z,d,s⟩,λx h y=>?_⟩;obtain⟨e,y⟩:=y;subst e;exact r i x b _ (y xs q) p
 .have e:i=xs.length:=by lia
  subst e;exact .inl ⟨⟨xs,q,C9 _⟩,l b H p⟩
theorem GH{lo:Int}{n:Nat}(c:Nat->List V->Hp->Prop)(h:c 0 [] H)(l:∀i a H,i<n->c i a H->Bt k cs g tc te σ (.int (lo+i)) a H (c (i+1)))(j:∀a H,c n a H->fin a H):GM k cs g tc te (Itr lo n) σ H fin:=by
 refine⟨λi m a H=>m=n-i/\i<=n/\c i a H,⟨n,by simp,L5 _,h⟩,?_⟩;rintro i m a H ⟨rfl,q,p⟩;by_cases b:i<n
 .refine .inr ⟨b,c (i+1),λd f o=>⟨n-(i+1),by lia,Z,b,o⟩,λx f y=>?_⟩;obtain⟨e,y⟩:=y;subst e y;exact l i a _ b p
 .have e:i=n:=by lia
  subst e;exact .inl ⟨C9 _,j a H p⟩
end
section
variable{prog:N_}{w:Q_}{A:Around}{E:B_}{s:P_}
theorem Le{I t:R_}{k:Nat}{vs:M_}{v:S_}{Q:B_}(c:s.heap.IsTupleIter I t k)(h:s.heap.IsTuple t vs)(i:vs[k]?=some v)
  (q:∀g,g.IsTupleIter I t (k+1)->Heap.SameBut I s.heap g->Q v {s with heap:=g}):wpAny (model prog w) A (Builtin.SmallTypes.nextOf (.ref I)) Q E s:=by
 obtain⟨l,b,d,a⟩:=id c;obtain⟨m,f,_,j,e⟩:=h;unfold Builtin.SmallTypes.nextOf;refine W0 (wpAny_callSpecial?_slot (name:=Str.ofString "__next__") c.typeIs K3 (A0h K3 c.typeIs F.entry_tuple_iterator_next ?_ (F.args_tuple_iterator_next_1 _)));show wpAny _ _ (field (.ref I) 0 >>= _) _ _ s;refine W0 (X8 b a (x:=.ref t) Z ?_);show wpAny _ _ (if(Value.ref t==Value.none)=true then _ else _) _ _ s;rw[W4 (λz:(Value.ref t==Value.none)=true=>F4 z)];show wpAny _ _ (field (.ref I) 1 >>= _) _ _ s;refine W0 (X8 b a (x:=.int k 0) Z ?_);show wpAny _ _ (seqItems? (.ref t) >>= _) _ _ s;refine W0 (K0 f e ?_);simp only[N3,i];refine W0 (wpAny_setField b a B0 (Y6 ⟨v,Z,Y6 (q _ ?_ (Heap.SameBut.update ..))⟩));exact⟨_,Heap.get?_update_self _ b (Obj.isFreed_of_fields (Obj.data_mapFields a _)),(Obj.cls_mapFields ..).trans d,by rw[Obj.data_mapFields a];simp[rawInt]⟩
theorem LU{I t:R_}{k:Nat}{vs:M_}{Q:B_}(f:A.handled=none)(d:s.heap.IsTupleIter I t k)(j:s.heap.IsTuple t vs)(l:vs[k]?=none)
  (q:∀g e,Heap.ExtBut I s.heap g->(∃o,g.get? e=some o/\o.cls=.type "StopIteration")->E (.ref e) {s with heap:=g}):wpAny (model prog w) A (Builtin.SmallTypes.nextOf (.ref I)) Q E s:=by
 obtain⟨r,c,n,b⟩:=id d;obtain⟨u,i,_,p,h⟩:=j;unfold Builtin.SmallTypes.nextOf;refine W0 (wpAny_callSpecial?_slot (name:=Str.ofString "__next__") d.typeIs K3 (A0h K3 d.typeIs F.entry_tuple_iterator_next ?_ (F.args_tuple_iterator_next_1 _)));show wpAny _ _ (field (.ref I) 0 >>= _) _ _ s;refine W0 (X8 c b (x:=.ref t) Z ?_);show wpAny _ _ (if(Value.ref t==Value.none)=true then _ else _) _ _ s;rw[W4 (λz:(Value.ref t==Value.none)=true=>F4 z)];show wpAny _ _ (field (.ref I) 1 >>= _) _ _ s;refine W0 (X8 c b (x:=.int k 0) Z ?_);show wpAny _ _ (seqItems? (.ref t) >>= _) _ _ s;refine W0 (K0 i h ?_);simp only[N3,l];refine W0 (wpAny_rule (W0 (wpAny_setField c b B0 ?_)));show wpAny _ _ (newExc (.type "StopIteration") [] >>= _) _ _ _;refine W0 ?_;simp only[newExc,newTuple];refine W0 (wpAny_newObj_type ?_ (by size_fits));refine W0 (m:=firstArgMember _ _) (wpAny_of_eq (a:=Value.none) (by first|rfl|(simp only[firstArgMember];rfl)) (wpAny_newObj_type ?_ (by size_fits)));simp only[raiseNew];refine W0 (wpAny_handled ?_)
 first|rw[show A.in1.handled=none from f]|rw[f]
 refine W0 (Y6 (wpAny_throw (q _ _ (((Heap.SameBut.update ..).extBut.push _).push _) ⟨_,F8 _ Z,Z⟩)))
def Cy:Bool->Heap->Addr->Addr->Nat->Prop
|true,h,I,l,k=>h.IsTupleIter I l k
|false,h,I,l,k=>h.IsListIter I l k
def DA:Bool->Heap->Addr->Array Value->Prop
|true,h,l,vs=>h.IsTuple l vs
|false,h,l,vs=>h.IsList l vs
def SqX(K:O_):Bool->Hp->Addr->List V->Prop
|true,H,a,xs=>SqT K H a xs
|false,H,a,xs=>SqL K H a xs
theorem Cy.move{b:Bool}{h g:T_}{I l:R_}{k:Nat}(x:Cy b h I l k)(e:∀o,h.get? I=some o->g.get? I=some o):Cy b g I l k:=by
 cases b with
 |true=>obtain⟨o,a,r⟩:=x;exact⟨o,e _ a,r⟩
 |false=>obtain⟨o,a,r⟩:=x;exact⟨o,e _ a,r⟩
theorem Cy.there{b:Bool}{h:T_}{I l:R_}{k:Nat}(x:Cy b h I l k):∃o,h.get? I=some o/\∀v,o.data≠.cell v:=by
 cases b with
 |true=>obtain⟨o,a,_,d⟩:=x;exact⟨o,a,λv z=>by rw[d]at z;cases z⟩
 |false=>obtain⟨o,a,_,d⟩:=x;exact⟨o,a,λv z=>by rw[d]at z;cases z⟩
theorem DA.move{b:Bool}{h g:T_}{l:R_}{vs:M_}(x:DA b h l vs)(e:∀o,h.get? l=some o->g.get? l=some o):DA b g l vs:=by
 cases b with
 |true=>obtain⟨o,a,r⟩:=x;exact⟨o,e _ a,r⟩
 |false=>obtain⟨o,a,r⟩:=x;exact⟨o,e _ a,r⟩
theorem Dq{b:Bool}{I l:R_}{k:Nat}{vs:M_}{v:S_}{Q:B_}(a:Cy b s.heap I l k)(c:DA b s.heap l vs)(d:vs[k]?=some v)
  (q:∀g,Cy b g I l (k+1)->Heap.SameBut I s.heap g->Q v {s with heap:=g}):wpAny (model prog w) A (Builtin.SmallTypes.nextOf (.ref I)) Q E s:=by
 cases b with
 |true=>exact Le a c d q
 |false=>exact wpAny_nextOf_list_item a c d q
theorem FE{b:Bool}{I l:R_}{k:Nat}{vs:M_}{Q:B_}(a:A.handled=none)(c:Cy b s.heap I l k)(d:DA b s.heap l vs)(f:vs[k]?=none)
  (q:∀g e,Heap.ExtBut I s.heap g->(∃o,g.get? e=some o/\o.cls=.type "StopIteration")->E (.ref e) {s with heap:=g}):wpAny (model prog w) A (Builtin.SmallTypes.nextOf (.ref I)) Q E s:=by
 cases b with
 |true=>exact LU a c d f q
 |false=>exact wpAny_nextOf_list_end a c d f q
theorem Fs{b:Bool}{l:R_}{vs:M_}{Q:B_}(a:DA b s.heap l vs)
  (q:∀g,Cy b g s.heap.objs.size l 0->g.objs.size=s.heap.objs.size+1->(∀c o,s.heap.get? c=some o->g.get? c=some o)->Q (.ref s.heap.objs.size) {s with heap:=g}):wpAny (model prog w) A (pyIter (.ref l)) Q E s:=by
 cases b with
 |true=>exact wpAny_pyIter_tuple a (q _ ⟨_,F8 _ Z,Z,Z⟩ (P9 ..) λc o e=>D0 _ e)
 |false=>exact A0e a (q _ ⟨_,F8 _ Z,Z,Z⟩ (P9 ..) λc o e=>D0 _ e)
structure Ty(z U O i j l m:R_):Prop where
nd:[z,U,O,i,j].Nodup
l:l∉[z,O,i,j]
m:m∉[z,O,i,j]
theorem UH{b c:Bool}{z U O i j l m:R_}{k:Nat}{xs ys:M_}{x y p q:S_}{Q:B_}(D:Ty z U O i j l m)(L:IsZip s.heap z U O .none)(hU:IsPair s.heap U (.ref i) (.ref j))(hO:IsPair s.heap O p q)
  (hi:Cy b s.heap i l k) (hj:Cy c s.heap j m k) (hl:DA b s.heap l xs) (hm:DA c s.heap m ys) (hx:xs[k]?=some x) (hy:ys[k]?=some y)
  (fin:∀g,IsZip g z U O (rawInt s.heap.objs.size)->IsPair g O x y->Cy b g i l (k+1)->Cy c g j m (k+1)->IsPair g s.heap.objs.size x y->g.objs.size=s.heap.objs.size+1 ->
   (∀a o,a∉[z,O,i,j]->s.heap.get? a=some o->g.get? a=some o)->Q (.ref s.heap.objs.size) {s with heap:=g}) :
  wpAny (model prog w) A (Builtin.«zip.__next__» ⟨[.ref z],[]⟩) (λr s'=>∃v,r=.done (.ret v)/\Q v s') E s:=by
 obtain⟨nd,nl,nm⟩:=D;simp only[N8,D1,J9,Z7,A0c,O6,and_true,A0b]at nd nl nm;obtain⟨⟨zU,V,zi,zj⟩,⟨UO,Ui,Uj⟩,⟨W,X⟩,ij⟩:=nd;obtain⟨lz,lO,li,lj⟩:=nl;obtain⟨mz,mO,mi,mj⟩:=nm;show wpAny _ _ (field (.ref z) 2 >>= _) _ _ _;refine W0 (X8 L Z (x:=.bool false) Z ?_);show wpAny _ _ (field (.ref z) 3 >>= _) _ _ _;refine W0 (X8 L Z (x:=.ref U) Z (W0 (K0 hU Z ?_)));show wpAny _ _ (Builtin.SmallTypes.ownedTupleIsFree (.ref z) >>= _) _ _ _;refine W0 ?_;unfold Builtin.SmallTypes.ownedTupleIsFree;refine W0 (X8 L Z (x:=.none) Z (Y6 ?_));simp only[A1a];refine W0 (wpAny_rule (W0 (X8 L Z (x:=.ref O) Z (W0 (K2 L B0 λh1 u C=>?_)))));replace u:IsZip h1 z U O .ellipsis:=u;refine W0 ?_;simp only[List.zipIdx_cons,List.zipIdx_nil,List.forIn_cons,List.forIn_nil];refine W0 (W0 (A2a ?_));show wpAny _ _ (Builtin.SmallTypes.nextOf (.ref i) >>= _) _ _ _;refine W0 (Dq (hi.move λo e=>C.extBut _ _ (W8 zi) e) (hl.move λo e=>C.extBut _ _ lz e) hx λh2 aa F=>Y6 ?_);have I:IsPair h2 O p q:=F.extBut _ _ W (C.extBut _ _ (W8 V) hO);refine W0 (K0 I Z (W0 (A1g I λh3 t G=>?_)));replace t:IsPair h3 O x q:=t;refine W0 (wpAny_letGo (Y6 (W0 (W0 (A2a ?_)))));show wpAny _ _ (Builtin.SmallTypes.nextOf (.ref j) >>= _) _ _ _;refine W0 (Dq (hj.move λo e=>G.extBut _ _ (W8 X) (F.extBut _ _ (W8 ij) (C.extBut _ _ (W8 zj) e))) (hm.move λo e=>G.extBut _ _ mO (F.extBut _ _ mi (C.extBut _ _ mz e))) hy λh4 ac N=>Y6 ?_);have K:IsPair h4 O x q:=N.extBut _ _ X t;refine W0 (K0 K Z (W0 (A1g K λd h P=>?_)));replace h:IsPair d O x y:=h;refine W0 (wpAny_letGo (Y6 (Y6 (W0 (K0 h Z (W0 (wpAny_newTuple ?_)))))));have sz:d.objs.size=s.heap.objs.size:=by rw[P.1,N.1,G.1,F.1,C.1]
 have M:IsZip d z U O .ellipsis:=P.extBut _ _ V (N.extBut _ _ zj (G.extBut _ _ V (F.extBut _ _ zi u)));have kp:∀a o,a∉[z,O,i,j]->s.heap.get? a=some o->d.get? a=some o:=λa o f e=>by
  simp only[D1,J9,Z7,A0c]at f;exact P.extBut _ _ f.2.1 (N.extBut _ _ f.2.2.2 (G.extBut _ _ f.2.1 (F.extBut _ _ f.2.2.1 (C.extBut _ _ f.1 e))))
 have ab:Cy b d i l (k+1):=aa.move λo e=>P.extBut _ _ (W8 W) (N.extBut _ _ ij (G.extBut _ _ (W8 W) e));have ad:Cy c d j m (k+1):=ac.move λo e=>P.extBut _ _ (W8 X) e;have S:z<d.objs.size:=F5 M;show wpAny _ _ (Builtin.SmallTypes.ownedTupleHandOut (.ref z) (.ref d.objs.size) >>= _) _ _ _;refine W0 ?_;unfold Builtin.SmallTypes.ownedTupleHandOut;have Y:IsZip (d.push {cls:=.type "tuple",data:=.seq #[x,y]}) z U O .ellipsis:=D0 _ M;refine W0 (K2 Y B0 λh7 B s7=>?_);replace B:IsZip h7 z U O (rawInt d.objs.size):=B;refine K2 B B0 λH n s8=>?_;replace n:IsZip H z U O (rawInt d.objs.size):=n;have T:∀a o,a≠z->d.get? a=some o->H.get? a=some o:=λa o na e=>s8.extBut _ _ na (s7.extBut _ _ na (D0 _ e));have hT:IsPair H d.objs.size x y:=s8.extBut _ _ (T4 S) (s7.extBut _ _ (T4 S) (F8 _ Z));have R:H.objs.size=d.objs.size+1:=by rw[s8.1,s7.1,P9]
 rw[sz]at n hT R;refine Y6 ⟨_,Z,?_⟩;show Q (.ref d.objs.size) _;rw[sz];refine fin H n (T _ _ (W8 V) h) (ab.move λo e=>T _ o (W8 zi) e) (ad.move λo e=>T _ o (W8 zj) e) hT R λa o f e=>T a o ?_ (kp a o f e);simp only[D1,J9,Z7,A0c]at f;exact f.1
theorem UG{b c:Bool}{z U O i j l m:R_}{k:Nat}{xs ys:M_}{p q:S_}{Q:Fin->Shared->Prop}(S:A.handled=none)(D:Ty z U O i j l m)(C:IsZip s.heap z U O .none)(hU:IsPair s.heap U (.ref i) (.ref j))(hO:IsPair s.heap O p q)
  (T:Cy b s.heap i l k) (hj:Cy c s.heap j m k) (V:DA b s.heap l xs) (hm:DA c s.heap m ys) (H:xs[k]?=none\/ys[k]?=none)
  (fin:∀g e,(∀a o,a∉[z,O,i,j]->s.heap.get? a=some o->g.get? a=some o)->(∃o,g.get? e=some o/\o.cls=.type "StopIteration")->E (.ref e) {s with heap:=g}) :
  wpAny (model prog w) A (Builtin.«zip.__next__» ⟨[.ref z],[]⟩) Q E s:=by
 obtain⟨X,nl,Y⟩:=D;simp only[N8,D1,J9,Z7,A0c,O6,and_true,A0b]at X nl Y;obtain⟨⟨zU,zO,I,zj⟩,⟨UO,Ui,Uj⟩,⟨Oi,Oj⟩,ij⟩:=X;obtain⟨W,lO,li,lj⟩:=nl;obtain⟨mz,mO,mi,mj⟩:=Y;show wpAny _ _ (field (.ref z) 2 >>= _) _ _ _;refine W0 (X8 C Z (x:=.bool false) Z ?_);show wpAny _ _ (field (.ref z) 3 >>= _) _ _ _;refine W0 (X8 C Z (x:=.ref U) Z (W0 (K0 hU Z ?_)));show wpAny _ _ (Builtin.SmallTypes.ownedTupleIsFree (.ref z) >>= _) _ _ _;refine W0 ?_;unfold Builtin.SmallTypes.ownedTupleIsFree;refine W0 (X8 C Z (x:=.none) Z (Y6 ?_));simp only[A1a];refine W0 (wpAny_rule (W0 (X8 C Z (x:=.ref O) Z (W0 (K2 C B0 λh1 r u=>?_)))));replace r:IsZip h1 z U O .ellipsis:=r;refine W0 ?_;simp only[List.zipIdx_cons,List.zipIdx_nil,List.forIn_cons,List.forIn_nil];refine W0 (W0 (A2a ?_));show wpAny _ _ (Builtin.SmallTypes.nextOf (.ref i) >>= _) _ _ _;have d:∀{a:R_},a∉[z,O,i,j]->a≠z/\a≠O/\a≠i/\a≠j:=λh=>by simpa only[D1,J9,Z7,A0c] using h
 cases N:xs[k]? with
 |none =>
  refine W0 (FE S (T.move λo e=>u.extBut _ _ (W8 I) e) (V.move λo e=>u.extBut _ _ W e) N λL e v M=>?_);obtain⟨P,f,n⟩:=M;have F:IsZip L z U O .ellipsis:=v _ _ I r;have K:e≠z:=λt=>by subst t;rw[F]at f;cases f;simp at n
  exact K2 F B0 λR _ y=>fin R e (λa o h t=>y.extBut _ _ (d h).1 (v _ _ (d h).2.2.1 (u.extBut _ _ (d h).1 t))) ⟨P,y.extBut _ _ K f,n⟩
 |some x =>
  have hy:ys[k]?=none:=by
   rcases H with t|t
   .rw[N]at t;cases t
   .exact t
  refine W0 (Dq (T.move λo e=>u.extBut _ _ (W8 I) e) (V.move λo e=>u.extBut _ _ W e) N λL ab v=>Y6 ?_);have B:IsPair L O p q:=v.extBut _ _ Oi (u.extBut _ _ (W8 zO) hO);refine W0 (K0 B Z (W0 (A1g B λR aa y=>?_)));refine W0 (wpAny_letGo (Y6 (W0 (W0 (A2a ?_)))));show wpAny _ _ (Builtin.SmallTypes.nextOf (.ref j) >>= _) _ _ _;refine W0 (FE S (hj.move λo e=>y.extBut _ _ (W8 Oj) (v.extBut _ _ (W8 ij) (u.extBut _ _ (W8 zj) e))) (hm.move λo e=>y.extBut _ _ mO (v.extBut _ _ mi (u.extBut _ _ mz e))) hy λh4 e s4 M=>?_);obtain⟨P,f,n⟩:=M;have G:IsZip h4 z U O .ellipsis:=s4 _ _ zj (y.extBut _ _ zO (v.extBut _ _ I r));have K:e≠z:=λt=>by subst t;rw[G]at f;cases f;simp at n
  exact K2 G B0 λh5 _ s5=>fin h5 e (λa o h t=>s5.extBut _ _ (d h).1 (s4 _ _ (d h).2.2.2 (y.extBut _ _ (d h).2.1 (v.extBut _ _ (d h).2.2.1 (u.extBut _ _ (d h).1 t))))) ⟨P,s5.extBut _ _ K f,n⟩
theorem UI(b:T_)(n:Nat)(d:b.objs.size=n+2)(i j:S_):∃c,c=((b.push {cls:=.type "tuple",data:=.seq #[i,j]}).push {cls:=.type "tuple",data:=.seq #[.none,.none]}).push
   {cls:=.type "zip",data:=.fields #[.none,.bool false,.bool false,.ref b.objs.size,.ref (b.push {cls:=.type "tuple",data:=.seq #[i,j]}).objs.size]} /\
  IsZip c (n+4) (n+2) (n+3) .none/\IsPair c (n+2) i j/\IsPair c (n+3) .none .none/\(∀a o,b.get? a=some o->c.get? a=some o) /\
  ((b.push {cls:=.type "tuple",data:=.seq #[i,j]}).push {cls:=.type "tuple",data:=.seq #[.none,.none]}).objs.size=n+4:=by
 have f:(b.push {cls:=.type "tuple",data:=.seq #[i,j]}).objs.size=n+3:=by rw[P9,d]
 have g:((b.push {cls:=.type "tuple",data:=.seq #[i,j]}).push {cls:=.type "tuple",data:=.seq #[.none,.none]}).objs.size=n+4:=by rw[P9,f]
 refine⟨_,Z,?_,?_,?_,λa o e=>D0 _ (D0 _ (D0 _ e)),g⟩
 .have q:=F8 ((b.push {cls:=.type "tuple",data:=.seq #[i,j]}).push {cls:=.type "tuple",data:=.seq #[.none,.none]}) (o:={cls:=.type "zip",data:=.fields #[.none,.bool false,.bool false,.ref b.objs.size,.ref (b.push {cls:=.type "tuple",data:=.seq #[i,j]}).objs.size]}) Z;rw[g]at q;show _=some _;rw[q,d,f]
 .have q:=D0 {cls:=.type "zip",data:=.fields #[.none,.bool false,.bool false,.ref b.objs.size,.ref (b.push {cls:=.type "tuple",data:=.seq #[i,j]}).objs.size]} (D0 {cls:=.type "tuple",data:=.seq #[.none,.none]} (F8 b (o:={cls:=.type "tuple",data:=.seq #[i,j]}) Z));rw[<-d];exact q
 .have q:=D0 {cls:=.type "zip",data:=.fields #[.none,.bool false,.bool false,.ref b.objs.size,.ref (b.push {cls:=.type "tuple",data:=.seq #[i,j]}).objs.size]} (F8 (b.push {cls:=.type "tuple",data:=.seq #[i,j]}) (o:={cls:=.type "tuple",data:=.seq #[.none,.none]}) Z);rw[<-f];exact q
theorem Ud{b c:Bool}(l m:R_)(xs ys:M_):Meets (Builtin.«zip.__new__» ⟨[.type "zip",.ref l,.ref m],[]⟩) (λ_ R s=>DA b s.heap l xs/\DA c s.heap m ys /\
   ∀g,IsZip g (s.heap.objs.size+4) (s.heap.objs.size+2) (s.heap.objs.size+3) .none->IsPair g (s.heap.objs.size+2) (.ref s.heap.objs.size) (.ref (s.heap.objs.size+1))->IsPair g (s.heap.objs.size+3) .none .none ->
    Cy b g s.heap.objs.size l 0->Cy c g (s.heap.objs.size+1) m 0->(∀a o,s.heap.get? a=some o->g.get? a=some o)->R (.ok (.ret (.ref (s.heap.objs.size+4)))) {s with heap:=g}) :=
 .of_wp λprog w A R s h=>by
  obtain⟨f,g,d,tk,G⟩:=s;obtain⟨B,C,h⟩:=h;have u:=sub_zip
  wp_walk using Fs B
  intro i D I v;have p:DA c (Shared.heap ⟨i,g,d,tk,G⟩) m ys:=C.move λo e=>v _ o e
  wp_walk using Fs p
  intro j F K x
  wp_walk
  refine⟨_,Z,?_⟩;have n:i.objs.size=f.objs.size+1:=I;have y:j.objs.size=f.objs.size+2:=by rw[show j.objs.size=i.objs.size+1 from K,n]
  obtain⟨t,z,a1,a2,a3,r,H⟩:=UI j f.objs.size y (.ref f.objs.size) (.ref i.objs.size);have k:IsPair t (f.objs.size+2) (.ref f.objs.size) (.ref (f.objs.size+1)):=by rw[<-n];exact a2
  have q:Cy c j (f.objs.size+1) m 0:=by rw[<-n];exact F
  have key:=h t a1 k a3 ((D.move λo e=>x _ o e).move λo e=>r _ o e) (q.move λo e=>r _ o e) λa o e=>r _ _ (x _ _ (v _ _ e));dsimp only at key;rw[z,<-H]at key;exact key
theorem Inv.turnedL{X:Cx}{d:A_}{σ:St}{H:Hp}{s:P_}{g:T_}{tk:Nat}{ch:H_}(I:Inv X d σ H s)(k:∀b o,b∉ch->s.heap.get? b=some o->g.get? b=some o)(a:∀b∈ch,GJ X d H b):Inv X d σ H {s with heap:=g,toks:=tk}:=by
 have h:∀b u,H b=some u->b∉ch:=λb u e z=>by rw[(a b z).1]at e;cases e
 refine I.step (g':=s.gens) (d':=s.drawn) (ch:=ch) (λb i=>⟨(a b i).2.2.2.1,(a b i).2.1,(a b i).2.2.2.2.1,(a b i).2.2.2.2.2⟩) (λb o _ _ f e _=>k b o f e) (λb o _ _ f e _=>⟨o.slots,k b o f e⟩) (λ_ _ _ _ n=>n)
  (λb o f e=>⟨o,k b o f e⟩) (λ_ _ e=>e) (λ_ _ _ e=>e) (λb ps e=>⟨#[],by rw[e];simp⟩) (λm p=>?_) (λb u e=>?_) I.bare
 .obtain⟨o,l,j,t,r⟩:=p;exact⟨o,l,j,k _ o (λz=>(a _ z).2.1 Z) t,r⟩
 .refine(I.hok b u e).stay (λc v f q=>k c v ?_ q) (λ_ q=>q) λ_ _ q=>q;rcases f with z|z
  .rw[z];exact h b u e
  .exact h c _ z
theorem Inv.pair{X:Cx}{a:A_}{σ:St}{H:Hp}{s:P_}{g:T_}{tk n:Nat}{ch:H_}{x y:V}{u v:S_}(I:Inv X a σ H s)(k:∀b o,b∉ch->s.heap.get? b=some o->g.get? b=some o)(c:∀b∈ch,GJ X a H b)
  (h:Bg x u) (i:Bg y v) (e:g.get? s.heap.objs.size=some {cls:=.type "tuple",data:=.seq #[u,v] n}):H s.heap.objs.size=none/\Inv X a σ (upd H s.heap.objs.size (.tup [x,y])) {s with heap:=g,toks:=tk}:=by
 have f:=I.fpOk (C9 _) I.fresh;refine⟨f.1,(I.turnedL (tk:=tk) k c).track f.1 (Q0 I.sz) (Q0 (D4 I.ok.bsz I.sz)) (W8 f.2.1) f.2.2.2.2.1 f.2.2.2.2.2 (λb d z=>f.2.2.1 (z▸d)) ?_⟩;exact⟨by show 2<=sizeLine;decide,[u,v],.cons h (.cons i .nil),_,e,Z,n,Z⟩
theorem Inv.sq{X:Cx}{d:A_}{σ:St}{H:Hp}{s:P_}{b:Bool}{a:R_}{xs:List V}(I:Inv X d σ H s)(h:SqX X.K b H a xs):∃c:List Value,AV xs c/\DA b s.heap a c.toArray:=by
 cases b with
 |true =>
  obtain⟨c,r,p,_⟩:=I.tuple h;exact⟨c,r,p⟩
 |false =>
  obtain⟨c,r,p,_⟩:=I.list h;exact⟨c,r,p.isList⟩
theorem Inv.sq_inj{X:Cx}{c:A_}{σ:St}{H:Hp}{s:P_}{b:Bool}{a:R_}{xs ys:List V}(I:Inv X c σ H s)(h:SqX X.K b H a xs)(h':SqX X.K b H a ys):xs=ys:=by
 cases b with
 |true=>exact I.tuple_inj h h'
 |false=>exact I.list_inj h h'
noncomputable def Itz(K:O_)(b c:Bool)(l m:R_):It :=
 ⟨λi H=>∃xs ys x y,SqX K b H l xs/\SqX K c H m ys/\xs[i]?=some x/\ys[i]?=some y,
  λi H v H'=>∃(T:R_)(x y:V),v=.ref T/\H T=none/\H'=upd H T (.tup [x,y])/\(∀xs,SqX K b H l xs->xs[i]?=some x)/\∀ys,SqX K c H m ys->ys[i]?=some y,
  λi H=>∃xs ys,SqX K b H l xs/\SqX K c H m ys/\(xs.length<=i\/ys.length<=i)⟩
def ZipTn(b c:Bool)(z U O i j l m:R_)(k:Nat)(h:T_):Prop:=IsZip h z U O .none/\IsPair h U (.ref i) (.ref j)/\(∃p q,IsPair h O p q)/\Cy b h i l k/\Cy c h j m k
theorem UN{P:N_}{w:Q_}{K:O_}{es:List Expr}{n:Nat}{S:Pos}{b c:Bool}{z U O i j l m:R_}(D:Ty z U O i j l m):Qm P w K (.Tuple es n S) (Itz K b c l m) [z,U,O,i,j] z (ZipTn b c z U O i j l m) where
 mem:=by simp
 obj:=λk h B a d=>by
  obtain⟨f,r,⟨p,q,C⟩,G,L⟩:=B;simp only[D1,J9,Z7]at d;rcases d with rfl|rfl|rfl|rfl|rfl
  .exact⟨_,f,λv t=>by cases t⟩
  .exact⟨_,r,λv t=>by cases t⟩
  .exact⟨_,C,λv t=>by cases t⟩
  .exact G.there
  .exact L.there
 keep:=λk h h' B kp=>by
  obtain⟨f,r,⟨p,q,C⟩,G,L⟩:=B;exact⟨kp z B0 _ f,kp U B0 _ r,⟨p,q,kp O B0 _ C⟩,G.move λo e=>kp i B0 o e,L.move λo e=>kp j B0 o e⟩
 item:=by
  intro X hP hw hK hc k M s σ H E I Y B hg;subst hP hw hK;obtain⟨f,r,⟨p,q,C⟩,G,L⟩:=B;obtain⟨xs,ys,x,y,sx,sy,hx,hy⟩:=hg;obtain⟨us,ru,ou⟩:=I.sq sx;obtain⟨vs,rv,ov⟩:=I.sq sy;obtain⟨u,hu,ad⟩:=ru.get hx;obtain⟨v,hv,ae⟩:=rv.get hy;have N:s.TypeIs (.ref z) "zip" := ⟨_,f,Z⟩
  unfold pyNext;refine W0 (A1h (wpAny_callSpecial?_slot (name:=Str.ofString "__next__") N A1d (A0h A1d N F.entry_zip_next (UH D f r C G L ou ov (by simpa using hu) (by simpa using hv) λg gZ gO gi gj gT gs gk=>Y6 ⟨_,Z,?_⟩) (F.args_zip_next_1 _))));refine wpAny_letOwnedTupleGo_zip (s:={s with heap:=g}) gZ λg2 ab R=>?_;obtain⟨nd,nl,nm⟩:=D;simp only[N8,D1,J9,Z7,A0c,O6,and_true,A0b]at nd;obtain⟨⟨zU,zO,zi,zj⟩,⟨UO,Ui,Uj⟩,⟨Oi,Oj⟩,ij⟩:=nd;have V:z<s.heap.objs.size:=F5 f;have kk:∀a o,a∉[z,O,i,j]->s.heap.get? a=some o->g2.get? a=some o:=λa o d e=>(R.2 a (λt=>d (by simp[t]))).trans (gk a o d e);have aa:∀a∈[z,O,i,j],GJ X M H a:=λa d=>Y a (by
   simp only[D1,J9,Z7]at d⊢;rcases d with t|t|t|t<;>simp[t])
  obtain⟨nT,J⟩:=I.pair (tk:=s.toks) kk aa ad ae ((R.2 _ (T4 V)).trans gT);refine⟨.ref s.heap.objs.size,_,J,Z,⟨_,x,y,Z,nT,Z,λaf q'=>by rw[I.sq_inj q' sx];exact hx,λag q'=>by rw[I.sq_inj q' sy];exact hy⟩,⟨ab,kk U _ ?_ r,⟨u,v,(R.2 O (W8 zO)).trans gO⟩,gi.move λo e=>(R.2 i (W8 zi)).trans e,gj.move λo e=>(R.2 j (W8 zj)).trans e⟩,λa d=>?_⟩
  .simp only[D1,J9,Z7,A0c];exact⟨W8 zU,UO,Ui,Uj⟩
  .have e:=(Y a d).1;have lt:a≠s.heap.objs.size:=by
    simp only[D1,J9,Z7]at d;rcases d with t|t|t|t|t<;>subst t
    .exact L9 V
    .exact L9 (F5 r)
    .exact L9 (F5 C)
    .obtain⟨o,e,_⟩:=G.there;exact L9 (F5 e)
    .obtain⟨o,e,_⟩:=L.there;exact L9 (F5 e)
   rw[Ar lt];exact e
 done:=by
  intro X hP hw hK hc k M s σ H E I Y B hg;subst hP hw hK;obtain⟨f,r,⟨p,q,C⟩,G,L⟩:=B;obtain⟨xs,ys,sx,sy,Q⟩:=hg;obtain⟨us,ru,ou⟩:=I.sq sx;obtain⟨vs,rv,ov⟩:=I.sq sy;have lu:=ru.length;have lv:=rv.length;have N:s.TypeIs (.ref z) "zip" := ⟨_,f,Z⟩
  have he:us.toArray[k]?=none\/vs.toArray[k]?=none:=Q.imp (λt=>by simp;lia) (λt=>by simp;lia);unfold pyNext;refine W0 (A1h (wpAny_callSpecial?_slot (name:=Str.ofString "__next__") N A1d (A0h A1d N F.entry_zip_next (UG (I.ok.hd hc) D f r C G L ou ov he λg e gk ge=>?_) (F.args_zip_next_1 _))));obtain⟨o,ho,ac⟩:=ge;refine W0 (wpAny_isInstance (T:="StopIteration") (b:=true) ⟨o,ho,ac⟩ isSubtype_stop (Y6 ⟨Z,?_⟩));exact I.turnedL (tk:=s.toks) gk λa d=>Y a (by
   simp only[D1,J9,Z7]at d⊢;rcases d with t|t|t|t<;>simp[t])
 self:=λ_ _ _ _ _ B h=>wpAny_pyIter_zip B.1 h
end
theorem DA.obj{b:Bool}{h:T_}{l:R_}{vs:M_}(x:DA b h l vs):∃o,h.get? l=some o:=by
 cases b with
 |true=>obtain⟨o,e,_⟩:=x;exact⟨o,e⟩
 |false=>obtain⟨o,e,_⟩:=x;exact⟨o,e⟩
theorem Ut(b:T_)(n:Nat)(d:b.objs.size=n+1):∃c,c=b.push {cls:=.type "enumerate",data:=.fields #[.none,.bool false,.ref n,rawInt 0,.none,.none]}/\IsEnum c (n+1) n 0 .none/\∀a o,b.get? a=some o->c.get? a=some o:=by
 refine⟨_,Z,?_,λa o e=>D0 _ e⟩;have q:=F8 b (o:={cls:=.type "enumerate",data:=.fields #[.none,.bool false,.ref n,rawInt 0,.none,.none]}) Z;rw[d]at q;exact q
set_option maxHeartbeats 1000000 in
theorem RI{b:Bool}(l:R_)(xs:M_):Meets (Builtin.«enumerate.__new__» ⟨[.type "enumerate",.ref l],[]⟩) (λ_ R s=>DA b s.heap l xs /\
   ∀g,IsEnum g (s.heap.objs.size+1) s.heap.objs.size 0 .none->Cy b g s.heap.objs.size l 0->(∀a o,s.heap.get? a=some o->g.get? a=some o)->R (.ok (.ret (.ref (s.heap.objs.size+1)))) {s with heap:=g}) :=
 .of_wp λprog w A R s h=>by
  obtain⟨n,g,d,tk,y⟩:=s;obtain⟨p,h⟩:=h;obtain⟨z,i⟩:=p.obj;have q:=sub_enumerate;have fin:∀f,Cy b f n.objs.size l 0->f.objs.size=n.objs.size+1->(∀c o,n.get? c=some o->f.get? c=some o)->∃v,Fin.done (Flow.ret (.ref f.objs.size))=Fin.done (Flow.ret v)/\R (.ok (.ret v)) ⟨f.push {cls:=.type "enumerate",data:=.fields #[.none,.bool false,.ref n.objs.size,rawInt 0,.none,.none]},g,d,tk,y⟩:=λf k j m=>by
   obtain⟨x,u,a1,r⟩:=Ut f n.objs.size j;refine⟨_,Z,?_⟩;have key:=h x a1 (k.move λo e=>r _ o e) λa o e=>r _ _ (m _ _ e);dsimp only at key;rw[u,<-j]at key;exact key
  wp_walk using AutoSeq1.wpAny_loadPart' i
  refine wpAny_stack_any λB=>Y6 ?_;split
  .rename_i t _ _ _ _ _;cases(t==Value.type "enumerate")
   .wp_walk using AutoSeq1.wpAny_loadPart' i,Fs p
    intro f k j m
    wp_walk
    exact fin f k j m
   .wp_walk using AutoSeq1.wpAny_loadPart' i,Fs p
    intro f k j m
    wp_walk
    exact fin f k j m
  .wp_walk using AutoSeq1.wpAny_loadPart' i,Fs p
   intro f k j m
   wp_walk
   exact fin f k j m
theorem OM{prog:N_}{w:Q_}{A:Around}{b:Bool}(i:A.handled=none)(I l:R_)(p:l≠I)(vs:M_) :
  Draws prog w A I [I,l] vs.size (λk v=>vs[k]?=some v) (λk h=>Cy b h I l k/\DA b h l vs) where
 live:=λ_ _ a=>let ⟨o,ho,_⟩:=a.1.there;⟨o,ho⟩
 frame:=λ_ _ _ a d=>⟨a.1.move λo e=>d I B0 o e,a.2.move λo e=>d l B0 o e⟩
 item:=λk s Q E c a n=>Dq a.1 a.2 (v:=vs[k]) (by simp[c]) λg m f=>n _ g s.toks (by simp[c]) ⟨m,a.2.move λo e=>(f.2 l p).trans e⟩ f
 done:=λs Q E a j=>FE i a.1 a.2 B0 j
noncomputable def Ite(K:O_)(b:Bool)(l:R_):It :=
 ⟨λi H=>∃xs x,SqX K b H l xs/\xs[i]?=some x,
  λi H v H'=>∃(T:R_)(x:V),v=.ref T/\H T=none/\H'=upd H T (.tup [.int i,x])/\∀xs,SqX K b H l xs->xs[i]?=some x,
  λi H=>∃xs,SqX K b H l xs/\xs.length=i⟩
theorem TB{P:N_}{w:Q_}{K:O_}{es:List Expr}{n:Nat}{r:Pos}{b:Bool}{e I l:R_}(D:e≠I)(le:l≠e)(lI:l≠I) :
  Qm P w K (.Tuple es n r) (Ite K b l) [e,I] e (λk h=>(∃c,IsEnum h e I k c)/\Cy b h I l k) where
 mem:=by simp
 obj:=λk h j a d=>by
  obtain⟨⟨c,f⟩,m⟩:=j;simp only[D1,J9,Z7]at d;rcases d with rfl|rfl
  .exact⟨_,f,λv t=>by cases t⟩
  .exact m.there
 keep:=λk h h' j kp=>by
  obtain⟨⟨c,f⟩,m⟩:=j;exact⟨⟨c,kp e B0 _ f⟩,m.move λo t=>kp I B0 o t⟩
 item:=by
  intro X M S L N k q s σ H E J y j O;subst M S L;obtain⟨⟨c,f⟩,m⟩:=j;obtain⟨xs,x,C,T⟩:=O;obtain⟨us,B,U⟩:=J.sq C;have lu:=B.length;have hk:k<xs.length:=(B9.mp T).1;refine wpAny_pyNext_enum_itemD (OM (b:=b) (A:=X.A.in1) (J.ok.hd N) I l lI us.toArray) f ⟨m,U⟩ (by simp;lia) D (by simp[D,W8 le]) λu g tk hu gE gS gT gs G=>⟨_,Z,?_⟩
  obtain⟨u',R,V⟩:=B.get T;have eu:u=u':=by
   have:us[k]?=some u:=by simpa using hu
   rw[R]at this;exact(Y8 this).symm
  subst eu;refine wpAny_letOwnedTupleGo_enum (s:={s with heap:=g,toks:=tk+1}) gE λg2 F Y=>?_;have p:e<s.heap.objs.size:=F5 f;have kk:∀a o,a∉[e,I]->s.heap.get? a=some o->g2.get? a=some o:=λa o d t=>(Y.2 a (λz=>d (by simp[z]))).trans (G a o (λz=>d (by simp[z])) (λz=>d (by simp[z])) t);obtain⟨nT,J2⟩:=J.pair (tk:=tk+1) (x:=.int k) (u:=.int k tk) kk y ⟨tk,Z⟩ V ((Y.2 _ (T4 p)).trans gT);refine⟨.ref s.heap.objs.size,_,J2,Z,⟨_,x,Z,nT,Z,λab q'=>by rw[J.sq_inj q' C];exact T⟩,⟨⟨_,by simpa using F⟩,gS.1.move λo t=>(Y.2 I (W8 D)).trans t⟩,λa d=>?_⟩;have t:=(y a d).1;have lt:a≠s.heap.objs.size:=by
   simp only[D1,J9,Z7]at d;rcases d with z|z<;>subst z
   .exact L9 p
   .obtain⟨o,t,_⟩:=m.there;exact L9 (F5 t)
  rw[Ar lt];exact t
 done:=by
  intro X M S L N k q s σ H E J y j O;subst M S L;obtain⟨⟨c,f⟩,m⟩:=j;obtain⟨xs,C,aa⟩:=O;obtain⟨us,B,U⟩:=J.sq C;have lu:=B.length;have ek:k=us.toArray.size:=by simp;lia
  refine wpAny_pyNext_enum_endD (OM (b:=b) (A:=X.A.in1) (J.ok.hd N) I l lI us.toArray) f ⟨ek▸m,U⟩ λg G=>⟨Z,?_⟩
  exact J.turnedL (tk:=s.toks) (ch:=[e,I]) (λa o d t=>G a o (λz=>d (by simp[z])) t) y
 self:=λA i s Q E j h=>by
  obtain⟨⟨c,f⟩,_⟩:=j;exact wpAny_pyIter_enum f h
section
variable{X:Cx}{es:List Expr}{n:Nat}{tpos p pos:Pos}{e1 e2:Expr}{t:TA}
def iZip(b c:Bool)(K:O_)(t:TA):TI:=fun σ H R=>t σ H λvs H1=>∃(l m:R_),vs=[.ref l,.ref m]/\(∃xs,SqX K b H1 l xs)/\(∃ys,SqX K c H1 m ys)/\R (Itz K b c l m) H1
theorem DA.lt{b:Bool}{h:T_}{l:R_}{vs:M_}(x:DA b h l vs):l<h.objs.size:=by
 cases b with
 |true=>obtain⟨o,e,_⟩:=x;exact F5 e
 |false=>obtain⟨o,e,_⟩:=x;exact F5 e
theorem apart5(n l m:Nat)(a:l<n)(b:m<n):Ty (n+4) (n+2) (n+3) n (n+1) l m:=by
 refine⟨(show([n+4,n+2,n+3,n,n+1]:J_).Nodup from ?_),(show l∉([n+4,n+3,n,n+1]:J_)from ?_),(show m∉([n+4,n+3,n,n+1]:J_)from ?_)⟩
 .simp only[N8,D1,J9,Z7,A0c,O6,and_true,A0b];lia
 .simp only[D1,J9,Z7,A0c];lia
 .simp only[D1,J9,Z7,A0c];lia
theorem pi_zip(b c:Bool)(E:Gl X "zip")(G:X.mg "zip" = none)(j:PA X [e1,e2] t)(L:starEach [e1,e2] X.env=[(false,eval e1 X.env),(false,eval e2 X.env)]:=by rfl)(e:starEach [e2] X.env=[(false,eval e2 X.env)]:=by rfl) :
  PI X (.Tuple es n tpos) (.Call (.Name "zip" p) [e1,e2] [] pos) (iZip b c X.K t):=by
 intro f s σ H R I h;refine Call_ (JH I E G PyProof.Rows.boot_zip (X5 (thn (j pos f s σ H _ I h) λus i D=>?_) (by rw[L,e]) (by rw[e];rfl)));obtain⟨vs,w,d,P,O⟩:=D;obtain⟨l,m,rfl,⟨xs,T⟩,⟨ys,U⟩,q⟩:=O;obtain⟨u,v,rfl,Q,S⟩:=P.two;cases(show u=Value.ref l from Q);cases(show v=Value.ref m from S);obtain⟨V,_,o⟩:=d.sq T;obtain⟨W,_,r⟩:=d.sq U;refine callType_new F.called_zip A3 (F.typeCall_zip_2 _ _) (F.newCall_zip_2 _ _) (λobj=>F.args_object_init_3 obj _ _) F.entry_zip_new (Ud (b:=b) (c:=c) l m V.toArray W.toArray) ⟨o,r,λg k y x z A B=>?_⟩;refine⟨⟨_,k,Z⟩,wpAny_pyIter_zip (s:={i with heap:=g}) k ?_⟩;have M:=o.lt;have N:=r.lt;have C:=apart5 i.heap.objs.size l m M N;refine⟨i.heap.objs.size+4,_,_,_,w,Z,d.kept (t':=i.toks) B,UN C,⟨k,y,⟨_,_,x⟩,z,A⟩,λa j=>?_,q⟩;have le:i.heap.objs.size<=a:=by
  simp only[D1,J9,Z7]at j;rcases j with t|t|t|t|t<;>rw[t]<;>first|exact C9 _|exact Q1 _ _
 exact d.fpOk le (d.hok.fresh le)
def iEnum(b:Bool)(K:O_)(t:TA):TI:=fun σ H R=>t σ H λvs H1=>∃(l:R_),vs=[.ref l]/\(∃xs,SqX K b H1 l xs)/\R (Ite K b l) H1
theorem Ps(b:Bool)(x:Gl X "enumerate")(y:X.mg "enumerate" = none)(i:PA X [e1] t)(z:starEach [e1] X.env=[(false,eval e1 X.env)]:=by rfl) :
  PI X (.Tuple es n tpos) (.Call (.Name "enumerate" p) [e1] [] pos) (iEnum b X.K t):=by
 intro d s σ H R I h;refine Call_ (JH I x y PyProof.Rows.boot_enumerate (X5 (thn (i pos d s σ H _ I h) λus c w=>?_) z Z));obtain⟨vs,o,f,B,A⟩:=w;obtain⟨l,rfl,⟨xs,D⟩,q⟩:=A;obtain⟨u,rfl,C⟩:=B.one;cases(show u=Value.ref l from C);obtain⟨E,_,m⟩:=f.sq D;refine callType_new F.called_enumerate A3 (F.typeCall_enumerate_1 _) (F.newCall_enumerate_1 _) (λobj=>F.args_object_init_2 obj _) F.entry_enumerate_new (RI (b:=b) l E.toArray) ⟨m,λg j r v=>?_⟩;refine⟨⟨_,j,Z⟩,wpAny_pyIter_enum (s:={c with heap:=g}) j ?_⟩;have k:=m.lt;refine⟨c.heap.objs.size+1,_,_,_,o,Z,f.kept (t':=c.toks) v,TB (e:=c.heap.objs.size+1) (I:=c.heap.objs.size) (l:=l) (Nat.succ_ne_self _) (L9 (Nat.lt_succ_of_lt k)) (L9 k),⟨⟨_,j⟩,r⟩,λa i=>?_,q⟩;have le:c.heap.objs.size<=a:=by
  simp only[D1,J9,Z7]at i;rcases i with t|t<;>rw[t]<;>first|exact C9 _|exact Q1 _ _
 exact f.fpOk le (f.hok.fresh le)
end
section
variable{K:O_}{b c:Bool}{l m:R_}{xs ys:List V}{σ:St}{H:Hp}
theorem Lk{K:O_}{i j:Nat}{T:R_}{x y:V}{σ:St}{H:Hp}{Q:St->Hp->Prop}(h:H T=some (.tup [x,y]))(q:Q ((σ.set i (some x)).set j (some y)) H):gTup K 2 (QX (NL i) (QX (NL j) gNil)) (.ref T) σ H Q :=
 ⟨T,_,Z,SqT.of h,Z,x,_,Z,y,_,Z,Z,q⟩
theorem NM{g:TG}{n:TS}{D:JJ}(a:Nat->St->Hp->Prop)(o:a 0 σ H)(t:∀i σ H,i<=xs.length->a i σ H->SqX K b H l xs)
  (u:∀i x σ H T,xs[i]?=some x->a i σ H->H T=none->g (.ref T) σ (upd H T (.tup [.int i,x])) fun f j=>n {D with nx:=a (i+1),ct:=a (i+1),bk:=D.nx} f j) (r:∀σ H,a xs.length σ H->D.nx σ H) :
  ∃W:Nat->Nat->St->Hp->Prop,(∃m,W 0 m σ H)/\∀i m σ H,W i m σ H ->
   ((Ite K b l).stop i H/\D.nx σ H)\/((Ite K b l).go i H/\∃N:St->Hp->Prop,(∀σ' d,N σ' d->∃k,k<m/\W (i+1) k σ' d)/\∀x d,(Ite K b l).yld i H x d->g x σ d fun f j=>n {D with nx:=N,ct:=N,bk:=D.nx} f j):=by
 refine⟨λi m σ H=>m=xs.length-i/\i<=xs.length/\a i σ H,⟨xs.length,by simp,L5 _,o⟩,?_⟩;rintro i m σ H ⟨rfl,s,p⟩;have q:=t i σ H s p;by_cases h:i<xs.length
 .refine .inr ⟨⟨xs,xs[i],q,by simp[h]⟩,a (i+1),fun σ' d A=>⟨xs.length-(i+1),by lia,Z,h,A⟩,λx d y=>?_⟩;obtain⟨T,z,rfl,w,rfl,v⟩:=y;exact u i z σ _ T (v xs q) p w
 .have e:i=xs.length:=by lia
  subst e;exact .inl ⟨⟨xs,q,Z⟩,r σ H p⟩
variable{k:Nat}{cs:J_}{g:TG}{tc:TT}{te:TE}{fin:List V->Hp->Prop}
theorem blk_zip(d:Nat->List V->Hp->Prop)(s:d 0 [] H)(u:∀i a H,d i a H->SqX K b H l xs/\SqX K c H m ys)
  (v:∀i x y a H T,xs[i]?=some x->ys[i]?=some y->d i a H->H T=none->Bt k cs g tc te σ (.ref T) a (upd H T (.tup [x,y])) (d (i+1))) (t:∀a H,d (min xs.length ys.length) a H->fin a H):GM k cs g tc te (Itz K b c l m) σ H fin:=by
 refine⟨λi n a H=>n=min xs.length ys.length-i/\i<=min xs.length ys.length/\d i a H,⟨min xs.length ys.length,by simp,L5 _,s⟩,?_⟩;rintro i n a H ⟨rfl,F,p⟩;obtain⟨j,o⟩:=u i a H p;by_cases f:i<min xs.length ys.length
 .have A:i<xs.length:=by lia
  have B:i<ys.length:=by lia
  refine .inr ⟨⟨xs,ys,xs[i],ys[i],j,o,by simp[A],by simp[B]⟩,d (i+1),λq r D=>⟨min xs.length ys.length-(i+1),by lia,Z,f,D⟩,λx r y=>?_⟩;obtain⟨T,z,E,rfl,C,rfl,w,h⟩:=y;exact v i z E a _ T (w xs j) (h ys o) p C
 .have e:i=min xs.length ys.length:=by lia
  subst e;exact .inl ⟨⟨xs,ys,j,o,by lia⟩,t a H p⟩
theorem blk_str{x:Str}(d:Nat->List V->Hp->Prop)(q:d 0 [] H)(s:∀i ch a H,x.cps.toList[i]?=some ch->d i a H->Bt k cs g tc te σ (.str ⟨#[ch]⟩) a H (d (i+1)))(r:∀a H,d x.cps.toList.length a H->fin a H):GM k cs g tc te (Its x) σ H fin:=by
 have o:x.cps.toList.length=x.cps.size:=by simp
 refine⟨λi m a H=>m=x.cps.size-i/\i<=x.cps.size/\d i a H,⟨x.cps.size,by simp,L5 _,q⟩,?_⟩;rintro i m a H ⟨rfl,u,p⟩;by_cases f:i<x.cps.size
 .refine .inr ⟨f,d (i+1),λj n t=>⟨x.cps.size-(i+1),by lia,Z,f,t⟩,λv n y=>?_⟩;obtain⟨e,ch,h,rfl⟩:=y;subst e;exact s i ch a _ (by simpa using h) p
 .have e:i=x.cps.size:=by lia
  subst e;exact .inl ⟨Z,r a H (by rw[o];exact p)⟩
end
theorem PE.or{X:Cx}{e:Expr}{t u:TE}(h:PE X e t)(h':PE X e u):PE X e (fun σ H Q=>t σ H Q\/u σ H Q):=by
 intro a s σ H Q I q;rcases q with q|q
 .exact h a s σ H Q I q
 .exact h' a s σ H Q I q
theorem rm{a b:Nat}{A:Around}(h:Du b A)(c:a<=b:=by first|decide|lia):Du a A:=h.mono c
structure Cal(P:N_)(w:Q_)(K:O_)(mg:C_)(base:T_)(CX:CXT)(k:Nat)(x:Str)(ps:K_)(sp:Sp):Prop where
ex:∃(f:R_)(fd:E_),AT P w K mg base CX k f fd ps sp/\mg x=some (.ref f)/\keepIn K (.ref f)=true/\DB K fd ps []
structure BD(P:N_)(w:Q_)(K:O_)(mg:C_)(base:T_)(CX:CXT)(k:Nat)(C:R_)(m:Str)(ps:K_)(sp:Sp):Prop where
ex:∃(f:R_)(fd:E_),AT P w K mg base CX k f fd ps sp/\Qn K C m f/\DB K fd ps []
cl:Cls K C
structure Qo(P:N_)(w:Q_)(K:O_)(mg:C_)(base:T_)(CX:CXT)(k:Nat)(x:Str)(C:R_)(ps:K_)(sp:Sp):Prop where
ex:∃(f:R_)(fd:E_),AT P w K mg base CX k f fd ps sp/\Mk K C f/\mg x=some (.ref C)/\DB K fd ps []
section
variable{X:Cx}{CX:CXT}{k:Nat}{C:R_}{ps:K_}{sp:Sp}{E:XK}{x m:Str}{p pos apos:Pos}{e o:Expr}{es:List Expr}{ta:TE}{t:TA}
theorem AB(c:Cal X.prog X.w X.K X.mg X.base CX k x ps sp)(n:Du k X.A)(i:Gl X x)(q:FJ CX X E)(d:PA X (e::es) t)(a:(x==("__debug__" : Str))=false:=by decide)
  (h:starEach (e::es) X.env=(false,eval e X.env)::starEach es X.env:=by rfl) (b:(backTo pos (starEach es X.env)).any (·.1)=false:=by rfl):PE X (.Call (.Name x p) (e::es) [] pos) (tCall sp [] E t):=by
 obtain⟨f,r,F,l,j,g⟩:=c.ex;exact pe_call F n i l j g .nil q d a h b
theorem Aw{pl:Sem Bool}(i:PE X o ta)(c:BD X.prog X.w X.K X.mg X.base CX k C m ps sp)(l:Du k X.A)(q:FJ CX X E)(g:PA X (e::es) t)
  (b:starEach (e::es) X.env=(false,eval e X.env)::starEach es X.env:=by rfl) (a:(backTo pos (starEach es X.env)).any (·.1)=false:=by rfl)
  (n:eval (.Call (.Attribute o m apos) (e::es) [] pos) X.env=(do
   let d <-eval o X.env;standAt apos.atName;let (f,first) <-holding [d] (getMethod d m pl);callWith pos f first (backTo pos (starEach (e::es) X.env)) (backToKw pos (keywordEach [] X.env))):=by rfl):PE X (.Call (.Attribute o m apos) (e::es) [] pos) (Sf C m sp [] E ta t):=by
 obtain⟨f,r,F,j,h⟩:=c.ex;exact pe_meth i c.cl j F l h .nil q g b a n
theorem JY(c:Qo X.prog X.w X.K X.mg X.base CX k x C ps sp)(l:Du (k+1) X.A)(i:Gl X x)(n:FJ CX X E)(d:PA X (e::es) t)(a:(x==("__debug__" : Str))=false:=by decide)
  (h:starEach (e::es) X.env=(false,eval e X.env)::starEach es X.env:=by rfl) (b:(backTo pos (starEach es X.env)).any (·.1)=false:=by rfl):PE X (.Call (.Name x p) (e::es) [] pos) (Sg C sp [] E t):=by
 obtain⟨f,q,F,M,j,g⟩:=c.ex;exact pe_make M F l i j g .nil n d a h b
theorem Vq(c:Qo X.prog X.w X.K X.mg X.base CX k x C ps sp)(h:Du (k+1) X.A)(d:Gl X x)(i:FJ CX X E)(a:(x==("__debug__" : Str))=false:=by decide):PE X (.Call (.Name x p) [] [] pos) (Sg C sp [] E OZ):=by
 obtain⟨f,j,F,M,g,b⟩:=c.ex;exact Vo M F h d g b .nil i a
theorem CS{i:Int}(c:Gl X x)(a:∃tk,X.mg x=some (.int i tk))(b:(x==("__debug__" : Str))=false:=by decide):PE X (.Name x pos) (tC (.int i)):=by
 obtain⟨tk,a⟩:=a;exact SJ c a ⟨tk,Z⟩ b
theorem MH{z:Str}(c:Gl X x)(a:∃tk,X.mg x=some (.str z tk))(b:(x==("__debug__" : Str))=false:=by decide):PE X (.Name x pos) (tC (.str z)):=by
 obtain⟨tk,a⟩:=a;exact SJ c a ⟨tk,Z⟩ b
end
noncomputable def cOk(So:Scope)(No:K_)(scope:Scope)(N:K_)(k:Nat)(cs:J_):Bool :=
 scope.names.all (λy=>y.2 != .cell) && (scope.kind==.function && (scope.names.all (λy=>y.2 != .local || scope.names.lookup y.1==some .local) && (scope.names.all (λy=>y.2 != .free || (So.names.lookup y.1==some .cell || So.names.lookup y.1==some .free)) &&
  (N.length==k+cs.length && (List.range cs.length).all λj=>match N[k+j]?,No[cs.getD j 0]? with
   |some x,some y=>x==y && scope.names.lookup x==some .free
   |_,_=>false))))
theorem Bn.of{X:Cx}{So:Scope}{No:K_}{a:Scope}{N:K_}{k:Nat}{cs:J_}(p:X.env.scope=So)(o:X.N=No)(h:cOk So No a N k cs=true):Bn X a N k cs:=by
 subst p o;unfold cOk at h;simp only[Q5,P2,bne_iff_ne,ne_eq,Bool.or_eq_true,A1f,J8]at h;obtain⟨f,g,i,l,m,n⟩:=h;refine⟨f,g,λy b e=>?_,λy b e=>?_,m,λj q=>?_⟩
 .rcases i y b with z|z
  .exact absurd e z
  .exact z
 .rcases l y b with z|z
  .exact absurd e z
  .exact z
 .have z:=n j q;split at z
  .rename_i x y c d;simp only[Q5,A1f]at z;obtain⟨r,s⟩:=z;subst r;exact⟨x,c,d,s⟩
  .cases z
theorem EQ{σ:St}{H:Hp}{A B:Hp->Prop}(h:A H):tYes σ H λb a=>if b=true then A a else B a:=by
 show if true=true then A H else B H;exact CT h
section
variable{X:Cx}{scope:Scope}{N:K_}{s:P_}{H:Hp}{ex:H_}{x y:Str}{px py pos:Pos}{k:Nat}
theorem AY{i:Nat}(b:N.Nodup)(c:N[i]?=some x)(a:(relabel scope X.env).names.lookup x=some .local):PG (cxC X scope N s H ex) (.Name x pos) (NL i):=AN (X:=cxC X scope N s H ex) b c (.inl a) (.inr a)
theorem Vm{i j:Nat}(b:X.calm=true)(a:N.Nodup)(c:N[i]?=some x)(d:N[j]?=some y)(e:(relabel scope X.env).names.lookup x=some .local)(f:(relabel scope X.env).names.lookup y=some .local) :
  PG (cxC X scope N s H ex) (.Tuple [.Name x px,.Name y py] k pos) (gTup X.K 2 (QX (NL i) (QX (NL j) gNil))) :=
 EJ (X:=cxC X scope N s H ex) b (AX (AY a c e) (AX (AY a d f) Dm))
end
theorem AV.strs:∀(l:K_)(k:Nat),AV (l.map V.str) (strsFrom k l)
|[],_=>.nil
|x::r,k=>.cons ⟨k,Z⟩ (AV.strs r (k+1))
section
variable{X:Cx}
theorem QP:MtR X "str.split" (λx xs H Q=>∃a b,x=.str a/\xs=[.str b]/\(b.length==0)=false/\a.length<=100000/\∀p,H p=none->Q (.ref p) (upd H p (.lst ((Txt.split a b).map V.str)))):=by
 intro g s σ H x xs v us Q I o r h;obtain⟨a,b,rfl,rfl,k,l,q⟩:=h;obtain⟨t,rfl⟩:=o;obtain⟨u,rfl,m⟩:=r.one;obtain⟨j,rfl⟩:=m;have big:a.length+2<=sizeLine:=D4 (R5 l 2) A3;have fin:∀(c:F_)(tk:Nat),AV ((Txt.split a b).map V.str) c->EP X g σ Q (.ref s.heap.objs.size) {s with heap:=s.heap.push {cls:=.type "list",data:=.seq c.toArray},toks:=tk}:=λc tk n =>
  ⟨.ref _,_,I.lnew (t':=tk) n (by rw[B8];exact D4 (split_le a b) big),Z,q _ I.fresh⟩
 by_cases d:(decide (a.length<b.length) || decide (Builtin.Str.strKind a<Builtin.Str.strKind b))=true
 .refine K6 F.slot_str_split (A1c _ _ _) F.entry_str_split (A2b _ _) (meets_str_split_cannot_occur a b t j d) ?_;refine fin _ s.toks ?_;unfold Txt.split;rw[W9 d];exact .cons ⟨t,Z⟩ .nil
 .have f:=V9.mpr d;by_cases i:(Builtin.Str.occurrences a b 0 a.length (a.length+1)).isEmpty=true
  .refine K6 F.slot_str_split (A1c _ _ _) F.entry_str_split (A2b _ _) (meets_str_split_not_found a b t j f k i) ?_;refine fin _ s.toks ?_;unfold Txt.split;rw[W4 d,W9 i];exact .cons ⟨t,Z⟩ .nil
  .have e:Txt.split a b=Builtin.Str.partsBetween a (Builtin.Str.occurrences a b 0 a.length (a.length+1)) b.length:=by
    unfold Txt.split;rw[W4 d,W4 i]
   refine K6 F.slot_str_split (A1c _ _ _) F.entry_str_split (A2b _ _) (meets_str_split_sep a b t j f k (V9.mpr i) A1 (by rw[<-e];exact D4 (split_le a b) big)) ?_;refine fin _ _ ?_;rw[e];exact AV.strs _ _
theorem PV:MtR X "str.partition" (λx xs H Q=>∃a b,x=.str a/\xs=[.str b]/\(b.length==0)=false/\a.length<=100000/\∀p,H p=none->Q (.ref p) (upd H p (.tup [.str (Txt.partition a b).1,.str (Txt.partition a b).2.1,.str (Txt.partition a b).2.2]))):=by
 intro d s σ H x xs v us Q I m r h;obtain⟨a,b,rfl,rfl,g,f,q⟩:=h;obtain⟨t,rfl⟩:=m;obtain⟨u,rfl,j⟩:=r.one;obtain⟨n,rfl⟩:=j;have fin:∀(c:F_)(tk:Nat),AV [.str (Txt.partition a b).1,.str (Txt.partition a b).2.1,.str (Txt.partition a b).2.2] c->EP X d σ Q (.ref s.heap.objs.size) {s with heap:=s.heap.push {cls:=.type "tuple",data:=.seq c.toArray},toks:=tk}:=λc tk k =>
  ⟨.ref _,_,I.laid (t':=tk) (o:=.tup [.str (Txt.partition a b).1,.str (Txt.partition a b).2.1,.str (Txt.partition a b).2.2]) (λ_ _ e=>D0 _ e) (C9 _) ⟨by show 3<=sizeLine;decide,c,k,_,F8 _ Z,Z,_,Z⟩,Z,q _ I.fresh⟩
 refine K6 F.slot_str_partition (A1c _ _ _) F.entry_str_partition (F.args_str_partition_2 _ _) (meets_str_partition a b t n g (D4 f A3)) ?_;show EP X d σ Q _ _;cases e:Builtin.Str.occurrences a b 0 a.length 1 with
 |nil =>
  refine fin _ _ ?_;unfold Txt.partition;rw[e];exact .cons ⟨_,Z⟩ (.cons ⟨_,Z⟩ (.cons ⟨_,Z⟩ .nil))
 |cons i l =>
  refine fin _ _ ?_;unfold Txt.partition;rw[e];exact .cons ⟨_,Z⟩ (.cons ⟨_,Z⟩ (.cons ⟨_,Z⟩ .nil))
theorem AV.tstrs:∀{l:K_}{a:F_},AV (l.map V.str) a->∃b:List (Str×Tok),a=strValues b/\b.map (·.1)=l
|[],_,.nil=>⟨[],Z,Z⟩
|x::r,_,.cons ⟨t,e⟩ rr=>by
 obtain⟨b,c,d⟩:=AV.tstrs rr;subst e c;exact⟨(x,t)::b,Z,by rw[J1,d]⟩
theorem MK:MtR X "str.join" (λx xs H Q=>∃(a:Str)(p:R_)(l:K_),x=.str a/\xs=[.ref p]/\SqL X.K H p (l.map V.str)/\JoinOk a l=true/\Q (.str (Str.join a l)) H):=by
 intro c s σ H x xs v us Q I j r h;obtain⟨a,p,l,rfl,rfl,d,b,q⟩:=h;obtain⟨t,rfl⟩:=j;obtain⟨u,rfl,f⟩:=r.one;cases(show u=Value.ref p from f);obtain⟨g,i,pl,_⟩:=I.list d;obtain⟨m,rfl,e⟩:=AV.tstrs i;refine SC.join (texts:=l) pl.isList e b λt' k=>⟨.str _,H,I.tok k,⟨t',Z⟩,?_⟩
 have:Txt.join a l=Str.join a l:=StrLaws.glued_eq_join a l;rw[this];exact q
theorem Rb(n:Int):∀{b:I_}{a:F_},AV (b.map V.int) a->a.countP (λy=>match y with|.int i _=>i==n|_=>false)=b.countP (· == n)
|[],_,.nil=>rfl
|x::r,_,.cons ⟨t,e⟩ rr=>by
 subst e;rw[List.countP_cons,List.countP_cons,Rb n rr]
theorem UL{c:I_}{a:F_}(h:AV (c.map V.int) a){y:S_}(b:y∈a):∃i t,y=.int i t:=by
 induction c generalizing a with
 |nil=>cases h;simp at b
 |cons n r d =>
  cases h with
  |cons q f =>
   obtain⟨t,e⟩:=q;rcases D1.mp b with z|z
   .exact⟨n,t,z.trans e⟩
   .exact d f z
theorem VG:MtR X "list.count" (λx xs H Q=>∃(l:R_)(b:I_)(n:Int),x=.ref l/\xs=[.int n]/\H l=some (.lst (b.map V.int))/\Q (.int (b.countP (· == n):Nat)) H):=by
 intro c s σ H x xs v us Q I m r h;obtain⟨l,b,n,rfl,rfl,f,q⟩:=h;cases m;obtain⟨u,rfl,g⟩:=r.one;obtain⟨tk,rfl⟩:=g;obtain⟨z,a,k,d,o,e⟩:=I.lstM f;refine K6 F.slot_list_count ⟨_,e,Z⟩ F.entry_list_count (F.args_list_count_2 _ _) (MeetsSeq.list_count l a.toArray k (.int n tk) (λy=>match y with|.int i _=>i==n|_=>false) (λy j=>?_)) ⟨e,?_⟩
 .obtain⟨i,t,rfl⟩:=UL d (by simpa using j);exact PySem.MeetsSeq.EqGives.int i n t tk
 .refine⟨.int _,H,I.tok _,⟨_,Z⟩,?_⟩;have:(List.countP (λy=>match y with|Value.int i _=>i==n|_=>false) a.toArray.toList)=b.countP (· == n):=Rb n (by simpa using d);rw[this];exact q
theorem IU:∀{b:I_}{a:F_},AV (b.map V.int) a->IntsAre a b
|[],_,.nil=>.nil
|x::r,_,.cons ⟨t,e⟩ rr=>by
 subst e;exact .cons _ t (IU rr)
theorem RB(i:X.A.units+64<cLine):OpR X (compareOp .Eq) (λx y H Q=>∃(a b:R_)(d c:I_),x=.ref a/\y=.ref b/\SqL X.K H a (d.map V.int)/\SqL X.K H b (c.map V.int)/\Q (.bl (decide (d=c))) H):=by
 intro e s σ H x y v u Q I n o h;obtain⟨a,b,d,c,rfl,rfl,f,g,q⟩:=h;cases n;cases o;obtain⟨xs,l,j,_⟩:=I.list f;obtain⟨ys,m,k,_⟩:=I.list g;exact W.eq_intsK j.isList (IU l) k.isList (IU m) i ⟨.bl _,H,I,Z,q⟩
theorem Nq(i:X.A.units+64<cLine):OpR X (compareOp .NotEq) (λx y H Q=>∃(a b:R_)(d c:I_),x=.ref a/\y=.ref b/\SqL X.K H a (d.map V.int)/\SqL X.K H b (c.map V.int)/\Q (.bl (!decide (d=c))) H):=by
 intro e s σ H x y v u Q I n o h;obtain⟨a,b,d,c,rfl,rfl,f,g,q⟩:=h;cases n;cases o;obtain⟨xs,l,j,_⟩:=I.list f;obtain⟨ys,m,k,_⟩:=I.list g;exact W.ne_intsK j.isList (IU l) k.isList (IU m) i ⟨.bl _,H,I,Z,q⟩
end
end L2
namespace L2
open PySem
section
variable{X:Cx}{es es':List Expr}{t t':TA}{pos:Pos}
theorem AJ{i:Int}{j}(a:PA X es t):PA X (.Constant (.int i) j pos::es) (CO (tC (.int i)) t):=Aa Ac a
theorem Px{z:Str}{j}(a:PA X es t):PA X (.Constant (.str z) j pos::es) (CO (tC (.str z)) t):=Aa GY a
theorem Gi(h:PA X es' t')(a:PA X es t):PA X (.List es' pos::es) (CO (tLst t') t):=Aa (Bq h) a
theorem BC{x1}(h:PA X es' t')(a:PA X es t):PA X (.Tuple es' x1 pos::es) (CO (UQ t') t):=Aa (CD h) a
theorem BI{c:Operator}{r:R2}{a b:Expr}{d e:TE}(h:OpR X (binaryOp c) r)(f:PE X a d)(g:PE X b e)(i:PA X es t):PA X (.BinOp a c b pos::es) (CO (tOp r d e) t):=Aa (AG h f g) i
theorem SV{K:O_}(h:X.K=K):IxR X (Jj K):=h▸Ap
theorem IT{K:O_}(h:X.K=K):IxR X (rIxL K):=h▸Au
end
theorem AL{P:Prop}(h:∀G:Prop,(P->G)->G):P:=h P id
theorem xq1{α:Sort _}{a:α}{P Q:α->Prop}(h:P a)(k:Q a):∃x,P x/\Q x:=⟨a,h,k⟩
theorem xq2{α β:Sort _}{a:α}{b:β}{P Q R:α->β->Prop}(h:P a b)(h':Q a b)(k:R a b):∃x y,P x y/\Q x y/\R x y:=⟨a,b,h,h',k⟩
theorem xq3{α β γ:Sort _}{a:α}{b:β}{c:γ}{P Q R S:α->β->γ->Prop}(h:P a b c)(h':Q a b c)(d:R a b c)(k:S a b c):∃x y z,P x y z/\Q x y z/\R x y z/\S x y z:=⟨a,b,c,h,h',d,k⟩
theorem xq4{α β γ δ:Sort _}{a:α}{b:β}{c:γ}{d:δ}{P Q R S T:α->β->γ->δ->Prop}(h:P a b c d)(h':Q a b c d)(e:R a b c d)(f:S a b c d)(k:T a b c d):∃x y z w,P x y z w/\Q x y z w/\R x y z w/\S x y z w/\T x y z w:=⟨a,b,c,d,h,h',e,f,k⟩
theorem lts{A:TS}{D:JJ}{σ:St}{H:Hp}(h:let s:=σ;let E:=D;A E s H):A D σ H:=h
theorem ltg{g:TG}{v:V}{σ:St}{H:Hp}{Q:St->Hp->Prop}(h:let s:=σ;g v s H Q):g v σ H Q:=h
theorem xq5{K:O_}{f:Str}{H:Hp}{a C c:R_}{fs:List (Str×V)}{v:V}{Q:V->Prop}(h:H a=some (.ins C c fs))(d:Cls K C)(e:BR K C f)(g:fs.lookup f=some v)(k:Q v):∃b C c fs w,V.ref a=.ref b/\H b=some (.ins C c fs)/\Cls K C/\BR K C f/\fs.lookup f=some w/\Q w:=⟨a,C,c,fs,v,Z,h,d,e,g,k⟩
theorem xw2{α β:Sort _}{a:α}{b:β}{P:α->Prop}{Q:α->β->Prop}{K:α->β->Prop}(e:P a)(f:Q a b)(k:K a b):∃c,P c/\∃d,Q c d/\K c d:=⟨a,e,b,f,k⟩
theorem xw3{α β γ:Sort _}{a:α}{b:β}{c:γ}{P:α->Prop}{Q:α->β->Prop}{R:α->β->γ->Prop}{K:α->β->γ->Prop}(g:P a)(h:Q a b)(i:R a b c)(k:K a b c):∃d,P d/\∃e,Q d e/\∃f,R d e f/\K d e f:=⟨a,g,b,h,c,i,k⟩
theorem xwb{α β γ:Sort _}{a:α}{b:β}{c:γ}{P:α->Prop}{Q:α->β->γ->Prop}{R:α->β->γ->Prop}{K:α->β->γ->Prop}(g:P a)(h:Q a b c)(i:R a b c)(k:K a b c):∃d,P d/\∃e f,Q d e f/\R d e f/\K d e f:=⟨a,g,b,c,h,i,k⟩
theorem xwm{α β γ δ:Sort _}{a:α}{b:β}{c:γ}{d:δ}{P:α->Prop}{Q:α->β->γ->δ->Prop}{R:α->β->γ->δ->Prop}{S:α->β->γ->δ->Prop}{K:α->β->γ->δ->Prop}(i:P a)(j:Q a b c d)(l:R a b c d)(m:S a b c d)(k:K a b c d):∃e,P e/\∃f g h,Q e f g h/\R e f g h/\S e f g h/\K e f g h:=⟨a,i,b,c,d,j,l,m,k⟩
theorem xwi{α β γ δ ε:Sort _}{a:α}{b:β}{c:γ}{d:δ}{e:ε}{P:α->Prop}{Q:α->β->γ->δ->ε->Prop}{R:α->β->γ->δ->ε->Prop}{S:α->β->γ->δ->ε->Prop}{T:α->β->γ->δ->ε->Prop}{K:α->β->γ->δ->ε->Prop}(l:P a)(m:Q a b c d e)(n:R a b c d e)(o:S a b c d e)(p:T a b c d e)(k:K a b c d e):∃f,P f/\∃g h i j,Q f g h i j/\R f g h i j/\S f g h i j/\T f g h i j/\K f g h i j:=⟨a,l,b,c,d,e,m,n,o,p,k⟩
theorem xwf{α β γ δ ε ζ:Sort _}{a:α}{b:β}{c:γ}{d:δ}{e:ε}{f:ζ}{P:α->Prop}{Q:α->β->γ->δ->ε->ζ->Prop}{R:α->β->γ->δ->ε->ζ->Prop}{S:α->β->γ->δ->ε->ζ->Prop}{T:α->β->γ->δ->ε->ζ->Prop}{U:α->β->γ->δ->ε->ζ->Prop}{K:α->β->γ->δ->ε->ζ->Prop}(n:P a)(o:Q a b c d e f)(p:R a b c d e f)(q:S a b c d e f)(r:T a b c d e f)(s:U a b c d e f)(k:K a b c d e f):∃g,P g/\∃h i j l m,Q g h i j l m/\R g h i j l m/\S g h i j l m/\T g h i j l m/\U g h i j l m/\K g h i j l m:=⟨a,n,b,c,d,e,f,o,p,q,r,s,k⟩
theorem xwn{α β γ δ ε:Sort _}{a:α}{b:β}{c:γ}{d:δ}{e:ε}{P:α->Prop}{Q:α->β->γ->δ->Prop}{R:α->β->γ->δ->Prop}{S:α->β->γ->δ->Prop}{T:α->β->γ->δ->ε->Prop}{K:α->β->γ->δ->ε->Prop}(l:P a)(m:Q a b c d)(n:R a b c d)(o:S a b c d)(p:T a b c d e)(k:K a b c d e):∃f,P f/\∃g h i,Q f g h i/\R f g h i/\S f g h i/\∃j,T f g h i j/\K f g h i j:=⟨a,l,b,c,d,m,n,o,e,p,k⟩
theorem xwj{α β γ δ ε ζ:Sort _}{a:α}{b:β}{c:γ}{d:δ}{e:ε}{f:ζ}{P:α->Prop}{Q:α->β->Prop}{R:α->β->γ->δ->ε->ζ->Prop}{S:α->β->γ->δ->ε->ζ->Prop}{T:α->β->γ->δ->ε->ζ->Prop}{U:α->β->γ->δ->ε->ζ->Prop}{K:α->β->γ->δ->ε->ζ->Prop}(n:P a)(o:Q a b)(p:R a b c d e f)(q:S a b c d e f)(r:T a b c d e f)(s:U a b c d e f)(k:K a b c d e f):∃g,P g/\∃h,Q g h/\∃i j l m,R g h i j l m/\S g h i j l m/\T g h i j l m/\U g h i j l m/\K g h i j l m:=⟨a,n,b,o,c,d,e,f,p,q,r,s,k⟩
theorem AO{A B:TS}{D:JJ}{σ:St}{H:Hp}(h:let r:=B D;let s:=σ;∀k:St->Hp->Prop,(∀{σ H},r σ H->k σ H)->let E:JJ:={D with nx:=k};A E s H):tSeq A B D σ H:=h _ λz=>z
end L2
namespace Nu
open PySem PySem.NumText PyProof.Rows
theorem ext{a b:Str}(h:a.cps.toList=b.cps.toList):a=b:=by
 obtain⟨⟨l⟩⟩:=a;obtain⟨⟨r⟩⟩:=b;cases h;rfl
theorem len(x:Str):x.length=x.cps.toList.length:=by simp[Str.length]
end Nu
namespace Tx
open PySem PySem.Builtin PySem.Builtin.Str PyProof.Rows
theorem CI(a b:Str):(a++b).cps.toList=a.cps.toList++b.cps.toList:=cps_toList_append a b
noncomputable def jl(sep:J_):List (List Nat)->List Nat
|[]=>[]
|[x]=>x
|x::y::r=>x++sep++jl sep (y::r)
theorem EB(a:Str):∀b:List Str,(Str.join a b).cps.toList=jl a.cps.toList (b.map λt=>t.cps.toList)
|[]=>rfl
|[x]=>rfl
|x::y::r=>by
 have e:Str.join a (x::y::r)=x++a++Str.join a (y::r):=rfl;rw[e,CI,CI,EB a (y::r)];rfl
theorem Qk{c:Nat}:∀{x y A B:J_},c∉x->c∉y->x++c::A=y++c::B->x=y/\A=B
|[],[],A,B,_,_,h=>⟨Z,by simpa using h⟩
|[],y::ys,A,B,_,hy,h=>by
 simp at h;exact absurd (by rw[h.1];exact D8) hy
|x::xs,[],A,B,hx,_,h=>by
 simp at h;exact absurd (by rw[<-h.1];exact D8) hx
|x::xs,y::ys,A,B,hx,hy,h=>by
 simp at h;obtain⟨e,h⟩:=h;obtain⟨a,b⟩:=Qk (x:=xs) (y:=ys) (λz=>hx (D9 _ z)) (λz=>hy (D9 _ z)) h;exact⟨by rw[e,a],b⟩
theorem RP(c:Nat)(s:J_):∀(as bs:List (List Nat)),as≠[]->bs≠[]->(∀t∈as,c∉t)->(∀t∈bs,c∉t)->jl (c::s) as=jl (c::s) bs->as=bs
|[],_,h,_,_,_,_=>absurd Z h
|_,[],_,h,_,_,_=>absurd Z h
|[x],[y],_,_,_,_,e=>by
 have a:x=y:=e;rw[a]
|[x],y::z::r,_,_,ha,_,e=>by
 have a:x=y++c::s++jl (c::s) (z::r):=e;exact absurd (by rw[a];simp) (ha x D8)
|x::z::r,[y],_,_,_,hb,e=>by
 have a:x++c::s++jl (c::s) (z::r)=y:=e;exact absurd (by rw[<-a];simp) (hb y D8)
|x::x2::r,y::y2::r',_,_,ha,hb,e=>by
 have a:x++c::(s++jl (c::s) (x2::r))=y++c::(s++jl (c::s) (y2::r')):=by
  have:x++c::s++jl (c::s) (x2::r)=y++c::s++jl (c::s) (y2::r'):=e
  simpa using this
 obtain⟨d,f⟩:=Qk (ha x D8) (hb y D8) a;have g:=List.append_cancel_left f;rw[d,RP c s (x2::r) (y2::r') B0 B0 (λt b=>ha t (D9 _ b)) (λt b=>hb t (D9 _ b)) g]
theorem OD {as bs:K_} (h:as.map (λt=>t.cps.toList)=bs.map λt=>t.cps.toList):as=bs:=by
 induction as generalizing bs with
 |nil=>cases bs with|nil=>rfl|cons=>simp at h
 |cons a r c =>
  cases bs with
  |nil=>simp at h
  |cons b q =>
   simp at h;rw[Nu.ext (a:=a) (b:=b) (by simpa using h.1),c (by simpa using h.2)]
theorem Qw(c:Nat)(a:K_)(b:a≠[])(f:∀t∈a,c∉t.cps.toList):Txt.split (Str.join ⟨#[c]⟩ a) ⟨#[c]⟩=a:=by
 refine OD (RP c [] _ _ ?_ ?_ ?_ ?_ ?_)
 .intro h;have:=split_pos (Str.join ⟨#[c]⟩ a) ⟨#[c]⟩;have g:(Txt.split (Str.join ⟨#[c]⟩ a) ⟨#[c]⟩).length=0:=by simpa using Y7 List.length h
  lia
 .simpa using b
 .intro t e;obtain⟨p,d,rfl⟩:=D7.mp e;exact StrLaws.split_free _ c p d
 .intro t e;obtain⟨p,d,rfl⟩:=D7.mp e;exact f p d
 .have h:=Y7 (λz:Str=>z.cps.toList) (StrLaws.join_split (Str.join ⟨#[c]⟩ a) ⟨#[c]⟩);rw[EB,EB]at h;exact h
theorem part_at(c:Nat)(a b:Str)(h:c∉a.cps.toList):Txt.partition (a++⟨#[c]⟩++b) ⟨#[c]⟩=(a,⟨#[c]⟩,b):=by
 have d:c∈(a++⟨#[c]⟩++b).cps.toList:=by rw[CI,CI];simp
 have v:=StrLaws.partition_sum (a++⟨#[c]⟩++b) ⟨#[c]⟩;have s:=partition_head (a++⟨#[c]⟩++b) ⟨#[c]⟩;have g:=StrLaws.found_one (a++⟨#[c]⟩++b) c;rw[W1 d]at g;have f:(Txt.partition (a++⟨#[c]⟩++b) ⟨#[c]⟩).2.1=⟨#[c]⟩:=by
  unfold Txt.partition;cases e:occurrences (a++⟨#[c]⟩++b) ⟨#[c]⟩ 0 (a++⟨#[c]⟩++b).length 1 with
  |nil=>rw[e]at g;simp at g
  |cons i l=>rfl
 have m:c∉(Txt.partition (a++⟨#[c]⟩++b) ⟨#[c]⟩).1.cps.toList:=by
  rcases s with ⟨_,no⟩|⟨i,e,r,no⟩
  .obtain⟨j,t⟩:=F6 d;exact absurd ((StrLaws.subAt_one _ c j).mpr t) (no j)
  .rw[e];exact StrLaws.part_free _ c 0 i (by have:i+1<=_:=r.1;lia) λk _ u=>no k u
 have e:(Txt.partition (a++⟨#[c]⟩++b) ⟨#[c]⟩).1.cps.toList++(Txt.partition (a++⟨#[c]⟩++b) ⟨#[c]⟩).2.1.cps.toList++(Txt.partition (a++⟨#[c]⟩++b) ⟨#[c]⟩).2.2.cps.toList=a.cps.toList++[c]++b.cps.toList:=by
  have n:=Y7 (λz:Str=>z.cps.toList) v;rw[CI,CI,CI,CI]at n;exact n
 rw[f]at e;have o:(Txt.partition (a++⟨#[c]⟩++b) ⟨#[c]⟩).1.cps.toList++c::(Txt.partition (a++⟨#[c]⟩++b) ⟨#[c]⟩).2.2.cps.toList=a.cps.toList++c::b.cps.toList:=by simpa using e
 obtain⟨p,q⟩:=Qk m h o;exact Prod.ext (Nu.ext p) (Prod.ext f (Nu.ext q))
theorem IZ{n:Int}(a:0<=n)(b:n<=9):(Str.ofString (toString n))=(⟨#[48+n.toNat]⟩:Str):=by
 obtain⟨m,rfl⟩:=M7 a;exact(show ∀m:Nat,m<10->(Str.ofString (toString (m:Int)))=(⟨#[48+(m:Int).toNat]⟩:Str) by decide +kernel) m A1
end Tx
namespace Tx
open PySem PySem.Builtin PySem.Builtin.Str PyProof.Rows
theorem RO:∀a:List (List Nat),jl [] a=a.flatten
|[]=>rfl
|[x]=>by simp[jl]
|x::y::r=>by
 show x++[]++jl [] (y::r)=_;rw[RO (y::r)];simp
theorem Te(c:Str)(m:Nat):∀(l:K_)(b:Nat),(∀t∈l,t.length<=m)->l.foldl (λa t=>a+t.length+c.length) b<=b+l.length*(m+c.length)
|[],b,_=>by simp
|t::r,b,h=>by
 have e:=h t D8;have f:=Te c m r (b+t.length+c.length) λz d=>h z (D9 _ d);rw[R9,F7,T2];lia
theorem MP{b:Str}{l:K_}(m:Nat)(h:∀t∈l,t.length<=m)(d:l.length*(m+b.length)<=100000):JoinOk b l=true:=by
 unfold JoinOk;have c:=Te b m l 0 h;have e:l.toArray.foldl (λa t=>a+t.length+b.length) 0=l.foldl (λa t=>a+t.length+b.length) 0:=by simp
 rw[e];have:tooLong (l.foldl (λa t=>a+t.length+b.length) 0)=false:=by
  unfold tooLong;refine W3 ?_;have:(100000:Nat)<=sizeLine:=by decide
  lia
 rw[this];rfl
theorem app_len(a b:Str):(a++b).length=a.length+b.length:=by
 rw[Nu.len,Nu.len,Nu.len,CI,C6]
end Tx
namespace Tx
open PySem PySem.Builtin PySem.Builtin.Str PyProof.Rows
theorem Wl(x:Str)(c d k:Nat)(e:x.cps.toList[k]?=some c)(a:x.cps.toList[k+1]?=some d):StrLaws.At x ⟨#[c,d]⟩ x.length k:=by
 have l:k+1<x.cps.toList.length:=(B9.mp a).1;refine⟨?_,?_⟩
 .show k+2<=x.length;rw[Nu.len];lia
 .rw[StrLaws.subAt_eq];show((x.cps.toList.drop k).take 2==[c,d])=true;have b:x.cps.toList.drop k=c::d::x.cps.toList.drop (k+2):=by
   rw[S4 A1,(B9.mp e).2,S4 l,(B9.mp a).2]
  rw[b];simp
def Led(c d:Nat)(l:J_):Prop:=∀k:Nat,l[k]?=some c->l[k+1]?=some d
theorem Np{x:Str}{c d a b:Nat}(l:Led c d x.cps.toList)(m:b<=x.length)(i:∀k,a<=k->k<b->¬StrLaws.At x ⟨#[c,d]⟩ x.length k):c∉(strSub x a b).cps.toList:=by
 intro g;rw[StrLaws.strSub_toList]at g;obtain⟨j,e⟩:=F6 g;have f:j<b-a:=by
  have h:j<((x.cps.toList.drop a).take (b-a)).length:=(B9.mp e).1;rw[M6]at h;lia
 rw[S6 f,List.getElem?_drop]at e;exact i (a+j) A1 A1 (Wl x c d (a+j) e (l _ e))
theorem Mm{x:Str}{c d:Nat}(j:Led c d x.cps.toList):∀(b:J_)(a f:Nat),StrLaws.ChainG x ⟨#[c,d]⟩ x.length a b f->(∀k,f<=k->¬StrLaws.At x ⟨#[c,d]⟩ x.length k)->∀p∈StrLaws.partsFrom x 2 a b,c∉p.cps.toList
|[],a,f,h,hn,p,hp=>by
 have e:f=a:=h;subst e;rw[C8.mp hp];exact Np j (C9 _) λk l _=>hn k l
|g::r,a,f,h,hn,p,hp=>by
 rcases D1.mp hp with rfl|i
 .exact Np j (by have:g+2<=_:=h.2.1.1;lia) h.2.2.1
 .exact Mm j r _ f h.2.2.2 hn p i
theorem kind_le(x:Str):¬Builtin.Str.strKind x<Builtin.Str.strKind (⟨#[59,32]⟩:Str):=by
 have e:Builtin.Str.strKind (⟨#[59,32]⟩:Str)=1:=by simp[Builtin.Str.strKind]
 rw[e];unfold Builtin.Str.strKind;split
 .decide
 .split<;>decide
theorem Qx{x:Str}(m:Led 59 32 x.cps.toList):∀p∈Txt.split x ⟨#[59,32]⟩,59∉p.cps.toList:=by
 obtain⟨f,c,l⟩:=StrLaws.occ_tight x ⟨#[59,32]⟩ A3;have a:59∈x.cps.toList->∃k,StrLaws.At x ⟨#[59,32]⟩ x.length k:=λb=>by
  obtain⟨j,i⟩:=F6 b;exact⟨j,Wl x 59 32 j i (m j i)⟩
 unfold Txt.split;split
 .rename_i g;intro p e;rw[C8.mp e];intro b;obtain⟨k,d⟩:=a b;have q:k+2<=x.length:=d.1;rw[Bool.or_eq_true,decide_eq_true_eq,decide_eq_true_eq]at g;rcases g with h|h
  .have r:x.length<2:=h;lia
  .exact kind_le x h
 .split
  .rename_i n;intro p e;rw[C8.mp e];intro b;obtain⟨k,d⟩:=a b;rw[List.isEmpty_iff.mp n]at c;have o:f=0:=c;exact l k A1 d
  .rw[StrLaws.partsBetween_eq];exact Mm m _ 0 f c l
theorem VM{c d:Nat}(a:c≠d):∀b:List (List Nat),(∀t∈b,c∉t)->Led c d (jl [c,d] b)
|[],_=>λk h=>by simp[jl]at h
|[x],hf=>λk h=>absurd (D6 (show x[k]?=some c from h)) (hf x D8)
|x::y::r,hf=>λk h=>by
 have j:=VM a (y::r) λt i=>hf t (D9 _ i);have e:jl [c,d] (x::y::r)=x++(c::d::jl [c,d] (y::r)):=by
  show x++[c,d]++jl [c,d] (y::r)=_;simp
 rw[e]at h⊢;by_cases f:k<x.length
 .rw[J3 f]at h;exact absurd (D6 h) (hf x D8)
 .rw[F1 A1]at h;rw[F1 A1];obtain⟨m,g⟩:∃m,k-x.length=m:=⟨_,Z⟩
  rw[show k+1-x.length=m+1 by lia];rw[g]at h;cases m with
  |zero=>rfl
  |succ m =>
   cases m with
   |zero =>
    have:some d=some c:=h;exact absurd (Y8 this).symm a
   |succ m =>
    rw[T0,T0]at h⊢;exact j m h
theorem Qv(a:K_)(d:a≠[])(f:∀t∈a,59∉t.cps.toList):Txt.split (Str.join ⟨#[59,32]⟩ a) ⟨#[59,32]⟩=a:=by
 have e:Led 59 32 (Str.join ⟨#[59,32]⟩ a).cps.toList:=by
  rw[EB];refine VM A3 _ λt c=>?_;obtain⟨p,b,rfl⟩:=D7.mp c;exact f p b
 refine OD (RP 59 [32] _ _ ?_ ?_ ?_ ?_ ?_)
 .intro h;have:=split_pos (Str.join ⟨#[59,32]⟩ a) ⟨#[59,32]⟩;have g:(Txt.split (Str.join ⟨#[59,32]⟩ a) ⟨#[59,32]⟩).length=0:=by simpa using Y7 List.length h
  lia
 .simpa using d
 .intro t c;obtain⟨p,b,rfl⟩:=D7.mp c;exact Qx e p b
 .intro t c;obtain⟨p,b,rfl⟩:=D7.mp c;exact f p b
 .have h:=Y7 (λz:Str=>z.cps.toList) (StrLaws.join_split (Str.join ⟨#[59,32]⟩ a) ⟨#[59,32]⟩);rw[EB,EB]at h;exact h
end Tx
namespace L2
open PySem PySem.Spec PyProof.Rows
section
variable{κ:Type}[DecidableEq κ]
noncomputable def BP(kvs:List (κ×V))(k:κ):Option V:=(kvs.find? λkv=>decide (kv.1=k)).map (·.2)
noncomputable def EI(kvs:List (κ×V))(k:κ)(v:V):List (κ×V) :=
 if(kvs.any λkv=>decide (kv.1=k))=true then kvs.map (λkv=>if kv.1=k then(kv.1,v)else kv)else kvs++[(k,v)]
theorem BS{p:κ×V}{r:List (κ×V)}{k:κ}(e:p.1=k):BP (p::r) k=some p.2:=by simp[BP,O0,e]
theorem Bv{p:κ×V}{r:List (κ×V)}{k:κ}(e:¬p.1=k):BP (p::r) k=BP r k:=by simp[BP,O0,e]
theorem Ix(k:κ):∀a:List (κ×V),(a.any λb=>decide (b.1=k))=(BP a k).isSome
|[]=>rfl
|p::r=>by
 rw[S7];by_cases e:p.1=k
 .simp only[BS e,W1 e,Bool.true_or,Option.isSome_some]
 .rw[Bv e,W3 e,Bool.false_or];exact Ix k r
theorem Qp(k j:κ)(y:V):∀a:List (κ×V),BP (a.map λb=>if b.1=k then(b.1,y)else b) j=(BP a j).map λx=>if j=k then y else x
|[]=>rfl
|p::r=>by
 have c:=Qp k j y r;rw[J1];by_cases h:p.1=k
 .rw[W9 h];by_cases e:p.1=j
  .rw[BS (p:=(p.1,y)) e,BS e,T7,W9 (e.symm.trans h)]
  .rw[Bv (p:=(p.1,y)) e,Bv e,c]
 .rw[W4 h];by_cases e:p.1=j
  .rw[BS (p:=p) e,BS e,T7,W4 (λz=>h (e.trans z))]
  .rw[Bv (p:=p) e,Bv e,c]
theorem Ov(k j:κ)(y:V):∀a:List (κ×V),BP a k=none->BP (a++[(k,y)]) j=if j=k then some y else BP a j
|[],_=>by
 by_cases e:k=j
 .rw[W9 e.symm];exact BS (p:=(k,y)) e
 .rw[W4 (λz=>e z.symm)];exact Bv (p:=(k,y)) e
|p::r,hn=>by
 rw[List.cons_append];have b:¬p.1=k:=λz=>by rw[BS z]at hn;cases hn
 rw[Bv b]at hn;have c:=Ov k j y r hn;by_cases e:p.1=j
 .rw[BS e,BS e,W4 (λz=>b (e.trans z))]
 .rw[Bv e,Bv e,c]
theorem MT(b:List (κ×V))(k j:κ)(y:V):BP (EI b k y) j=if j=k then some y else BP b j:=by
 unfold EI;by_cases a:(b.any λd=>decide (d.1=k))=true
 .rw[W9 a,Qp];rw[Ix]at a;by_cases e:j=k
  .obtain⟨x,c⟩:=Option.isSome_iff_exists.mp a;rw[W9 e,e,c,T7,W9 rfl]
  .rw[W4 e];cases BP b j with
   |none=>rfl
   |some x=>rw[T7,W4 e]
 .rw[W4 a];refine Ov k j y b ?_;rw[Ix]at a;cases q:BP b k with
  |none=>rfl
  |some x=>rw[q]at a;exact(a Z).elim
theorem FX(a:List (κ×V))(k:κ)(v:V):(EI a k v).length<=a.length+1:=by
 unfold EI;split
 .rw[B8];lia
 .rw[C6,F7,R0];lia
theorem IE{a:List (κ×V)}{k:κ}(v:V)(h:BP a k=none):EI a k v=a++[(k,v)]:=by
 unfold EI;rw[Ix,h];exact W4 A3
theorem Iw.isSome_eq{o:Option V}{u:Option Value}(r:Iw o u):o.isSome=u.isSome:=by
 cases o with
 |none=>cases u with
  |none=>rfl
  |some _=>exact(show False from r).elim
 |some _=>cases u with
  |none=>exact(show False from r).elim
  |some _=>rfl
theorem Iw.getD{o:Option V}{u:Option Value}{d:V}{d':S_}(r:Iw o u)(a:Bg d d'):Bg (o.getD d) (u.getD d'):=by
 cases o with
 |none=>cases u with
  |none=>exact a
  |some _=>exact(show False from r).elim
 |some _=>cases u with
  |none=>exact(show False from r).elim
  |some _=>exact r
theorem KV.val{a:List (κ×V)}{vs:List (κ×Value)}(r:KV a vs)(k:κ):Iw (BP a k) (valueAt vs k):=by
 unfold KV at r;induction r with
 |nil=>exact True.intro
 |@cons p q ps d h t i =>
  obtain⟨f,g⟩:=h;by_cases e:p.1=k
  .have c:q.1=k:=f.symm.trans e;have b:valueAt (q::d) k=some q.2:=by simp[valueAt,O0,c]
   rw[BS e,b];exact g
  .have c:¬q.1=k:=λz=>e (f.trans z);have b:valueAt (q::d) k=valueAt d k:=by simp[valueAt,O0,c]
   rw[Bv e,b];exact i
theorem KV.any{a:List (κ×V)}{vs:List (κ×Value)}(r:KV a vs)(k:κ):(a.any λb=>decide (b.1=k))=vs.any λb=>decide (b.1=k):=by
 unfold KV at r;induction r with
 |nil=>rfl
 |cons h t c=>rw[S7,S7,c,h.1]
theorem KV.repl{b:List (κ×V)}{vs:List (κ×Value)}(r:KV b vs)(k:κ){y:V}{u:S_}(g:Bg y u) :
  KV (b.map λa=>if a.1=k then(a.1,y)else a) (vs.map λa=>if a.1=k then(a.1,u)else a):=by
 unfold KV at r⊢;induction r with
 |nil=>exact .nil
 |@cons p q ps i h t f =>
  rw[J1,J1];refine .cons ?_ f;obtain⟨c,d⟩:=h;by_cases e:p.1=k
  .rw[W9 e,W9 (c.symm.trans e)];exact⟨c,g⟩
  .rw[W4 e,W4 (λz=>e (c.trans z))];exact⟨c,d⟩
theorem KV.put{a:List (κ×V)}{vs:List (κ×Value)}(r:KV a vs)(k:κ){y:V}{u:S_}(b:Bg y u):KV (EI a k y) (stored vs k u):=by
 unfold EI stored;rw[r.any k];by_cases e:(vs.any λc=>decide (c.1=k))=true
 .rw[W9 e,W9 e];exact r.repl k b
 .rw[W4 e,W4 e];exact Z5 r ⟨Z,b⟩
theorem KV.length{a:List (κ×V)}{vs:List (κ×Value)}(r:KV a vs):a.length=vs.length:=Y4 r
end
theorem OH{P:N_}{w:Q_}{k:Key}{u:S_}(r:Bg (kV k) u):(CH P w).is k u=true:=by
 cases k with
 |inl i=>obtain⟨t,e⟩:=(show ∃t,u=Value.int i t from r);subst e;exact QR P w i t
 |inr x=>obtain⟨t,e⟩:=(show ∃t,u=Value.str x t from r);subst e;exact QQ P w x t
theorem OI{P:N_}{w:Q_}:∀{a:List Key}{us:F_},AV (a.map kV) us->ItemsAre (CH P w) a us
|[],_,r=>by rw[List.map_nil]at r;cases r;exact .nil
|k::a,_,r=>by
 rw[J1]at r;cases r with
 |cons h t=>exact .cons (OH h) (OI t)
abbrev KT(H:Hp):List (List Key×V)->List (List Key×Addr×Value)->Prop:=Paired λp q=>p.1=q.1/\H q.2.1=some (.tup (p.1.map kV))/\Bg p.2 q.2.2
theorem KT.val{H:Hp}{a:List (List Key×V)}{xs:List (List Key×Addr×Value)}(r:KT H a xs)(k:List Key):Iw (BP a k) ((atKey xs k).map (·.2)):=by
 induction r with
 |nil=>exact True.intro
 |@cons p q ps d h t i =>
  obtain⟨f,_,g⟩:=h;by_cases e:p.1=k
  .have c:q.1=k:=f.symm.trans e;have b:atKey (q::d) k=some q.2:=by simp[atKey,O0,c]
   rw[BS e,b];exact g
  .have c:¬q.1=k:=λz=>e (f.trans z);have b:atKey (q::d) k=atKey d k:=by simp[atKey,O0,c]
   rw[Bv e,b];exact i
theorem KT.repl{H:Hp}{a:List (List Key×V)}{xs:List (List Key×Addr×Value)}(r:KT H a xs)(k:List Key){y:V}{u:S_}(i:Bg y u) :
  KT H (a.map λc=>if c.1=k then(c.1,y)else c) (xs.map (putAt k u)):=by
 induction r with
 |nil=>exact .nil
 |@cons p q ps j h t g =>
  rw[J1,J1];refine .cons ?_ g;obtain⟨b,d,f⟩:=h;unfold putAt;by_cases e:p.1=k
  .rw[W9 e,W9 (b.symm.trans e)];exact⟨b,d,i⟩
  .rw[W4 e,W4 (λz=>e (b.trans z))];exact⟨b,d,f⟩
theorem KT.put{H:Hp}{a:List (List Key×V)}{xs:List (List Key×Addr×Value)}(r:KT H a xs)(k:List Key){b:R_}{y:V}{u:S_}(d:H b=some (.tup (k.map kV)))(c:Bg y u) :
  KT H (EI a k y) (storedH xs k b u):=by
 have e:(a.any λf=>decide (f.1=k))=(atKey xs k).isSome:=by
  rw[Ix,(r.val k).isSome_eq,V3]
 unfold EI storedH;rw[e];by_cases q:(atKey xs k).isSome=true
 .rw[W9 q,W9 q];exact r.repl k c
 .rw[W4 q,W4 q];exact Z5 r ⟨Z,d,c⟩
theorem KT.keeps{H c:Hp}{a:List (List Key×V)}{xs:List (List Key×Addr×Value)}(r:KT H a xs)(d:∀b ys,H b=some (.tup ys)->c b=some (.tup ys)):KT c a xs :=
 Paired.mapP r λ_ _ z=>⟨z.1,d _ _ z.2.1,z.2.2⟩
section
variable{P:N_}{w:Q_}{H:Hp}{h:T_}{a:R_}
theorem rd_of{u:HO}(ok:HOk P w H h)(e:Rd H a u):Ca P w H h a u:=e.ok ok
theorem NO{b:List (Key×V)}(ok:HOk P w H h)(e:Rd H a (.dK b)):b.length<=sizeLine/\(a==sysModules)=false/\∃vs,KV b vs/\h.DictOf (CH P w) a vs :=
 show Ca P w H h a (.dK b)from rd_of ok e
theorem dk_of{b:List (Key×V)}(ok:HOk P w H h)(e:H a=some (.dK b)):b.length<=sizeLine/\(a==sysModules)=false/\∃vs,KV b vs/\h.DictOf (CH P w) a vs:=NO ok (.inl e)
theorem Mf{c:List Key}(ok:HOk P w H h)(e:H a=some (.tup (c.map kV))):(tupleKind (CH P w)).is h c a:=by
 obtain⟨_,b,r,o,d,f,n,g⟩:=(show Ca P w H h a (.tup (c.map kV))from ok a _ e)
 exact⟨o,b.toArray,n,d,f,g,by simpa using OI r⟩
theorem Ms{b:List (List Key×V)}(ok:HOk P w H h)(e:Rd H a (.dT b)):b.length<=sizeLine/\(a==sysModules)=false /\
  ∃xs,KT H b xs/\h.DictOfH (tupleKind (CH P w)) a xs:=by
 obtain⟨z,y,xs,r,o,g,f,i,j,k,n,s⟩:=(show Ca P w H h a (.dT b)from rd_of ok e)
 refine⟨z,y,xs,r,o,g,f,i,j,k,n,λx c=>?_,s⟩;have all:∀{l:List (List Key×V)}{m:List (List Key×Addr×Value)},KT H l m->∀x∈m,(tupleKind (CH P w)).is h x.1 x.2.1:=by
  intro l m q;induction q with
  |nil=>intro x c;exact nomatch c
  |@cons p q ps v d t u =>
   intro x c;rcases D1.mp c with e|c
   .subst e;exact Mf ok (by rw[<-d.1];exact d.2.1)
   .exact u x c
 exact all r x c
theorem dt_of{b:List (List Key×V)}(ok:HOk P w H h)(e:H a=some (.dT b)):b.length<=sizeLine/\(a==sysModules)=false /\
 ∃xs,KT H b xs/\h.DictOfH (tupleKind (CH P w)) a xs:=Ms ok (.inl e)
end
def FM(H:Hp)(a:R_)(y:V)(r:Option V):Prop :=
 (∃kvs k,Rd H a (.dK kvs)/\y=kV k/\r=BP kvs k)\/∃kvs k b,Rd H a (.dT kvs)/\y=.ref b/\H b=some (.tup (k.map kV))/\r=BP kvs k
def LB(H:Hp)(a:R_)(y v:V)(H':Hp):Prop :=
 (∃kvs k,H a=some (.dK kvs)/\y=kV k/\kvs.length<sizeLine/\H'=upd H a (.dK (EI kvs k v))) \/
 ∃kvs k b,H a=some (.dT kvs)/\y=.ref b/\H b=some (.tup (k.map kV))/\kvs.length<sizeLine/\H'=upd H a (.dT (EI kvs k v))
theorem FM.k{H:Hp}{a:R_}{b:List (Key×V)}{k:Key}(e:H a=some (.dK b)):FM H a (kV k) (BP b k):=.inl ⟨b,k,.inl e,Z,Z⟩
theorem FM.t{H:Hp}{a b:R_}{c:List (List Key×V)}{k:List Key}(e:H a=some (.dT c))(d:H b=some (.tup (k.map kV))):FM H a (.ref b) (BP c k):=.inr ⟨c,k,b,.inl e,Z,d,Z⟩
theorem LB.k{H:Hp}{a:R_}{b:List (Key×V)}{k:Key}{v:V}(e:H a=some (.dK b))(c:b.length<sizeLine):LB H a (kV k) v (upd H a (.dK (EI b k v))):=.inl ⟨b,k,e,Z,c,Z⟩
theorem LB.t{H:Hp}{a b:R_}{c:List (List Key×V)}{k:List Key}{v:V}(e:H a=some (.dT c))(d:H b=some (.tup (k.map kV)))(f:c.length<sizeLine) :
 LB H a (.ref b) v (upd H a (.dT (EI c k v))):=.inr ⟨c,k,b,e,Z,d,f,Z⟩
section
variable{X:Cx}{pins:A_}{σ:St}{H:Hp}{s:P_}{a:R_}{y v:V}{u r:S_}{o:Option V}{A:Around}{E:B_}
theorem Inv.big(I:Inv X pins σ H s):sysModules<s.heap.objs.size:=by
 have h:mainGlobals<s.heap.objs.size:=(I.mod.glob.keeps I.bk).lt;exact N4 A3 h
theorem Uv{Q:B_}(D:A.units+1<cLine)(I:Inv X pins σ H s)(g:FM H a y (some v))(q:Bg y u)(h:∀f t,Inv X pins σ H t->Bg v f->Q f t) :
  wpAny (model X.prog X.w) A (getItem (.ref a) u) Q E s:=by
 rcases g with ⟨n,k,e,i,l⟩|⟨n,k,b,e,i,x,l⟩
 .subst i;obtain⟨z,B,vs,c,dd⟩:=NO I.hok e;obtain⟨f,m,d⟩:=Iw.some_of (v:=v) (o:=valueAt vs k) (by rw[l];exact c.val k);exact wpAny_getItem_of (OH q) dd.mapOf m (h f _ (I.tok _) d)
 .subst i;cases(show u=Value.ref b from q);obtain⟨z,B,xs,c,dd⟩:=Ms I.hok e;obtain⟨f,m,d⟩:=Iw.some_of (v:=v) (o:=(atKey xs k).map (·.2)) (by rw[l];exact c.val k);obtain⟨p,C,j⟩:=D5.mp m;refine wpAny_getItem_heap (K7 D) (Mf I.hok x) dd C ?_;rw[j];exact h f _ (I.tok _) d
theorem d_in{Q:B_}(p:A.units+1<cLine)(I:Inv X pins σ H s)(g:FM H a y o)(j:Bg y u)(h:∀m,Inv X pins σ H m->Q (.bool o.isSome) m) :
  wpAny (model X.prog X.w) A (compareOp .In u (.ref a)) Q E s:=by
 rcases g with ⟨i,k,e,d,l⟩|⟨i,k,b,e,d,n,l⟩
 .subst d;obtain⟨z,f,vs,c,dd⟩:=NO I.hok e;refine wpAny_in_of (OH j) f dd.mapOf ?_;rw[<-(c.val k).isSome_eq,<-l];exact h _ (I.tok _)
 .subst d;cases(show u=Value.ref b from j);obtain⟨z,f,xs,c,dd⟩:=Ms I.hok e;refine wpAny_in_heap (K7 p) (Mf I.hok n) f dd ?_;have q:=(c.val k).isSome_eq;rw[V3]at q;rw[<-q,<-l];exact h _ (I.tok _)
theorem d_notIn{Q:B_}(p:A.units+1<cLine)(I:Inv X pins σ H s)(g:FM H a y o)(j:Bg y u)(h:∀m,Inv X pins σ H m->Q (.bool (!o.isSome)) m) :
  wpAny (model X.prog X.w) A (compareOp .NotIn u (.ref a)) Q E s:=by
 rcases g with ⟨i,k,e,d,l⟩|⟨i,k,b,e,d,n,l⟩
 .subst d;obtain⟨z,f,vs,c,dd⟩:=NO I.hok e;refine wpAny_notIn_of (OH j) f dd.mapOf ?_;rw[<-(c.val k).isSome_eq,<-l];exact h _ (I.tok _)
 .subst d;cases(show u=Value.ref b from j);obtain⟨z,f,xs,c,dd⟩:=Ms I.hok e;refine wpAny_notIn_heap (K7 p) (Mf I.hok n) f dd ?_;have q:=(c.val k).isSome_eq;rw[V3]at q;rw[<-q,<-l];exact h _ (I.tok _)
theorem Ti{h':T_}{t':Nat}{c:HO}(I:Inv X pins σ H s)(h:Mut (H a))(g:Heap.SameBut a s.heap h')(f:∃q,h'.get? a=some q)(new:Ca X.prog X.w (upd H a c) h' a c) :
  Inv X pins σ (upd H a c) {s with heap:=h',toks:=t'} :=
 I.write (x:=a) (e:=a) h (.inl Z) (λb q d z=>(g.2 b d).trans z) f new
theorem dk_new{P:N_}{w:Q_}{d:Hp}{h':T_}{b:List (Key×V)}{vs:List (Key×Value)}(z:b.length<=sizeLine)(e:(a==sysModules)=false)(c:KV b vs)(dd:h'.DictOf (CH P w) a vs) :
 Ca P w d h' a (.dK b):=⟨z,e,vs,c,dd⟩
theorem Uu{C:Hp}{Q:Unit->Shared->Prop}(U:A.units+1<cLine)(I:Inv X pins σ H s)(g:LB H a y v C)(K:Bg y u)(G:Bg v r)(h:∀L,Inv X pins σ C L->Q () L) :
  wpAny (model X.prog X.w) A (setItem (.ref a) u r) Q E s:=by
 rcases g with ⟨d,k,e,n,l,m⟩|⟨d,k,b,e,n,D,l,m⟩
 .subst n m;obtain⟨z,p,vs,f,dd⟩:=dk_of I.hok e;have B:vs.length<=sizeLine:=by rw[<-f.length];exact z
  have t:(EI d k v).length<=sizeLine:=by have:=FX d k v;lia
  refine wpAny_setItem_pairs (hsz:=B) (OH K) dd λh' i x=>h _ ?_;have T:∃q,h'.get? a=some q:=let ⟨q,_,_,j,_⟩:=i;⟨q,j⟩;exact Ti I (by rw[e];exact True.intro) x T (dk_new t p (f.put k G) i)
 .subst n m;cases(show u=Value.ref b from K);obtain⟨z,p,xs,f,dd⟩:=dt_of I.hok e;have B:xs.length<=sizeLine:=by rw[<-Y4 f];exact z
  have t:(EI d k v).length<=sizeLine:=by have:=FX d k v;lia
  refine wpAny_setItem_heap (hsz:=B) (K7 U) (Mf I.hok D) dd λh' i x=>h _ ?_;obtain⟨q,N,M,j,O,P,R,_,S⟩:=i;refine Ti I (by rw[e];exact True.intro) x ⟨q,j⟩ ⟨t,p,_,(f.put k D G).keeps λc ys F=>?_,q,N,M,j,O,P,R,S⟩;rw[Ar (Aq F e (λz=>nomatch z))];exact F
end
def NoSl(i:Expr):Prop:=∀ov iv,subscripted i false ov iv=operate [ov,iv] (getItem ov iv)
theorem subD_of{prog:N_}{w:Q_}{A:Around}{E:B_}{s:P_}{g:Env}{b a:Expr}{l:Pos}{T id:String}{Q:B_}
  (n:typeLookup (.type T) "__getitem__" = pure (some (.builtin id))) (p:NoSl a)
  (h:wpAny (model prog w) A (eval b g) (λo e=>wpAny (model prog w) A (eval a g) (λi c=>c.TypeIs o T/\wpAny (model prog w) A (getItem o i) Q E c) E e) E s) :
  wpAny (model prog w) A (eval (.Subscript b a l) g) Q E s:=by
 refine Subscript_ (X6 h (λo e j=>X6 j (λi c d=>?_) λ_ _ x=>x) λ_ _ x=>x);obtain⟨m,d⟩:=d;unfold subscriptTail;refine W0 ?_;rw[getitemInPython_of_ne m.not_modules];refine W0 (wpAny_specialOf m n ?_);have fin:wpAny (model prog w) A (subscripted a false o i) (λr f=>wpAny (model prog w) A (letTemporaryGo b o r >>= λ_=>pure r) Q E f) E c:=by
  rw[p o i];exact wpAny_operating (X6 d (λr f k=>W0 (wpAny_letTemporaryGo (Y6 k))) λ_ _ x=>x)
 first
  |exact Y6 (W0 fin)
  |exact W0 (Y6 (W0 fin))
  |exact W0 fin
theorem QY{X:Cx}{c:A_}{σ:St}{H:Hp}{s:P_}{a:R_}{y:V}{o:Option V}(I:Inv X c σ H s)(g:FM H a y o):s.TypeIs (.ref a) "dict" := by
 rcases g with ⟨d,k,e,_,_⟩|⟨d,k,b,e,_,_,_⟩
 .obtain⟨_,_,vs,_,dd⟩:=NO I.hok e;exact dd.typeIs
 .obtain⟨_,_,xs,_,dd⟩:=Ms I.hok e;exact dd.typeIs
def tDGet(td ty:TE):TE:=fun σ H Q=>td σ H λx H1=>ty σ H1 λy H2=>∃a v,x=.ref a/\FM H2 a y (some v)/\Q v H2
def tDIn(ty td:TE):TE:=fun σ H Q=>ty σ H λy H1=>td σ H1 λx H2=>∃a o,x=.ref a/\FM H2 a y o/\Q (.bl o.isSome) H2
def tDNotIn(ty td:TE):TE:=fun σ H Q=>ty σ H λy H1=>td σ H1 λx H2=>∃a o,x=.ref a/\FM H2 a y o/\Q (.bl (!o.isSome)) H2
def sDPut(td ty tv:TE):TS:=λD σ H=>tv σ H λv H1=>td σ H1 λx H2=>ty σ H2 λy H3=>∃a H4,x=.ref a/\LB H3 a y v H4/\D.nx σ H4
section
variable{X:Cx}{o i e value:Expr}{pos pos' tpos:Pos}{td ty tv:TE}
theorem Pw(r:X.A.units+1<cLine)(p:PE X o td)(n:PE X i ty)(q:NoSl i):PE X (.Subscript o i pos) (tDGet td ty):=by
 intro b s σ H Q I h;refine subD_of PySem.F.slot_dict_getitem.lookup q (thn (p b s σ H _ I h) λu C ⟨x,f,k,z,t⟩=>thn (n b C σ f _ k t) λD E ⟨y,j,d,B,a,v,m,g,w⟩=>?_);subst m;obtain rfl:u=Value.ref a:=z;exact⟨QY d g,Uv r d g B λK G l c=>⟨v,j,l,c,w⟩⟩
theorem pc_din(q:X.A.units+1<cLine)(n:PE X i ty)(p:PE X o td):PC X .In i o (tDIn ty td):=by
 intro b s σ H Q I h;refine thn (n b s σ H _ I h) λC B c=>?_;obtain⟨y,d,j,z,t⟩:=c;refine thn (p b B σ d _ j t) λu D c=>?_;obtain⟨x,f,k,w,a,r,m,g,v⟩:=c;subst m;obtain rfl:u=Value.ref a:=w;exact d_in q k g z λE l=>⟨.bl r.isSome,f,l,Z,v⟩
theorem LR(q:X.A.units+1<cLine)(n:PE X i ty)(p:PE X o td):PC X .NotIn i o (tDNotIn ty td):=by
 intro b s σ H Q I h;refine thn (n b s σ H _ I h) λC B c=>?_;obtain⟨y,d,j,z,t⟩:=c;refine thn (p b B σ d _ j t) λu D c=>?_;obtain⟨x,f,k,w,a,r,m,g,v⟩:=c;subst m;obtain rfl:u=Value.ref a:=w;exact d_notIn q k g z λE l=>⟨.bl (!r.isSome),f,l,Z,v⟩
theorem FT(w:X.A.units+1<cLine)(q:PE X o td)(p:PE X i ty)(z:PE X value tv)(t:swapsWith value (some (.Subscript o i pos')) pos.line X.env=pure false) :
  PS X (.Assign [.Subscript o i pos'] value pos) (sDPut td ty tv):=by
 intro b s σ H D I h;refine wpAny_Assign_Subscript (thn (z b s σ H _ I h) λr L ⟨v,c,j,F,B⟩=>thn (q b L σ c _ j B) λu M ⟨x,d,k,G,C⟩=>thn (p b M σ d _ k C) λO P ⟨y,N,l,K,a,f,n,g,E⟩=>?_) t;subst n;obtain rfl:u=Value.ref a:=G;exact Uu w l g K F λQ m=>⟨σ,f,m,E⟩
end
theorem Wg{P:N_}{w:Q_}{H:Hp}(h:T_)(a:sysModules<h.objs.size):Ca P w H (h.push {cls:=.type "dict",data:=.dict #[]}) h.objs.size (.dK []) :=
 ⟨L5 _,beq_eq_false_iff_ne.mpr (W8 (L9 a)),[],.nil,Heap.DictOf.new h⟩
theorem Wf{P:N_}{w:Q_}{H:Hp}(h:T_)(a:sysModules<h.objs.size):Ca P w H (h.push {cls:=.type "dict",data:=.dict #[]}) h.objs.size (.dT []) :=
 ⟨L5 _,beq_eq_false_iff_ne.mpr (W8 (L9 a)),[],.nil,_,#[],0,F8 _ Z,⟨Z,Z,Z⟩,Z,Z,O6⟩
def tDNewK:TE:=λ_ H Q=>∀p,H p=none->Q (.ref p) (upd H p (.dK []))
def tDNewT:TE:=λ_ H Q=>∀p,H p=none->Q (.ref p) (upd H p (.dT []))
section
variable{X:Cx}{pos:Pos}
theorem JX:PE X (.Dict [] [] pos) tDNewK:=λb s σ H Q I h =>
 wpAny_Dict_empty ⟨.ref s.heap.objs.size,_,I.laid (a:=s.heap.objs.size) (o:=.dK []) (t':=s.toks) (λ_ _ q=>D0 _ q) (C9 _) (Wg s.heap I.big),Z,h _ (I.hok.fresh (C9 _))⟩
theorem IF:PE X (.Dict [] [] pos) tDNewT:=λb s σ H Q I h =>
 wpAny_Dict_empty ⟨.ref s.heap.objs.size,_,I.laid (a:=s.heap.objs.size) (o:=.dT []) (t':=s.toks) (λ_ _ q=>D0 _ q) (C9 _) (Wf s.heap I.big),Z,h _ (I.hok.fresh (C9 _))⟩
end
structure M1(X:Cx)(o:Expr)(m:Str)(apos:Pos)(e:Expr)(cpos:Pos):Prop where
base:attributeBase o m X.env (eval o X.env)=eval o X.env
few:((backTo cpos (starEach [e] X.env)).all (λx=>!x.1) && (backToKw cpos (keywordEach [] X.env)).all (λx=>x.1.isSome)
 && decide (([e]:List Expr).length+([]:List Keyword).length+(if([]:List Keyword).isEmpty then 0 else 1)<30))=true
line:(apos.endLine==cpos.line)=true
trees:backTo cpos (starEach [e] X.env)=[(false,eval e X.env)]
def IsD(H:Hp)(a:R_):Prop:=(∃kvs,Rd H a (.dK kvs))\/∃kvs,Rd H a (.dT kvs)
theorem isD_at{X:Cx}{f:A_}{σ:St}{H:Hp}{s:P_}{a:R_}(I:Inv X f σ H s)(d:IsD H a) :
  s.TypeIs (.ref a) "dict" /\ (∀b,Value.ref a=.ref b->∃c,s.heap.get? b=some c/\c.dict=none)/\(a==sysModules)=false:=by
 rcases d with ⟨j,e⟩|⟨j,e⟩
 .obtain⟨_,i,vs,_,dd⟩:=NO I.hok e;refine⟨dd.typeIs,λb q=>?_,i⟩;cases q;obtain⟨c,_,_,g,h,_⟩:=dd;exact⟨c,g,h.2.1⟩
 .obtain⟨_,i,xs,_,dd⟩:=Ms I.hok e;refine⟨dd.typeIs,λb q=>?_,i⟩;cases q;obtain⟨c,_,_,g,h,_⟩:=dd;exact⟨c,g,h.2.1⟩
section
variable{X:Cx}{pins:A_}{σ:St}{H:Hp}{s:P_}{a:R_}{y d:V}{u r:S_}{o:Option V}{A:Around}{E:B_}
theorem d_get1{Q:B_}(t:A.units+1<cLine)(I:Inv X pins σ H s)(g:FM H a y o)(m:Bg y u)(h:∀p n,Inv X pins σ H n->Bg (o.getD .non) p->Q p n) :
  wpAny (model X.prog X.w) A (call (.builtin "dict.get") [.ref a,u]) Q E s:=by
 rcases g with ⟨j,k,e,f,l⟩|⟨j,k,b,e,f,q,l⟩
 .subst f;obtain⟨z,i,vs,c,dd⟩:=NO I.hok e;refine call_meetsIn A0g dd.typeIs PySem.F.entry_dict_get (PySem.F.args_dict_get_2 _ _) (meets_dict_get (CH X.prog X.w) a (OH m) i) ⟨_,dd.mapOf,h _ _ (I.tok _) ?_⟩;rw[l];exact(c.val k).getD Z
 .subst f;cases(show u=Value.ref b from m);obtain⟨z,i,xs,c,dd⟩:=Ms I.hok e;refine call_meetsIn A0g dd.typeIs PySem.F.entry_dict_get (PySem.F.args_dict_get_2 _ _) (meetsH_dict_get (tupleKind (CH X.prog X.w)) a b i) ⟨K7 t,k,xs,Mf I.hok q,dd,h _ _ (I.tok _) ?_⟩;rw[l];exact(c.val k).getD Z
end
def tDGet1(td ty:TE):TE:=fun σ H Q=>td σ H λx H1=>∃a,x=.ref a/\IsD H1 a/\ty σ H1 λy H2=>∃o,FM H2 a y o/\Q (o.getD .non) H2
section
variable{X:Cx}{o e f:Expr}{apos cpos:Pos}{td ty tx:TE}
theorem Nn(v:X.A.units+1<cLine)(t:PE X o td)(r:PE X e ty)(m:M1 X o "get" apos e cpos):PE X (.Call (.Attribute o "get" apos) [e] [] cpos) (tDGet1 td ty):=by
 intro b s σ H Q I h;refine wpAny_Call_method m.base m.few m.line PySem.F.plainAttrs_dict A0g PySem.F.type_dict_get (thn (t b s σ H _ I h) λu D q=>?_);obtain⟨x,j,i,B,a,p,d,w⟩:=q;subst p;obtain rfl:u=Value.ref a:=B;obtain⟨E,G,_⟩:=isD_at i d;refine⟨E,G,?_⟩;rw[m.trees];refine Calls.callWith_builtin Z (Calls.evalArgs_plain (Calls.spliced_cons (thn (r b D σ j _ i w) λK M ⟨y,k,l,C,L,g,z⟩=>Calls.spliced_nil ?_)));exact d_get1 v l g C λO N n c=>⟨_,k,n,c,z⟩
end
section
variable{X:Cx}
theorem Wj(F:X.calm=true):FN X (.builtin "any") (λxs H Q=>∃(p:R_)(bs:List Bool),xs=[.ref p]/\SqL X.K H p (bs.map V.bl)/\Q (.bl (bs.any id)) H):=by
 intro d s σ H xs us Q I r h;obtain⟨p,bs,rfl,G,q⟩:=h;cases r with
 |cons M N =>
  cases N;cases(show _=Value.ref p from M);obtain⟨a,t,pl,S⟩:=I.list G;have m:p≠s.heap.objs.size:=L9 (by obtain⟨o,n,e,_⟩:=pl;exact F5 e);refine call_any_walk (A0e pl.isList ?_);have f:∀(i:Nat) v,a[i]?=some v->∃b,bs[i]?=some b/\v=.bool b:=λi v e=>by
   cases g:bs[i]? with
   |none =>
    have:a[i]?=none:=t.none_of (by rw[C7,g];rfl);rw[e]at this;cases this
   |some b =>
    obtain⟨u,w,O⟩:=t.get (i:=i) (x:=V.bl b) (by rw[C7,g];rfl);rw[e]at w;cases w;exact⟨b,Z,O⟩
  refine⟨s.heap.objs.size,_,_,_,_,_,λi=>bs.getD i false,Z,Walks.list (A:=X.A.in1) (I.ok.hd F) s.heap.objs.size p m a.toArray,⟨⟨_,F8 _ Z,Z,Z⟩,?_⟩,?_,?_⟩
  .exact pl.isList.at λo e=>D0 _ e
  .intro i v P B R D j;obtain⟨b,g,rfl⟩:=f i v (by simpa using D);have l:bs.getD i false=b:=by rw[L8,g];rfl
   have j:B (bs.getD i false) P:=j;rw[l]at j;exact Z3 j
  .intro h' tk L;have y:Inv X d σ H {s with heap:=h',toks:=tk}:=I.kept λb o e=>L b o (by intro z;exact L9 (F5 e) (by simpa using z)) (D0 _ e);have len:a.toArray.size=bs.length:=by rw[J0,<-t.length,B8]
   have C:(List.range a.toArray.size).any (λi=>bs.getD i false)=bs.any id:=by
    rw[len,P5,T1,T1];constructor
    .rintro⟨i,k,e⟩;have c:=J8.mp k;rw[L8,F0 c]at e;exact⟨_,List.getElem_mem c,e⟩
    .rintro⟨b,E,e⟩;obtain⟨i,k,l⟩:=List.mem_iff_getElem.mp E;refine⟨i,J8.mpr k,?_⟩;rw[L8,F0 k,l];exact e
   rw[C];exact⟨.bl _,H,y,Z,q⟩
theorem Pu{K:O_}{e:Expr}{f:Str}{b:TE}{a:Pos}(c:X.K=K)(g:PE X e b)(d:attributeBase e f X.env (eval e X.env)=eval e X.env):PE X (.Attribute e f a) (tFld K b f):=c▸AK g d
theorem QV{d:I_}{a:F_}(g:AV (d.map V.int) a):∀(i:Nat) v,a.toArray[i]?=some v->∃t,v=.int (d.getD i 0) t:=λi v e=>by
 have e:a[i]?=some v:=by simpa using e
 cases c:d[i]? with
 |none =>
  have:a[i]?=none:=g.none_of (by rw[C7,c];rfl);rw[e]at this;cases this
 |some b =>
  obtain⟨u,f,h⟩:=g.get (i:=i) (x:=V.int b) (by rw[C7,c];rfl);rw[e]at f;cases f;rw[L8,c];obtain⟨t,rfl⟩:=h;exact⟨t,Z⟩
end
theorem Wo(b a:I_):((List.range (min b.length a.length)).all (λj=>b.getD j 0==a.getD j 0) && b.length==a.length)=decide (b=a):=by
 rw[P5,Q5,P2,A1f,decide_eq_true_iff];constructor
 .rintro⟨c,d⟩;refine List.ext_getElem d λi e f=>?_;have:=c i (J8.mpr A1);rw[A1f,L8,L8,F0 e,F0 f]at this;exact this
 .rintro rfl;exact⟨λx _=>beq_iff_eq.mpr Z,Z⟩
section
variable{X:Cx}
theorem TC{H:Hp}{f:I_}{a:F_}(k:AV (f.map V.int) a){A:Around}{s:P_}{d:I_}{b:F_}(c:AV (d.map V.int) b)(j:Nat)(h:j<a.toArray.size)(i:j<b.toArray.size):PySem.SeqAt.EqAt A s a.toArray[j] b.toArray[j] (f.getD j 0==d.getD j 0):=by
 obtain⟨t,e⟩:=QV k j _ (Array.getElem?_eq_getElem h);obtain⟨u,g⟩:=QV c j _ (Array.getElem?_eq_getElem i);rw[e,g];exact PySem.SeqAt.EqAt.int_int _ t _ u
theorem TU(t:X.A.units+64<cLine):OpR X (compareOp .Eq) (λx y H Q=>∃(a b:R_)(d c:I_),x=.ref a/\y=.ref b/\SqT X.K H a (d.map V.int)/\SqT X.K H b (c.map V.int)/\Q (.bl (decide (d=c))) H):=by
 intro e s σ H x y v u Q I p r h;obtain⟨a,b,d,c,rfl,rfl,i,k,q⟩:=h;cases p;cases r;obtain⟨xs,f,n,_⟩:=I.tuple i;obtain⟨ys,g,o,_⟩:=I.tuple k;refine PySem.SeqAt.eq_tupleAt n o A1 (λj l m=>TC (H:=H) f g j l m) ?_;rw[J0,J0,<-f.length,<-g.length,B8,B8,Wo];exact⟨.bl _,H,I,Z,q⟩
end
end L2
namespace L2
open PySem PySem.W PySem.Spec PyProof.Rows
theorem Oq(d:R_)(g:(d==sysModules)=false):Meets (Builtin.«dict.__len__» {pos:=[Value.ref d]}) λ_ R s=>∃o a c,s.heap.get? d=some o/\o.data=Data.dict a c/\R (Except.ok (Flow.ret (Value.int (a.size:Int) s.toks))) {s with toks:=s.toks+1}:=by
 rintro prog w A R s ⟨o,a,c,i,b,h⟩;show wpAny (model prog w) A.in1 (do
  let n <-dictSize d;let m <-Builtin.Dict.pendingCount d
  retInt (↑n+↑m)) _ _ s
 refine W0 (W0 (wpAny_dictEntries i b (Y6 (W0 (wpAny_pendingCount_other g (X6 (wpAny_ret_mkInt (Q:=λv f=>R (Except.ok (Flow.ret v)) f) ?_) (λfin f ⟨v,e,q⟩=>by subst e;exact q) (λ_ _ x=>x)))))));show R (Except.ok (Flow.ret (Value.int ((a.size:Int)+((0:Nat):Int)) s.toks))) _;rw[show((a.size:Int)+((0:Nat):Int))=(a.size:Int) by lia];exact h
section
variable{X:Cx}
theorem UA:FN X (.builtin "len") (λxs H Q=>∃a b,xs=[V.ref a]/\Rd H a (.dT b)/\Q (.int b.length) H):=by
 intro e s σ H xs us Q I r h;obtain⟨a,b,rfl,k,q⟩:=h;obtain⟨u,rfl,p⟩:=Mi r;cases p;obtain⟨z,y,xs,c,dd⟩:=Ms I.hok k;have t:=dd.typeIs;obtain⟨o,d,f,g,w,i,j,x⟩:=dd;have l:d.size=b.length:=by
  have:=Y7 List.length j;rw[B8,U6]at this;rw[this,Y4 c]
 rw[sizeLine_eq]at z;refine call_len_meets (n:=(b.length:Int)) t F.slot_dict_len F.entry_dict_len (F.args_dict_len_1 _) (Oq a y) A1 A1 (λv m=>⟨o,d,f,g,i,?_⟩) ⟨.int b.length,H,I.tok _,⟨_,Z⟩,q⟩;rw[l];exact m
theorem TN(t:X.A.units+64<cLine):OpR X (compareOp .NotEq) (λx y H Q=>∃(a b:R_)(xs:List V),x=.ref a/\y=.ref b/\SqL X.K H a xs/\SqL X.K H b []/\Q (.bl (!decide (xs.length=0))) H):=by
 intro l s σ H x y v u Q I p r h;obtain⟨a,b,xs,rfl,rfl,c,d,q⟩:=h;cases p;cases r;obtain⟨f,m,g,_⟩:=I.list c;obtain⟨ys,o,k,_⟩:=I.list d;cases o;have n:=m.length;cases xs with
 |nil =>
  cases m;exact PySem.SeqAt.RcNeAt.lists (e:=λ_=>true) g.isList k.isList Z A1 (λj c d=>absurd c (Nat.not_lt_zero _)) _ _ _ _ ⟨.bl _,H,I,Z,q⟩
 |cons x xs =>
  cases f with
  |nil=>cases n
  |cons i f=>exact PySem.SeqAt.RcNeAt.lists_lengths g.isList k.isList Z A1 _ _ _ _ ⟨.bl _,H,I,Z,q⟩
def CDivB(i j:Int):Prop:=0<j/\j<2^64
theorem Vu:OpR X (binaryOp .FloorDiv) (rI CDivB λi j=>.int (i/j)):=opI λi j _ _ _ _ _ a q=>by
 have c:(0:Int)<j:=a.1;have d:j<2^64:=a.2;refine floordiv_int A1 (by rw[S1 i A1];exact q) (.inl (PyProof.noPylong_of_log2 ?_));have b:j.natAbs<2^64:=by lia
 exact J6 ((Nat.log2_lt A1).mpr b) A3
theorem Uy(e:X.calm=true):FN X (.builtin "min") (λxs H Q=>∃i j k:Int,xs=[.int i,.int j,.int k]/\∀m:Int,m<=i->m<=j->m<=k->(m=i\/m=j\/m=k)->Q (.int m) H):=by
 intro d s σ H xs us Q I r h;obtain⟨i,j,k,rfl,q⟩:=h;cases r with
 |cons f r =>
  cases r with
  |cons g r =>
   cases r with
   |cons l r =>
    cases r;obtain⟨t,rfl⟩:=f;obtain⟨t',rfl⟩:=g;obtain⟨n,rfl⟩:=l;refine min_three_ints (I.ok.hd e) λh' tk b=>?_;by_cases c:j<i
    .rw[W9 c];by_cases a:k<j
     .rw[W9 a];exact⟨.int k,H,I.kept b,⟨_,Z⟩,q k A1 A1 A1 A1⟩
     .rw[W4 a];exact⟨.int j,H,I.kept b,⟨_,Z⟩,q j A1 A1 A1 A1⟩
    .rw[W4 c];by_cases a:k<i
     .rw[W9 a];exact⟨.int k,H,I.kept b,⟨_,Z⟩,q k A1 A1 A1 A1⟩
     .rw[W4 a];exact⟨.int i,H,I.kept b,⟨_,Z⟩,q i A1 A1 A1 A1⟩
end
end L2
namespace J
open PySem L2
theorem asI{N P:K_}{c:Scope}(a:c.kind=.function:=by rfl)(b:c.isCoroutine=false:=by rfl)(d:c.isGenerator=false:=by rfl)(e:N.Nodup:=by decide +kernel)(f:N.take P.length=P:=by rfl)(g:∀x∈P,c.names.lookup x=some .local∨c.names.lookup x=some .cell:=by decide +kernel)(h:∀y∈c.names,y.2≠.free:=by decide +kernel):Ay N P c:=⟨a,b,d,e,f,g,h⟩
noncomputable def top(i:Nat):Stmt:=PySem.Challenge.pw_jumpfield_k63_whole_reasons_of_far_jumps.main.body.getD i (.Pass ⟨0,0,0,0⟩)
noncomputable abbrev Jt:Stmt:=top 10
noncomputable abbrev RE:List Str:=["thing"]
theorem Qy:Ay RE RE (Ai Jt):=asI
noncomputable abbrev Ju:Stmt:=top 17
theorem Qz:Ay RE RE (Ai Ju):=asI
noncomputable abbrev Pm:Stmt:=top 18
noncomputable abbrev dB:List Str:=["wanted","state"]
theorem Vg:Ay dB dB (Ai Pm):=asI
noncomputable abbrev Es:Stmt:=top 22
noncomputable abbrev Jo:List Str:=["text","words","cell","conditions"]
noncomputable abbrev Gk:List Str:=["text"]
theorem DD:Ay Jo Gk (Ai Es):=asI
noncomputable abbrev GP:Stmt:=top 23
noncomputable abbrev PH:List Str:=["word"]
theorem Oa:Ay PH PH (Ai GP):=asI
noncomputable abbrev FZ:Stmt:=top 24
theorem Nb:Ay PH PH (Ai FZ):=asI
noncomputable abbrev Ea:Stmt:=top 25
theorem JN:Ay PH PH (Ai Ea):=asI
noncomputable abbrev Fc:Stmt:=top 26
noncomputable abbrev NB:List Str:=["word","parts"]
theorem Im:Ay NB PH (Ai Fc):=asI
noncomputable abbrev Fb:Stmt:=top 27
noncomputable abbrev NA:List Str:=["signs","numbers","sign"]
noncomputable abbrev Fu:List Str:=["signs"]
theorem ED:Ay NA Fu (Ai Fb):=asI
noncomputable abbrev Er:Stmt:=top 28
theorem Nc:Ay PH PH (Ai Er):=asI
noncomputable abbrev Fd:Stmt:=top 35
theorem Mt:Ay Gk Gk (Ai Fd):=asI
noncomputable abbrev IA:Stmt:=top 36
noncomputable abbrev QM:List Str:=["text","rule"]
theorem JM:Ay QM Gk (Ai IA):=asI
noncomputable abbrev Jw:Stmt:=top 37
noncomputable abbrev RH:List Str:=["rule","cell","around","number","clause"]
noncomputable abbrev JD:List Str:=["rule","cell","around"]
theorem Iy:Ay RH JD (Ai Jw):=asI
noncomputable abbrev LJ:Stmt:=top 38
noncomputable abbrev Ub:List Str:=["rule","cell","around","number"]
theorem Nd:Ay Ub JD (Ai LJ):=asI
noncomputable abbrev GO:Stmt:=top 39
noncomputable abbrev PF:List Str:=["rule"]
theorem NZ:Ay PF PF (Ai GO):=asI
noncomputable abbrev GQ:Stmt:=top 42
noncomputable abbrev PJ:List Str:=["grove","square","parts","a","b","c","d"]
noncomputable abbrev Dd:List Str:=["grove","square"]
theorem CJ:Ay PJ Dd (Ai GQ):=asI
noncomputable abbrev Jv:Stmt:=top 43
noncomputable abbrev RG:List Str:=["nine"]
theorem QA:Ay RG RG (Ai Jv):=asI
noncomputable abbrev Dg:Stmt:=top 44
noncomputable abbrev Jk:List Str:=["grove","four","parts"]
noncomputable abbrev Cr:List Str:=["grove","four"]
theorem Ez:Ay Jk Cr (Ai Dg):=asI
noncomputable abbrev LK:Stmt:=top 47
noncomputable abbrev Uc:List Str:=["_law_script","_law_k"]
theorem Rx:Ay Uc Uc (Ai LK):=asI
noncomputable abbrev IC:Stmt:=top 48
noncomputable abbrev QO:List Str:=["_law_found","_law_due"]
theorem Pk:Ay QO QO (Ai IC):=asI
noncomputable abbrev IB:Stmt:=top 49
noncomputable abbrev QN:List Str:=["_law_cell","_law_k","_law_value"]
noncomputable abbrev FU:List Str:=["_law_cell","_law_k"]
theorem GN:Ay QN FU (Ai IB):=asI
noncomputable abbrev Eb:Stmt:=top 50
noncomputable abbrev LX:List Str:=["_law_cell","_law_few","_law_taken","_law_amounts","_law_k","_law_wishes","_law_place"]
noncomputable abbrev Ej:List Str:=["_law_cell","_law_few"]
theorem BH:Ay LX Ej (Ai Eb):=asI
noncomputable abbrev FR:Stmt:=top 51
noncomputable abbrev Mq:List Str:=["_law_clause","_law_cell","_law_around","_law_state","_law_mask","_law_many","_law_place"]
noncomputable abbrev IJ:List Str:=["_law_clause","_law_cell","_law_around"]
theorem Db:Ay Mq IJ (Ai FR):=asI
noncomputable abbrev Fk:Stmt:=top 52
noncomputable abbrev NF:List Str:=["_law_clauses","_law_cell","_law_around","_law_clause"]
noncomputable abbrev DS:List Str:=["_law_clauses","_law_cell","_law_around"]
theorem Io:Ay NF DS (Ai Fk):=asI
noncomputable abbrev ER:Stmt:=top 53
noncomputable abbrev Lg:List Str:=["_law_clause","_law_words_here","_law_state","_law_mask","_law_signs","_law_place"]
noncomputable abbrev Ia:List Str:=["_law_clause"]
theorem Cl:Ay Lg Ia (Ai ER):=asI
noncomputable abbrev FP:Stmt:=top 54
noncomputable abbrev Mn:List Str:=["_law_clauses"]
theorem Pj:Ay Mn Mn (Ai FP):=asI
noncomputable abbrev CQ:Stmt:=top 55
noncomputable abbrev FW:List Str:=["_law_cells","_law_few","_law_clauses"]
noncomputable abbrev DR:List Str:=["_law_cells","_law_few"]
theorem Dr:Ay FW DR (Ai CQ):=asI
noncomputable abbrev ES:Stmt:=top 56
noncomputable abbrev Lh:List Str:=["_law_nine"]
theorem Ob:Ay Lh Lh (Ai ES):=asI
noncomputable abbrev GT:Stmt:=top 57
noncomputable abbrev PN:List Str:=["_law_grove","_law_square","_law_lines_here","_law_upper","_law_lower","_law_left","_law_right"]
noncomputable abbrev ET:List Str:=["_law_grove","_law_square"]
theorem CL:Ay PN ET (Ai GT):=asI
noncomputable abbrev GS:Stmt:=top 58
noncomputable abbrev PM:List Str:=["_law_grove","_law_square","_law_lines_here","_law_parts_here","_law_y","_law_x","_law_some"]
theorem CK:Ay PM ET (Ai GS):=asI
noncomputable abbrev DK:Stmt:=top 59
noncomputable abbrev IM:List Str:=["_law_grove","_law_clauses","_law_square","_law_made","_law_lines_here","_law_line","_law_four","_law_k","_law_x","_law_y","_law_here","_law_around","_law_due"]
noncomputable abbrev FA:List Str:=["_law_grove","_law_clauses","_law_square","_law_made"]
theorem Bb:Ay IM FA (Ai DK):=asI
noncomputable abbrev Gb:Stmt:=top 60
noncomputable abbrev Og:List Str:=["_law_told","_law_used","_law_wanted","_law_found","_law_one"]
noncomputable abbrev Gn:List Str:=["_law_told","_law_used","_law_wanted"]
theorem Fa:Ay Og Gn (Ai Gb):=asI
noncomputable abbrev Cs:Stmt:=top 61
noncomputable abbrev El:List Str:=["_law_grove","_law_clauses","_law_told","_law_used","_law_row","_law_square","_law_e","_law_made","_law_level","_law_four","_law_twice","_law_wanted","_law_nine","_law_a","_law_b","_law_c","_law_d","_law_k","_law_some","_law_due"]
noncomputable abbrev Ei:List Str:=["_law_grove","_law_clauses","_law_told","_law_used","_law_row"]
theorem AH:Ay El Ei (Ai Cs):=asI
noncomputable abbrev GR:Stmt:=top 62
noncomputable abbrev PK:List Str:=["_law_row","_law_one"]
noncomputable abbrev Ib:List Str:=["_law_row"]
theorem Jl:Ay PK Ib (Ai GR):=asI
noncomputable abbrev Ga:Stmt:=top 63
noncomputable abbrev Of:List Str:=["_law_grove","_law_clauses","_law_rows","_law_square","_law_e","_law_told","_law_used","_law_row"]
noncomputable abbrev Gm:List Str:=["_law_grove","_law_clauses","_law_rows","_law_square","_law_e"]
theorem DE:Ay Of Gm (Ai Ga):=asI
noncomputable abbrev Gc:Stmt:=top 64
noncomputable abbrev Oh:List Str:=["_law_script","_law_sort","_law_states","_law_state","_law_value"]
noncomputable abbrev Gp:List Str:=["_law_script","_law_sort"]
theorem DF:Ay Oh Gp (Ai Gc):=asI
noncomputable abbrev Fj:Stmt:=top 65
noncomputable abbrev NE:List Str:=["_law_script","_law_sort","_law_place","_law_clauses","_law_state","_law_made"]
noncomputable abbrev Fz:List Str:=["_law_script","_law_sort","_law_place"]
theorem Dl:Ay NE Fz (Ai Fj):=asI
noncomputable abbrev Gd:Stmt:=top 66
noncomputable abbrev Ol:List Str:=["_law_script","_law_grove","_law_square","_law_level","_law_middle_here","_law_twos","_law_k","_law_no","_law_four","_law_value"]
noncomputable abbrev Gq:List Str:=["_law_script","_law_grove","_law_square","_law_level","_law_middle_here","_law_twos"]
theorem BG:Ay Ol Gq (Ai Gd):=asI
noncomputable abbrev Fe:Stmt:=top 67
noncomputable abbrev ND:List Str:=["_law_grove","_law_square","_law_level","_law_four","_law_no","_law_one","_law_two","_law_three_here"]
noncomputable abbrev Fy:List Str:=["_law_grove","_law_square","_law_level"]
theorem Cd:Ay ND Fy (Ai Fe):=asI
noncomputable abbrev Et:Stmt:=top 68
noncomputable abbrev Jp:List Str:=["_law_grove","_law_square","_law_four"]
theorem Iz:Ay Jp ET (Ai Et):=asI
noncomputable abbrev FQ:Stmt:=top 69
noncomputable abbrev Mo:List Str:=["_law_script","_law_way","_law_pick","_law_level","_law_few","_law_clauses"]
noncomputable abbrev II:List Str:=["_law_script"]
theorem BF:Ay Mo II (Ai FQ):=asI
noncomputable abbrev Sy:Stmt:=top 70
noncomputable abbrev dD:List Str:=["_law_script","_law_grove","_law_clauses","_law_level","_law_e","_law_four","_law_square","_law_rule","_law_jumps","_law_rows","_law_still"]
theorem EE:Ay dD II (Ai Sy):=asI
noncomputable abbrev Fq:Stmt:=Bf (top 19) 0
noncomputable abbrev NH:List Str:=["self","state","numbers"]
theorem Mv:Ay NH NH (Ai Fq):=asI
noncomputable abbrev EH:Stmt:=Bf (top 19) 1
noncomputable abbrev Mx:List Str:=["self","around"]
theorem LI:Ay Mx Mx (Ai EH):=asI
noncomputable abbrev Ge:Stmt:=Bf (top 20) 0
noncomputable abbrev Om:List Str:=["self","wanted"]
theorem Nf:Ay Om Om (Ai Ge):=asI
noncomputable abbrev DM:Stmt:=Bf (top 20) 1
theorem Mu:Ay Mx Mx (Ai DM):=asI
noncomputable abbrev Gh:Stmt:=Bf (top 21) 0
noncomputable abbrev Op:List Str:=["self","cell","conditions","makes"]
theorem Nh:Ay Op Op (Ai Gh):=asI
noncomputable abbrev Eu:Stmt:=Bf (top 21) 1
noncomputable abbrev Jq:List Str:=["self","cell","around"]
theorem Ni:Ay Jq Jq (Ai Eu):=asI
noncomputable abbrev GX:Stmt:=Bf (top 31) 0
noncomputable abbrev PU:List Str:=["self","state","level","bare"]
noncomputable abbrev Ig:List Str:=["self"]
theorem Ep:Ay PU Ig (Ai GX):=asI
noncomputable abbrev GW:Stmt:=Bf (top 31) 1
noncomputable abbrev PR:List Str:=["self","parts","level","number"]
noncomputable abbrev EU:List Str:=["self","parts","level"]
theorem Jm:Ay PR EU (Ai GW):=asI
noncomputable abbrev Fp:Stmt:=Bf (top 31) 2
noncomputable abbrev NG:List Str:=["self","parts","number"]
noncomputable abbrev Br:List Str:=["self","parts"]
theorem Iq:Ay NG Br (Ai Fp):=asI
noncomputable abbrev CV:Stmt:=Bf (top 31) 3
noncomputable abbrev IR:List Str:=["self","square"]
theorem Iv:Ay IR IR (Ai CV):=asI
noncomputable abbrev GV:Stmt:=Bf (top 31) 4
noncomputable abbrev PQ:List Str:=["self","state"]
theorem Od:Ay PQ PQ (Ai GV):=asI
noncomputable abbrev DO:Stmt:=Bf (top 31) 5
noncomputable abbrev IQ:List Str:=["self","a","b","c","d","square","level"]
noncomputable abbrev BX:List Str:=["self","a","b","c","d"]
theorem EF:Ay IQ BX (Ai DO):=asI
noncomputable abbrev Gg:Stmt:=Bf (top 31) 6
noncomputable abbrev Oo:List Str:=["self","level","state","square","below"]
noncomputable abbrev Ex:List Str:=["self","level","state"]
theorem DJ:Ay Oo Ex (Ai Gg):=asI
noncomputable abbrev Ee:Stmt:=Bf (top 31) 7
theorem JQ:Ay IR IR (Ai Ee):=asI
noncomputable abbrev Ed:Stmt:=Bf (top 31) 8
theorem JP:Ay IR IR (Ai Ed):=asI
noncomputable abbrev Ec:Stmt:=Bf (top 31) 9
theorem JO:Ay IR IR (Ai Ec):=asI
noncomputable abbrev FS:Stmt:=Bf (top 34) 0
noncomputable abbrev Mr:List Str:=["self","text"]
theorem Pl:Ay Mr Mr (Ai FS):=asI
noncomputable abbrev GU:Stmt:=Bf (top 45) 0
noncomputable abbrev PP:List Str:=["self","grove","rule"]
theorem Oc:Ay PP PP (Ai GU):=asI
noncomputable abbrev DN:Stmt:=Bf (top 45) 1
noncomputable abbrev IP:List Str:=["self","rule","text"]
noncomputable abbrev DT:List Str:=["self","rule"]
theorem Ip:Ay IP DT (Ai DN):=asI
noncomputable abbrev Gf:Stmt:=Bf (top 45) 2
noncomputable abbrev On:List Str:=["self","square","e"]
theorem Ng:Ay On On (Ai Gf):=asI
noncomputable abbrev Ds:Stmt:=Bf (top 45) 3
noncomputable abbrev JG:List Str:=["self","square","e","level"]
theorem EN:Ay JG On (Ai Ds):=asI
noncomputable abbrev Dc:Stmt:=Bf (top 45) 4
noncomputable abbrev LY:List Str:=["self","square","e","result"]
theorem DH:Ay LY On (Ai Dc):=asI
noncomputable abbrev Cm:Stmt:=Bf (top 45) 5
noncomputable abbrev Ey:List Str:=["self","square","e","grove","level","nine"]
theorem DI:Ay Ey On (Ai Cm):=asI
noncomputable abbrev Bw:Stmt:=Bf (top 45) 6
noncomputable abbrev CY:List Str:=["self","square","e","nine"]
theorem DX:Ay CY On (Ai Bw):=asI
noncomputable abbrev CU:Stmt:=Bf (top 45) 7
noncomputable abbrev IO:List Str:=["self","square","parts","a","b","c","d"]
theorem Bo:Ay IO IR (Ai CU):=asI
noncomputable abbrev CA:Stmt:=Bf (top 45) 8
noncomputable abbrev FF:List Str:=["self","leaves","leaf","states"]
noncomputable abbrev Dt:List Str:=["self","leaves"]
theorem Cp:Ay FF Dt (Ai CA):=asI
noncomputable abbrev EG:Stmt:=Bf (top 45) 9
noncomputable abbrev Mw:List Str:=["self","square","e","told"]
theorem GE:Ay Mw On (Ai EG):=asI
noncomputable abbrev Cz:Stmt:=Bf (top 45) 10
noncomputable abbrev Ih:List Str:=["self","square","e","seen","told","below"]
noncomputable abbrev BJ:List Str:=["self","square","e","seen","told"]
theorem Dv:Ay Ih BJ (Ai Cz):=asI
noncomputable abbrev Ct:Stmt:=Bf (top 45) 11
noncomputable abbrev Em:List Str:=["self","square","e","level","parts"]
theorem DG:Ay Em On (Ai Ct):=asI
structure Ad where
c_Amounts:Addr
c_Places:Addr
c_Clause:Addr
c_Grove:Addr
c_Rule:Addr
c_Jumps:Addr
structure Top(K:O_)(mg:C_)(a:Ad):Prop where
b_all:mg "all" = none
b_any:mg "any" = none
b_bool:mg "bool" = none
b_enumerate:mg "enumerate" = none
b_int:mg "int" = none
b_isinstance:mg "isinstance" = none
b_len:mg "len" = none
b_list:mg "list" = none
b_min:mg "min" = none
b_range:mg "range" = none
b_str:mg "str" = none
b_tuple:mg "tuple" = none
b_zip:mg "zip" = none
k_STATES:∃t,mg "STATES" = some (.int 8 t)
k_NEIGHBOURS:∃t,mg "NEIGHBOURS" = some (.int 8 t)
k_STATE_FIGURES:∃t,mg "STATE_FIGURES" = some (.str (Str.ofString "01234567") t)
k_AMOUNT_FIGURES:∃t,mg "AMOUNT_FIGURES" = some (.str (Str.ofString "012345678") t)
k_ANY_SIGN:∃t,mg "ANY_SIGN" = some (.str (Str.ofString "*") t)
k_TOP_LEVEL:∃t,mg "TOP_LEVEL" = some (.int 48 t)
k_CLAUSE_MARK:∃t,mg "CLAUSE_MARK" = some (.str (Str.ofString "; ") t)
k_LEAST_JUMPED:∃t,mg "LEAST_JUMPED" = some (.int 2 t)
m_Amounts:mg "Amounts" = some (.ref a.c_Amounts)
cl_Amounts:Cls K a.c_Amounts
na_Amounts_state:BR K a.c_Amounts "state"
na_Amounts_numbers:BR K a.c_Amounts "numbers"
m_Places:mg "Places" = some (.ref a.c_Places)
cl_Places:Cls K a.c_Places
na_Places_wanted:BR K a.c_Places "wanted"
m_Clause:mg "Clause" = some (.ref a.c_Clause)
cl_Clause:Cls K a.c_Clause
na_Clause_cell:BR K a.c_Clause "cell"
na_Clause_conditions:BR K a.c_Clause "conditions"
na_Clause_makes:BR K a.c_Clause "makes"
m_Grove:mg "Grove" = some (.ref a.c_Grove)
cl_Grove:Cls K a.c_Grove
na_Grove_levels:BR K a.c_Grove "levels"
na_Grove_parts:BR K a.c_Grove "parts"
na_Grove_numbers:BR K a.c_Grove "numbers"
na_Grove_bares:BR K a.c_Grove "bares"
na_Grove_amounts:BR K a.c_Grove "amounts"
na_Grove_boxes:BR K a.c_Grove "boxes"
m_Rule:mg "Rule" = some (.ref a.c_Rule)
cl_Rule:Cls K a.c_Rule
na_Rule_text:BR K a.c_Rule "text"
na_Rule_clauses:BR K a.c_Rule "clauses"
m_Jumps:mg "Jumps" = some (.ref a.c_Jumps)
cl_Jumps:Cls K a.c_Jumps
na_Jumps_grove:BR K a.c_Jumps "grove"
na_Jumps_memories:BR K a.c_Jumps "memories"
na_Jumps_rule:BR K a.c_Jumps "rule"
na_Jumps_known_squares:BR K a.c_Jumps "known_squares"
na_Jumps_known_cells:BR K a.c_Jumps "known_cells"
seal L2.PA L2.PE L2.PS L2.PSs L2.PT L2.PW
inductive BE where
|am (s:Int) (ns:I_)
|pl (ws:List (Option Int))
structure Bc where
cell:Option Int
conds:List BE
makes:Int
abbrev AA:=List Bc
noncomputable def Gx:Option Int->V
|none=>.non
|some i=>.int i
noncomputable def Cc(w:Option Int)(s:Int):Bool:=match w with
|none=>true
|some i=>decide (i=s)
noncomputable def BE.holds(ar:I_):BE->Bool
|.am s ns=>ns.any λn=>decide (n=((ar.countP (· == s):Nat):Int))
|.pl ws=>(ws.zip ar).all λp=>Cc p.1 p.2
noncomputable def Bc.fits(cell:Int)(ar:I_)(c:Bc):Bool:=Cc c.cell cell && c.conds.all (BE.holds ar)
noncomputable def MC(r:AA)(cell:Int)(ar:I_):Option Nat:=r.findIdx? (Bc.fits cell ar)
noncomputable def Co(r:AA)(cell:Int)(ar:I_):Int:=match r.find? (Bc.fits cell ar)with
|none=>cell
|some c=>c.makes
noncomputable def fl1(f:Str)(a:V):List (Str×V):=AW f a []
noncomputable def fl2(f g:Str)(a b:V):List (Str×V):=AW g b (AW f a [])
noncomputable def fl3(f g h:Str)(a b c:V):List (Str×V):=AW h c (AW g b (AW f a []))
theorem fl1_1{f:Str}{a:V}:(fl1 f a).lookup f=some a:=by unfold fl1;rw[Ak,W9 rfl]
theorem Qh{f m:Str}{a:V}(h:¬m=f):(fl1 f a).lookup m=none:=by unfold fl1;rw[Ak,W4 h];rfl
theorem Wa{f g:Str}{a b:V}(h:¬f=g):(fl2 f g a b).lookup f=some a:=by unfold fl2;rw[Ak,W4 h,Ak,W9 rfl]
theorem VZ{f g:Str}{a b:V}:(fl2 f g a b).lookup g=some b:=by unfold fl2;rw[Ak,W9 rfl]
theorem fl2_no{f g m:Str}{a b:V}(c:¬m=f)(d:¬m=g):(fl2 f g a b).lookup m=none:=by unfold fl2;rw[Ak,W4 d,Ak,W4 c];rfl
theorem fl3_1{f g h:Str}{a b c:V}(d:¬f=g)(e:¬f=h):(fl3 f g h a b c).lookup f=some a:=by unfold fl3;rw[Ak,W4 e,Ak,W4 d,Ak,W9 rfl]
theorem fl3_2{f g h:Str}{a b c:V}(d:¬g=h):(fl3 f g h a b c).lookup g=some b:=by unfold fl3;rw[Ak,W4 d,Ak,W9 rfl]
theorem fl3_3{f g h:Str}{a b c:V}:(fl3 f g h a b c).lookup h=some c:=by unfold fl3;rw[Ak,W9 rfl]
theorem fl3_no{f g h m:Str}{a b c:V}(d:¬m=f)(e:¬m=g)(i:¬m=h):(fl3 f g h a b c).lookup m=none:=by unfold fl3;rw[Ak,W4 i,Ak,W4 e,Ak,W4 d];rfl
theorem QF(f:Str)(v:V):∀l:List (Str×V),(AW f v l).length<=l.length+1
|[]=>C9 _
| (g,w)::r=>by
 unfold AW;split
 .exact U3 _
 .rw[F7,F7];exact R4 (QF f v r)
theorem Al{H:Hp}{p:R_}{o:HO}(h:H p=none):Az H (upd H p o):=λb u e=>by
 rw[Ar (Aj e h)];exact e
theorem alc{H a:Hp}{p:R_}{o:HO}(h:H p=none)(e:upd H p o=a):Az H a/\a p=some o:=e▸⟨Al h,Ag⟩
inductive Dh(a:Ad)(H:Hp):Addr->BE->Prop where
|am {p t dx:R_} {s:Int} {ns:I_} (h:H p=some (.ins a.c_Amounts dx (fl2 "state" "numbers" (.int s) (.ref t)))) (ht:H t=some (.tup (ns.map V.int))):Dh a H p (.am s ns)
|pl {p t dx:R_} {ws:List (Option Int)} (h:H p=some (.ins a.c_Places dx (fl1 "wanted" (.ref t)))) (ht:H t=some (.tup (ws.map Gx))):Dh a H p (.pl ws)
structure BY(a:Ad)(H:Hp)(p:R_)(c:Bc):Prop where
ex:∃(dx t:R_)(cs:H_),H p=some (.ins a.c_Clause dx (fl3 "cell" "conditions" "makes" (Gx c.cell) (.ref t) (.int c.makes)))/\H t=some (.tup (cs.map V.ref))/\Paired (Dh a H) cs c.conds
structure BV(a:Ad)(H:Hp)(p:R_)(x:Str)(r:AA):Prop where
ex:∃(dx t:R_)(cs:H_),H p=some (.ins a.c_Rule dx (fl2 "text" "clauses" (.str x) (.ref t)))/\H t=some (.tup (cs.map V.ref))/\Paired (BY a H) cs r
theorem Paired.imp{α β:Type}{F G:α->β->Prop}(h:∀x y,F x y->G x y):∀{l:List α}{m:List β},Paired F l m->Paired G l m
|_,_,.nil=>.nil
|_,_,.cons r t=>.cons (h _ _ r) (Paired.imp h t)
theorem Paired.get{α β:Type}{F:α->β->Prop}:∀{l:List α}{m:List β}{i:Nat}{x:α},Paired F l m->l[i]?=some x->∃y,m[i]?=some y/\F x y
|_,_,_,_,.nil,e=>by simp at e
|_,_,0,_,.cons r _,e=>by simp at e;subst e;exact⟨_,Z,r⟩
|_,_,i+1,x,.cons _ t,e=>by
 obtain⟨y,a,b⟩:=Paired.get (i:=i) (x:=x) t (by simpa using e);exact⟨y,by simpa using a,b⟩
theorem Dh.same{a:Ad}{H d:Hp}{p:R_}{c:BE}(s:Az H d)(h:Dh a H p c):Dh a d p c:=by
 cases h with
 |am h b=>exact .am (s _ _ h) (s _ _ b)
 |pl h b=>exact .pl (s _ _ h) (s _ _ b)
theorem BY.same{a:Ad}{H b:Hp}{p:R_}{c:Bc}(s:Az H b)(h:BY a H p c):BY a b p c:=by
 obtain⟨d,t,cs,e,f,g⟩:=h.ex;exact⟨d,t,cs,s _ _ e,s _ _ f,Paired.imp (λ_ _ z=>z.same s) g⟩
theorem BV.same{a:Ad}{H b:Hp}{p:R_}{x:Str}{r:AA}(s:Az H b)(h:BV a H p x r):BV a b p x r:=by
 obtain⟨c,t,cs,d,e,f⟩:=h.ex;exact⟨c,t,cs,s _ _ d,s _ _ e,Paired.imp (λ_ _ z=>z.same s) f⟩
theorem in_ints(n:Int)(a:I_):inV (.int n) (a.map V.int)=a.any λm=>decide (m=n):=by
 unfold inV;rw[List.any_map];congr 1
theorem Uq(a:I_):(a.map V.int).all Ll=true:=by
 rw[V8];exact P2.mpr λ_ _=>Z
theorem Jg(i j:Int):decide (V.int i=V.int j)=decide (i=j):=by
 by_cases h:i=j
 .rw[W1 h,W1 (by rw[h])]
 .rw[W3 h,W3 λz=>h (by injection z)]
section
variable{P:N_}{w:Q_}{K:O_}{mg:C_}{base:T_}{a:Ad}
inductive Tl(vs:List V)(H:Hp)(Q:VK):Prop
|mk (x:Option Int) (s:Int) (_:vs=[Gx x,.int s]) (_:Q (.bl (Cc x s)) H):Tl vs H Q
def ME:Sp:=λvs H Q _=>Tl vs H Q
theorem Vx(F:Fun K "takes" "takes" Pm f fd):AT P w K mg base CX0 1 f fd dB ME:=by
 refine F.ok Vg D_9 λc A b s H vs Q E d h=>?_
 obtain⟨x,s,rfl,k⟩:=h;refine⟨_,(Af (Ax (pe_or (Do Nr (pv 0) Jz (AI _)) (Jy (Do Ci (pv 0) (pv 1) (AI _)))))),?_⟩
 try dsimp only[cxK]
 refine xq1 Z ⟨Z,(xq1 Z ?_)⟩;cases x with
 |none=>exact CT k
 |some i =>
  have e:decide (Gx (some i)=V.int s)=Cc (some i) s:=Jg i s;rw[<-e]at k;exact Bl (xw2 Z Z ⟨Z,k⟩)
inductive Rn(a:Ad)(vs:List V)(H:Hp)(Q:VK):Prop
|mk (p t dx:R_) (s:Int) (_:vs=[.ref p,.int s,.ref t]) (_:H p=some (.ins a.c_Amounts dx [])) (_:Q .non (upd H p (.ins a.c_Amounts dx (fl2 "state" "numbers" (.int s) (.ref t))))):Rn a vs H Q
def MY(a:Ad):Sp:=λvs H Q _=>Rn a vs H Q
theorem TY(F:Fun K "__init__" "Amounts.__init__" Fq f fd)(T:Top K mg a):AT P w K mg base CX0 1 f fd NH (MY a):=by
 refine F.ok Mv D_9 λd A b s H vs Q E g h=>?_
 obtain⟨p,t,c,s,rfl,e,k⟩:=h;refine⟨_,(Ae (CC (pv 0) (pv 1) Z) (Af (CC (pv 0) (pv 2) Z))),?_⟩
 try dsimp only[cxK]
 refine xw2 Z Z ⟨p,_,c,[],Z,e,T.cl_Amounts,T.na_Amounts_state,B3,(xw2 Z Z ⟨p,_,c,(xq1 Z ⟨Ag,T.cl_Amounts,T.na_Amounts_numbers,B5,?_⟩)⟩)⟩;rw[GK];exact k
inductive Rl(a:Ad)(vs:List V)(H:Hp)(Q:VK):Prop
|mk (p t dx:R_) (_:vs=[.ref p,.ref t]) (_:H p=some (.ins a.c_Places dx [])) (_:Q .non (upd H p (.ins a.c_Places dx (fl1 "wanted" (.ref t))))):Rl a vs H Q
def MV(a:Ad):Sp:=λvs H Q _=>Rl a vs H Q
theorem TW(F:Fun K "__init__" "Places.__init__" Ge f fd)(T:Top K mg a):AT P w K mg base CX0 1 f fd Om (MV a):=by
 refine F.ok Nf D_9 λc A b s H vs Q E g h=>?_
 obtain⟨p,t,d,rfl,e,k⟩:=h;refine⟨_,(Af (CC (pv 0) (pv 1) Z)),?_⟩
 try dsimp only[cxK]
 exact xw2 Z Z ⟨p,_,d,[],Z,e,T.cl_Places,T.na_Places_wanted,B3,k⟩
inductive Rm(a:Ad)(vs:List V)(H:Hp)(Q:VK):Prop
|mk (p t dx:R_) (c:Option Int) (m:Int) (_:vs=[.ref p,Gx c,.ref t,.int m]) (_:H p=some (.ins a.c_Clause dx [])) (_:Q .non (upd H p (.ins a.c_Clause dx (fl3 "cell" "conditions" "makes" (Gx c) (.ref t) (.int m))))):Rm a vs H Q
def MX(a:Ad):Sp:=λvs H Q _=>Rm a vs H Q
theorem TX(F:Fun K "__init__" "Clause.__init__" Gh f fd)(T:Top K mg a):AT P w K mg base CX0 1 f fd Op (MX a):=by
 refine F.ok Nh D_9 λe A d s H vs Q E i h=>?_
 obtain⟨p,t,b,c,m,rfl,g,k⟩:=h;refine⟨_,(Ae (CC (pv 0) (pv 1) Z) (Ae (CC (pv 0) (pv 2) Z) (Af (CC (pv 0) (pv 3) Z)))),?_⟩
 try dsimp only[cxK]
 refine⟨_,Z,_,Z,p,_,b,[],Z,g,T.cl_Clause,T.na_Clause_cell,B3,_,Z,_,Z,p,_,b,_,Z,Ag,T.cl_Clause,T.na_Clause_conditions,B5,_,Z,_,Z,p,_,b,_,Z,Ag,T.cl_Clause,T.na_Clause_makes,
  F3 (QF _ _ _) (by show 2<1000;decide),?_⟩
 rw[GK,GK];exact k
def LG(a:Ad):Sp:=λvs H Q E=>(∃(p l t dx:R_)(s:Int)(ns ar:I_),vs=[.ref p,.ref l]/\H p=some (.ins a.c_Amounts dx (fl2 "state" "numbers" (.int s) (.ref t)))/\H t=some (.tup (ns.map V.int))/\H l=some (.lst (ar.map V.int))/\Q (.bl (BE.holds ar (.am s ns))) H)
theorem RD(F:Fun K "holds" "Amounts.holds" EH f fd)(T:Top K mg a):AT P w K mg base CX0 1 f fd Mx (LG a):=by
 refine F.ok LI (λvs H Q E h=>?_) (λi A b s H vs Q E n h=>?_)
 .obtain⟨p,l,t,j,s,g,c,rfl,_⟩:=h;rfl
 .obtain⟨p,l,t,j,s,g,c,rfl,e,m,d,k⟩:=h;refine⟨_,(Af (Ax (Do TR (Cf W5 PySem.F.slot_list_count PySem.F.type_list_count VG (pv 1) (Aa (AK (pv 0) Z) Ab)) (AK (pv 0) Z) Z))),?_⟩
  try dsimp only[cxK]
  refine xq1 Z ⟨.inl ⟨Z,_,SqL.of d⟩,(xwf Z Z e T.cl_Amounts T.na_Amounts_state (Wa A0) ⟨l,c,s,Z,Z,d,(xwf Z Z e T.cl_Amounts T.na_Amounts_numbers VZ ⟨t,(xq1 Z ⟨.inr (SqT.of m),Z,Uq g,?_⟩)⟩)⟩)⟩;show Q (.bl (inV _ _)) H;rw[in_ints];exact k
inductive OW(a:Ad)(vs:List V)(H:Hp)(Q:VK):Prop
|mk (p l t dx:R_) (ws:List (Option Int)) (ar:I_) (_:vs=[.ref p,.ref l]) (_:H p=some (.ins a.c_Places dx (fl1 "wanted" (.ref t)))) (_:H t=some (.tup (ws.map Gx))) (_:H l=some (.lst (ar.map V.int))) (_:ws.length<=100) (_:∀H',Az H H'->Q (.bl (BE.holds ar (.pl ws))) H'):OW a vs H Q
def LE(a:Ad):Sp:=λvs H Q _=>OW a vs H Q
theorem RC(F:Fun K "holds" "Places.holds" DM f fd)(T:Top K mg a)(C:Cal P w K mg base CX0 1 "takes" dB ME):AT P w K mg base CX0 2 f fd Mx (LE a):=by
 refine F.ok Mu D_9 λD A g s H vs Q E O h=>?_
 obtain⟨p,l,t,X,ws,c,rfl,M,u,r,R,k⟩:=h;refine⟨_,(Af (Ax (AU (Rh Z) Z T.b_all PyProof.Rows.boot_all (Aa (BZ Z (Bn.of (So:=Ai DM) (No:=Mx) (N:=["one","state"]) (k:=2) (cs:=[]) Z Z A0) (pi_zip true false Z T.b_zip (Aa (AK (pv 0) Z) (Aa (pv 1) Ab))) (λ_ _ _=>(Vm (i:=0) (j:=1) Z A0 Z Z Z Z)) (λ_ _ _=>BB) (λ_ _ _=>(AB C (rm O) Z Ao (Aa (pv 0) (Aa (pv 1) Ab))))) Ab)))),?_⟩
 try dsimp only[cxK]
 refine xwf Z Z M T.cl_Places T.na_Places_wanted fl1_1 (xq1 Z ⟨t,l,Z,⟨_,SqT.of u⟩,⟨_,SqL.of r⟩,?_⟩);refine blk_zip (xs:=ws.map Gx) (ys:=c.map V.int) (λi b d=>Az H d/\b=(((ws.zip c).take i).map λp=>V.bl (Cc p.1 p.2))) ⟨Az.refl H,Z⟩ (λi b d z=>⟨SqT.of (z.1 _ _ u),SqL.of (z.1 _ _ r)⟩) ?_ ?_
 .rintro i x y b d W v B ⟨n,rfl⟩ S;rw[C7]at v B;obtain⟨o,I,rfl⟩:=D5.mp v;obtain⟨m,G,rfl⟩:=D5.mp B;have L:(ws.zip c)[i]?=some (o,m):=by rw[S3];exact⟨I,G⟩
  refine Lk Ag ⟨⟨[some (Gx o),some (.int m)],Z,Z⟩,?_,?_⟩
  .have:((((ws.zip c).take i).map λp=>V.bl (Cc p.1 p.2))).length<=ws.length:=by
    rw[B8,M6,List.length_zip];omega
   exact F3 (D4 this R) A3
  .refine EQ ?_;refine xw2 Z Z ⟨o,m,Z,n.trans (Al S),?_⟩;rw[F9,L,C0];rfl
 .rintro b d ⟨n,rfl⟩ q U;have len:min (ws.map Gx).length (c.map V.int).length=(ws.zip c).length:=by rw[B8,B8,List.length_zip]
  rw[len,J7];refine⟨q,(ws.zip c).map (λp=>Cc p.1 p.2),Z,SqL.of (by rw[Ag,N9];rfl),?_⟩;have e:((ws.zip c).map (λp=>Cc p.1 p.2)).all id=BE.holds c (.pl ws):=by rw[V8];rfl
  rw[e];exact k _ (n.trans (Al U))
inductive WD(a:Ad)(vs:List V)(H:Hp)(Q:VK):Prop
|mk (p l:R_) (c:Bc) (cell:Int) (ar:I_) (_:vs=[.ref p,.int cell,.ref l]) (_:BY a H p c) (_:c.conds.length<=100) (_:(∀d∈c.conds,∀ws,d=BE.pl ws->ws.length<=100)) (_:H l=some (.lst (ar.map V.int))) (_:∀H',Az H H'->Q (.bl (c.fits cell ar)) H'):WD a vs H Q
def Rv(a:Ad):Sp:=λvs H Q _=>WD a vs H Q
theorem ok_Fits(F:Fun K "fits" "Clause.fits" Eu f fd)(T:Top K mg a)(cC:Cal P w K mg base CX0 1 "takes" dB ME)(r:BD P w K mg base CX0 1 a.c_Amounts "holds" Mx (LG a))(u:BD P w K mg base CX0 2 a.c_Places "holds" Mx (LE a)) :
 AT P w K mg base CX0 3 f fd Jq (Rv a):=by
 refine F.ok Ni D_9 λaa A I s H vs Q E G h=>?_
 obtain⟨p,l,c,cell,g,rfl,hC,hn,D,S,k⟩:=h;obtain⟨dx,t,cs,U,W,y⟩:=hC.ex;refine⟨_,(Af (Ax (LO (AB cC (rm G) Z Ao (Aa (AK (pv 0) Z) (Aa (pv 1) Ab))) (Jy (AU (Rh Z) Z T.b_all PyProof.Rows.boot_all (Aa (BZ Z (Bn.of (So:=Ai Eu) (No:=Jq) (N:=["condition","around"]) (k:=1) (cs:=[2]) Z Z A0) (Jx (AK (pv 0) Z)) (λ_ _ _=>(AY (i:=0) A0 Z Z)) (λ_ _ _=>BB) (λ_ _ _=>(PE.or (Aw (pv 0) r (rm G) Ao (Aa (pv 1) Ab)) (Aw (pv 0) u (rm G) Ao (Aa (pv 1) Ab))))) Ab)))))),?_⟩
 try dsimp only[cxK]
 refine xwf Z Z U T.cl_Clause T.na_Clause_cell (fl3_1 A0 A0) (xq1 Z ⟨c.cell,cell,Z,Cc c.cell cell,Z,?_⟩);cases R:Cc c.cell cell with
 |false =>
  refine Bl ?_;have:=k H (Az.refl H);unfold Bc.fits at this;rw[R]at this;exact this
 |true =>
  refine CT ?_;have ln:cs.length=c.conds.length:=Y4 y;refine xwf Z Z U T.cl_Clause T.na_Clause_conditions (fl3_2 A0) ⟨t,Z,⟨_,SqT.of W⟩,?_⟩;refine Lw (xs:=cs.map V.ref) (λi j m=>Az H m/\j=((c.conds.take i).map λd=>V.bl (BE.holds g d))) ⟨Az.refl H,Z⟩ (λi j m _ z=>SqT.of (z.1 _ _ W)) ?_ ?_
  .rintro i x j m X ⟨n,rfl⟩;rw[C7]at X;obtain⟨q,eq,rfl⟩:=D5.mp X;obtain⟨d,O,hd⟩:=Paired.get y eq;have C:=hd.same n;refine⟨⟨[some (.ref q)],Z,Z⟩,?_,?_⟩
   .have:((c.conds.take i).map λd=>V.bl (BE.holds g d)).length<=c.conds.length:=by
     rw[B8,M6];omega
    exact F3 (D4 this hn) A3
   .refine EQ ?_;have Y:∀o,Az m o->Az H o/\((c.conds.take i).map λd=>V.bl (BE.holds g d))++[V.bl (BE.holds g d)]=((c.conds.take (i+1)).map λd=>V.bl (BE.holds g d)):=λo L=>⟨n.trans L,by
     rw[F9,O,C0];rfl⟩
    have md:d∈c.conds:=D6 O;cases C with
    |@am M b s ns v B=>exact .inl ⟨_,Z,q,b,_,Z,v,fl2_no A0 A0,_,Z,q,l,M,b,s,ns,g,Z,v,B,n _ _ S,Y m (Az.refl m)⟩
    |@pl M b ws v B=>exact .inr ⟨_,Z,q,b,_,Z,v,Qh A0,_,Z,q,l,M,b,ws,g,Z,v,B,n _ _ S,D _ md ws Z,λo L=>Y o L⟩
  .rintro j m ⟨n,rfl⟩ q nq;rw[B8,ln,J7];refine⟨q,c.conds.map (BE.holds g),Z,SqL.of (by rw[Ag,N9];rfl),?_⟩;have e:(c.conds.map (BE.holds g)).all id=c.fits cell g:=by
    unfold Bc.fits;rw[R,V8];rfl
   rw[e];exact k _ (n.trans (Al nq))
def ROk(r:AA):Prop:=r.length<=5000/\∀c∈r,c.conds.length<=100/\∀d∈c.conds,∀ws,d=BE.pl ws->ws.length<=100
noncomputable def decV(o:Option Nat):V:=match o with
|none=>.non
|some n=>.int n
inductive SpDec(a:Ad)(vs:List V)(H:Hp)(Q:VK):Prop
|mk (p l:R_) (z:Str) (r:AA) (cell:Int) (ar:I_) (_:vs=[.ref p,.int cell,.ref l]) (_:BV a H p z r) (_:ROk r) (_:H l=some (.lst (ar.map V.int))) (_:∀H',Az H H'->Q (decV (MC r cell ar)) H'):SpDec a vs H Q
def Vc(a:Ad):Sp:=λvs H Q _=>SpDec a vs H Q
theorem ok_dec(F:Fun K "deciding" "deciding" Jw f fd)(T:Top K mg a)(X:BD P w K mg base CX0 3 a.c_Clause "fits" Jq (Rv a)):AT P w K mg base CX0 4 f fd JD (Vc a):=by
 refine F.ok Iy D_9 λY A G s H vs Q E hr h=>?_
 obtain⟨p,l,z,r,cell,m,rfl,hR,N,hl,k⟩:=h;obtain⟨dx,t,cs,hp,O,y⟩:=hR.ex;have ln:cs.length=r.length:=Y4 y;refine⟨_,(Ae (BQ Y5 Z (Ps true Z T.b_enumerate (Aa (AK (pv 0) Z) Ab)) (EJ Z (AX (AN (i:=3) Iy.nd Z O_9) (AX (AN (i:=4) Iy.nd Z O_9) Dm))) (Af (AS (Cv (Aw (pv 4) X (rm hr) Ao (Aa (pv 1) (Aa (pv 2) Ab)))) (Af (Ax (pv 3))) AD))) (Af (Ax Jz))),?_⟩
 try dsimp only[cxK]
 refine xwf Z Z hp T.cl_Rule T.na_Rule_clauses VZ ⟨t,Z,⟨_,SqT.of O⟩,?_⟩;refine NM (b:=true) (xs:=cs.map V.ref) (λi σ g=>Az H g/\(∃u v,σ=[some (.ref p),some (.int cell),some (.ref l),u,v])/\∀c∈r.take i,c.fits cell m=false) ⟨Az.refl H,⟨none,none,Z⟩,λc D=>by simp at D⟩ (λi σ g _ q=>SqT.of (q.1 _ _ O)) ?_ ?_
 .rintro i x σ g T' R ⟨I,⟨u,v,rfl⟩,no⟩ nT;rw[C7]at R;obtain⟨q,eq,rfl⟩:=D5.mp R;obtain⟨c,B,D⟩:=Paired.get y eq;have C:=I.trans (Al (o:=.tup [.int i,.ref q]) nT);have n:=D.same C;obtain⟨ab,t2,aa,h1,_⟩:=n.ex;refine Lk Ag ?_;have S:=D6 B;refine xwn Z Z h1 (fl3_no A0 A0 A0) Z (xq1 Z ⟨q,l,c,cell,m,Z,n,(N.2 c S).1,(N.2 c S).2,C _ _ hl,λW U=>(xq1 Z ?_)⟩);cases L:c.fits cell m with
  |true =>
   refine CT ?_;refine xq1 Z ?_;have e:MC r cell m=some i:=by
    unfold MC;rw[V2];have hi:i<r.length:=(B9.mp B).1;refine⟨hi,?_,λj hj=>?_⟩
    .rw[(B9.mp B).2];exact L
    .have:=no r[j] (List.mem_take_iff_getElem.mpr ⟨j,by omega,Z⟩);rw[this];exact F4
   have:=k W (C.trans U);rw[e]at this;exact this
  |false =>
   refine Bl ⟨C.trans U,⟨_,_,Z⟩,λd M=>?_⟩;rw[F9,B]at M;rcases D3.mp M with z|z
   .exact no d z
   .have:d=c:=by simpa using z
    rw[this];exact L
 .rintro σ g ⟨I,⟨u,v,rfl⟩,no⟩;rw[B8,ln,J7]at no;have e:MC r cell m=none:=by
   unfold MC;rw[List.findIdx?_eq_none_iff];exact no
  have:=k g I;rw[e]at this;exact this
inductive SpBec(a:Ad)(vs:List V)(H:Hp)(Q:VK):Prop
|mk (p l:R_) (z:Str) (r:AA) (cell:Int) (ar:I_) (_:vs=[.ref p,.int cell,.ref l]) (_:BV a H p z r) (_:ROk r) (_:H l=some (.lst (ar.map V.int))) (_:∀H',Az H H'->Q (.int (Co r cell ar)) H'):SpBec a vs H Q
def Sw(a:Ad):Sp:=λvs H Q _=>SpBec a vs H Q
theorem NU{r:AA}{cell:Int}{b:I_}(h:MC r cell b=none):Co r cell b=cell:=by
 unfold MC at h;rw[List.findIdx?_eq_none_iff]at h;unfold Co;rw[P3.mpr λc d=>by rw[h c d];exact F4]
theorem NT{r:AA}{cell:Int}{b:I_}{i:Nat}(h:MC r cell b=some i):∃c,r[i]?=some c/\Co r cell b=c.makes:=by
 unfold MC at h;rw[V2]at h;obtain⟨d,e,f⟩:=h;refine⟨r[i],F0 d,?_⟩;unfold Co;have:r.find? (Bc.fits cell b)=some r[i]:=by
  rw[List.find?_eq_some_iff_getElem];exact⟨e,i,d,Z,λj g=>by simpa using f j g⟩
 rw[this]
theorem ok_bec(F:Fun K "becomes" "becomes" LJ f fd)(T:Top K mg a)(x:Cal P w K mg base CX0 4 "deciding" JD (Vc a)):AT P w K mg base CX0 5 f fd JD (Sw a):=by
 refine F.ok Nd D_9 λy A j s H vs Q E O h=>?_
 obtain⟨p,l,z,r,cell,n,rfl,v,M,L,k⟩:=h;refine⟨_,(Ae (Av (i:=3) Nd.nd Z O_9 (AB x (rm O) Z Ao (Aa (pv 0) (Aa (pv 1) (Aa (pv 2) Ab))))) (Ae (AS (AF Nr (pv 3) Jz (AI _)) (Af (Ax (pv 1))) AD) (Af (Ax (AK (Ah Ap (AK (pv 0) Z) (pv 3) R_9) Z))))),?_⟩
 try dsimp only[cxK]
 refine xw3 Z Z Z ⟨p,l,z,r,cell,n,Z,v,M,L,λm g=>?_⟩;refine xq1 Z ⟨Z,(xq1 Z ?_)⟩;cases e:MC r cell n with
 |none =>
  refine CT (xq1 Z ?_);have:=k m g;rw[NU e]at this;exact this
 |some i =>
  obtain⟨c,o,D⟩:=NT e;obtain⟨V,t,cs,N,R,d⟩:=v.ex;obtain⟨q,u⟩:∃q,cs[i]?=some q:=by
   have S:cs.length=r.length:=Y4 d;have:i<cs.length:=by rw[S];exact(B9.mp o).1
   exact⟨_,F0 this⟩
  obtain⟨U,b,I⟩:=Paired.get d u;rw[o]at b;cases b;obtain⟨C,W,B,G,_⟩:=(I.same g).ex;refine Bl (xwf Z Z (g _ _ N) T.cl_Rule T.na_Rule_clauses VZ (xwi Z Z Z (SqT.of (g _ _ R)) (Am (by rw[C7,u];rfl)) (xq5 G T.cl_Clause T.na_Clause_makes fl3_3 ?_)));have:=k m g;rw[D]at this;exact this
end
noncomputable def sgD(d:Int):Str:=⟨#[48+d.toNat]⟩
noncomputable def wC:Option Int->Nat
|none=>42
|some d=>48+d.toNat
noncomputable def wS(x:Option Int):Str:=⟨#[wC x]⟩
noncomputable def Dz(ns:I_):Str:=⟨(ns.map λn=>48+n.toNat).toArray⟩
noncomputable def BA:BE->Str
|.am s ns=>sgD s++⟨#[61]⟩++Dz ns
|.pl ws=>⟨(ws.map wC).toArray⟩
noncomputable def BN(c:Bc):Str:=Str.join ⟨#[32]⟩ (wS c.cell::(c.conds.map BA++[sgD c.makes]))
noncomputable def OC:Str:=⟨#[59,32]⟩
noncomputable def BO(r:AA):Str:=Str.join OC (r.map BN)
def DC(d:Int):Prop:=0<=d/\d<8
def wOk:Option Int->Prop
|none=>True
|some d=>DC d
def BE.ok:BE->Prop
|.am s ns=>DC s/\ns≠[]/\(∀n∈ns,0<=n/\n<=8)/\ns.Pairwise (· < ·)
|.pl ws=>ws.length=8/\∀w∈ws,wOk w
structure Bc.ok(c:Bc):Prop where
cell:wOk c.cell
makes:DC c.makes
few:c.conds.length<=50
conds:∀d∈c.conds,d.ok
theorem eight{d:Int}(h:DC d):d=0\/d=1\/d=2\/d=3\/d=4\/d=5\/d=6\/d=7:=by
 obtain⟨m,rfl⟩:=M7 h.1;have a:=h.2;exact(show ∀m:Nat,m<8->((m:Int)=0\/(m:Int)=1\/(m:Int)=2\/(m:Int)=3\/(m:Int)=4\/(m:Int)=5\/(m:Int)=6\/(m:Int)=7) by decide) m A1
noncomputable abbrev figs8:Str:=Str.ofString "01234567"
noncomputable abbrev figs9:Str:=Str.ofString "012345678"
theorem UV{d:Int}(h:DC d):PySem.intText? (sgD d)=some d/\(!(Builtin.Str.occurrences figs8 (sgD d) 0 figs8.length 1).isEmpty)=true:=by
 rcases eight h with rfl|rfl|rfl|rfl|rfl|rfl|rfl|rfl<;>exact⟨by decide +kernel,by decide +kernel⟩
theorem nine{d:Int}(a:0<=d)(b:d<=8):d=0\/d=1\/d=2\/d=3\/d=4\/d=5\/d=6\/d=7\/d=8:=by
 obtain⟨m,rfl⟩:=M7 a;exact(show ∀m:Nat,m<9->((m:Int)=0\/(m:Int)=1\/(m:Int)=2\/(m:Int)=3\/(m:Int)=4\/(m:Int)=5\/(m:Int)=6\/(m:Int)=7\/(m:Int)=8) by decide) m A1
theorem Wm{d:Int}(a:0<=d)(b:d<=8):PySem.intText? (⟨#[48+d.toNat]⟩:Str)=some d/\(!(Builtin.Str.occurrences figs9 (⟨#[48+d.toNat]⟩:Str) 0 figs9.length 1).isEmpty)=true:=by
 rcases nine a b with rfl|rfl|rfl|rfl|rfl|rfl|rfl|rfl|rfl<;>exact⟨by decide +kernel,by decide +kernel⟩
theorem star_no{d:Int}(h:DC d):decide (V.str (wS (some d))=V.str (Str.ofString "*"))=false:=by
 rcases eight h with rfl|rfl|rfl|rfl|rfl|rfl|rfl|rfl<;>decide +kernel
theorem Ot{x:Option Int}(h:wOk x):wC x≠61/\wC x≠32/\wC x≠59:=by
 cases x with
 |none=>exact⟨by decide,by decide,by decide⟩
 |some d =>
  have:=h.1;have:=h.2;show 48+d.toNat≠61/\48+d.toNat≠32/\48+d.toNat≠59;refine⟨?_,?_,?_⟩<;>lia
theorem ON{d:BE}(h:d.ok):32∉(BA d).cps.toList/\59∉(BA d).cps.toList:=by
 cases d with
 |am s c =>
  obtain⟨⟨g,i⟩,_,f,_⟩:=h;have e:(BA (.am s c)).cps.toList=(48+s.toNat)::61::c.map λn=>48+n.toNat:=by
   show(sgD s++⟨#[61]⟩++Dz c).cps.toList=_;rw[Tx.CI,Tx.CI];rfl
  rw[e];constructor
  .intro z;rcases D1.mp z with z|z
   .lia
   .rcases D1.mp z with z|z
    .lia
    .obtain⟨n,a,e⟩:=D7.mp z;have:=f n a;lia
  .intro z;rcases D1.mp z with z|z
   .lia
   .rcases D1.mp z with z|z
    .lia
    .obtain⟨n,a,e⟩:=D7.mp z;have:=f n a;lia
 |pl ws =>
  have e:(BA (.pl ws)).cps.toList=ws.map wC:=rfl;rw[e];constructor
  .intro z;obtain⟨x,b,e⟩:=D7.mp z;exact(Ot (h.2 x b)).2.1 e
  .intro z;obtain⟨x,b,e⟩:=D7.mp z;exact(Ot (h.2 x b)).2.2 e
theorem Ly:∀(a:I_)(lo:Int),lo<=9->(∀n∈a,lo<=n/\n<=8)->a.Pairwise (· < ·)->(a.length:Int)<=9-lo
|[],lo,h,_,_=>by show(0:Int)<=9-lo;lia
|n::r,lo,_,hn,hp=>by
 have c:=hn n D8;have d:=Ly r (n+1) A1 (λm b=>⟨by have:=(V1.mp hp).1 m b;lia,(hn m (D9 _ b)).2⟩) (V1.mp hp).2;rw[F7];lia
theorem Lp{d:BE}(h:d.ok):(BA d).length<=11:=by
 cases d with
 |am s a =>
  obtain⟨_,_,b,c⟩:=h;have e:=Ly a 0 A3 b c;rw[Nu.len];show(sgD s++⟨#[61]⟩++Dz a).cps.toList.length<=11;rw[Tx.CI,Tx.CI,C6,C6];show 1+1+(a.map λn=>48+n.toNat).length<=11;rw[B8];lia
 |pl ws =>
  rw[Nu.len];show(ws.map wC).length<=11;rw[B8,h.1];decide
section
variable{P:N_}{w:Q_}{K:O_}{mg:C_}{base:T_}{a:Ad}
theorem Sj(K:O_):kitOne K (.type "str") (.type "str")=some true:=by kernel_rfl
inductive SpRS(vs:List V)(H:Hp)(Q:VK):Prop
|mk (d:Int) (_:vs=[.str (sgD d)]) (_:DC d) (_:Q (.int d) H):SpRS vs H Q
def UY:Sp:=λvs H Q _=>SpRS vs H Q
theorem ok_rs(F:Fun K "read_state" "read_state" GP f fd)(T:Top K mg a):AT P w K mg base CX0 1 f fd PH UY:=by
 refine F.ok Oa D_9 λc A b s H vs Q E j h=>?_
 obtain⟨d,rfl,i,k⟩:=h;obtain⟨e,g⟩:=UV i;refine⟨_,(Ae (AS (PW.pt (Ir (AF Iu (AU Il Z T.b_len Z2 (Aa (pv 0) Ab)) Ac (AI _)) (Ft (AF La (pv 0) (MH Z T.k_STATE_FIGURES) Z)))) (Af BT) AD) (Af (Ax (Bp GB Z T.b_int Z6 (Aa (pv 0) Ab))))),?_⟩
 try dsimp only[cxK]
 refine xw2 Z Z ⟨S_1,Z,(xq1 Z ?_)⟩;refine SX Z (xwb Z Z Z (xq1 Z ?_));rw[g];exact Bl (xq1 Z ⟨_,d,Z,e,(by show 1<=640;decide),k⟩)
inductive SpRW(vs:List V)(H:Hp)(Q:VK):Prop
|mk (x:Option Int) (_:vs=[.str (wS x)]) (_:wOk x) (_:Q (Gx x) H):SpRW vs H Q
def spRW:Sp:=λvs H Q _=>SpRW vs H Q
theorem ok_rw(F:Fun K "read_wanted" "read_wanted" FZ f fd)(T:Top K mg a)(e:Cal P w K mg base CX0 1 "read_state" PH UY):AT P w K mg base CX0 2 f fd PH spRW:=by
 refine F.ok Nb D_9 λg A b s H vs Q E i h=>?_
 obtain⟨x,rfl,c,k⟩:=h;refine⟨_,(Ae (AS (AF Ci (pv 0) (MH Z T.k_ANY_SIGN) (AI _)) (Af (Ax Jz)) AD) (Af (Ax (AB e (rm i) Z Ao (Aa (pv 0) Ab))))),?_⟩
 try dsimp only[cxK]
 refine xq1 Z ⟨Z,(xq1 Z ?_)⟩;cases x with
 |none=>exact CT k
 |some d =>
  rw[star_no c];exact Bl (xq1 Z ⟨d,Z,c,k⟩)
inductive SpRN(vs:List V)(H:Hp)(Q:VK):Prop
|mk (ns:I_) (_:vs=[.str (Dz ns)]) (_:ns≠[]) (_:ns.length<=100) (_:(∀n∈ns,0<=n/\n<=8)) (_:ns.Pairwise (· < ·)) (_:∀(t:R_)(H':Hp),Az H H'->H' t=some (.tup (ns.map V.int))->Q (.ref t) H'):SpRN vs H Q
def spRN:Sp:=λvs H Q _=>SpRN vs H Q
theorem ok_rn(F:Fun K "read_numbers" "read_numbers" Fb f fd)(T:Top K mg a):AT P w K mg base CX0 1 f fd Fu spRN:=by
 refine F.ok ED D_9 λM A r s H vs Q E hr h=>?_
 obtain⟨b,rfl,p,D,I,U,k⟩:=h;have O:(Dz b).length=b.length:=by rw[Nu.len];show(b.map _).length=_;rw[B8]
 have y:(Dz b).cps.toList=b.map λn=>48+n.toNat:=rfl;have aa:0<b.length:=List.length_pos_iff.mpr p;refine⟨_,(Ae (AS (AF Ci (AU Il Z T.b_len Z2 (Aa (pv 0) Ab)) Ac (AI _)) (Af BT) AD) (Ae (Av (i:=1) ED.nd Z O_9 (Bq Ab)) (Ae (BQ Y5 Z (Vl (pv 0)) (AN (i:=2) ED.nd Z O_9) (Ae (AS (AF La (pv 2) (MH Z T.k_AMOUNT_FIGURES) Z) (Af BT) AD) (Ae (AS (PW.pt (Pp (AF Oy (AU BK Z T.b_len Z2 (Aa (pv 1) Ab)) Ac (AI _)) (Po (AF Ld (Bp GB Z T.b_int Z6 (Aa (pv 2) Ab)) (Ah Au (pv 1) (JV GL Ac) R_9) (AI _))))) (Af BT) AD) (Af (Ba (Cf W5 W6 W7 Bd (pv 1) (Aa (Bp GB Z T.b_int Z6 (Aa (pv 2) Ab)) Ab))))))) (Af (Ax (Bp CN Z T.b_tuple Z8 (Aa (pv 1) Ab))))))),?_⟩
 try dsimp only[cxK]
 refine xw2 Z Z ⟨(by rw[O];exact D4 D A3),Z,(xq1 Z ?_)⟩;have Y:decide (V.int ((Dz b).length:Int)=V.int 0)=false:=W3 λz=>by
  injection z with z
  lia
 rw[Y];refine Bl ⟨S_0,λl o=>?_⟩;refine xw2 Z Z ?_;refine for_str (λi σ d=>∃v,σ=[some (.str (Dz b)),some (.ref l),v]/\d=upd H l (.lst ((b.take i).map V.int))) ⟨none,Z,Z⟩ ?_ ?_
 .rintro i ch σ d m ⟨v,rfl,rfl⟩;have c:(b.map λn=>48+n.toNat)[i]?=some ch:=by rw[<-y];simpa using m
  rw[C7]at c;obtain⟨n,g,rfl⟩:=D5.mp c;have L:=D6 g;obtain⟨B,R⟩:=Wm (I n L).1 (I n L).2;have C:i<b.length:=(B9.mp g).1;have u:(b.take i).length=i:=by rw[M6];lia
  refine xwb Z Z Z (xq1 Z ?_);rw[R];refine Bl (xq1 Z ⟨l,(xq1 Z ⟨.inl (SqL.of Ag),(xq2 Z Z (xq1 Z ?_))⟩)⟩);have nx:∃v,([some (V.str (Dz b)),some (.ref l),some (.str ⟨#[48+n.toNat]⟩)]:St)=[some (.str (Dz b)),some (.ref l),v]/\upd (upd H l (.lst ((b.take i).map V.int))) l (.lst ((b.take i).map V.int++[V.int n]))=upd H l (.lst ((b.take (i+1)).map V.int)):=by
   refine xq1 Z ?_;rw[GK,F9,g,C0];rfl
  have app:tDrop (tBM K "list" SF (GD 1) (CO (tCB (λxs H Q=>∃x n,xs=[.str x]/\PySem.intText? x=some n/\x.length<=640/\Q (.int n) H) (CO (GD 2) OZ)) OZ))
    {nx:=fun σ d=>∃v,σ=[some (.str (Dz b)),some (.ref l),v]/\d=upd H l (.lst ((b.take (i+1)).map V.int)),rt:=Q,bk:=λ_ _=>False,ct:=fun σ d=>∃v,σ=[some (.str (Dz b)),some (.ref l),v]/\d=upd H l (.lst ((b.take (i+1)).map V.int))}
    [some (.str (Dz b)),some (.ref l),some (.str ⟨#[48+n.toNat]⟩)] (upd H l (.lst ((b.take i).map V.int))) :=
   ⟨_,Z,.inl ⟨Z,_,SqL.of Ag⟩,_,Z,_,n,Z,B,(by show 1<=640;decide),l,_,_,Z,Z,Ag,(by rw[B8,u];exact J6 C (D4 D A3)),nx⟩
  by_cases X:i=0
  .subst X;exact Bl app
  .have ip:0<i:=by lia
   have q:decide ((0:Int)<(((b.take i).map V.int).length:Int))=true:=W1 (by rw[B8,u];lia);rw[q];have G:i-1<b.length:=by lia
   have S:b[i-1]<n:=by
    have:=List.pairwise_iff_getElem.mp U (i-1) i G C A1;rw[(B9.mp g).2]at this;exact this
   have j:atI ((b.take i).map V.int) (-1)=some (V.int b[i-1]):=by
    have:((b.take i).map V.int)[i-1]?=some (V.int b[i-1]):=by
     rw[C7,S6 A1,F0 G];rfl
    have N:((b.take i).map V.int).length=i:=by rw[B8,u]
    unfold atI ixN;rw[N,W4 A3,W9 A1];show((b.take i).map V.int)[((-1:Int)+(i:Nat)).toNat]?=_;rw[show((-1:Int)+(i:Nat)).toNat=i-1 by lia];exact this
   refine CT (xq1 Z ⟨_,n,Z,B,(by show 1<=640;decide),(xw2 Z Z ⟨l,_,(xq2 Z Z ⟨SqL.of Ag,j,(xq2 Z Z (xq1 Z ?_))⟩)⟩)⟩);rw[W3 (by lia:¬n<=b[i-1])];exact Bl app
 .rintro σ d ⟨v,rfl,rfl⟩;have e:(Dz b).cps.size=b.length:=by
   have:(Dz b).cps.toList.length=b.length:=by rw[y,B8]
   simpa using this
  rw[e,J7];refine xq1 Z ⟨l,(xq1 Z (.inl ⟨SqL.of Ag,λt W=>?_⟩))⟩;exact k t _ ((Al o).trans (Al W)) Ag
theorem eq_in(x:Str):(!(Builtin.Str.occurrences x (Str.ofString "=") 0 x.length 1).isEmpty)=decide (61∈x.cps.toList):=by
 have:Str.ofString "=" = (⟨#[61]⟩:Str):=by decide +kernel
 rw[this];exact StrLaws.found_one x 61
inductive Tn(a:Ad)(vs:List V)(H:Hp)(Q:VK):Prop
|mk (d:BE) (_:vs=[.str (BA d)]) (_:d.ok) (_:∀(p:R_)(H':Hp),Az H H'->Dh a H' p d->Q (.ref p) H'):Tn a vs H Q
def Pc(a:Ad):Sp:=λvs H Q _=>Tn a vs H Q
inductive SpRAm(a:Ad)(vs:List V)(H:Hp)(Q:VK):Prop
|mk (s:Int) (ns:I_) (_:vs=[.str (BA (.am s ns))]) (_:(BE.am s ns).ok) (_:∀(p:R_)(H':Hp),Az H H'->Dh a H' p (.am s ns)->Q (.ref p) H'):SpRAm a vs H Q
def Va(a:Ad):Sp:=λvs H Q _=>SpRAm a vs H Q
theorem ok_ram(F:Fun K "read_amounts" "read_amounts" Fc f fd)(T:Top K mg a)(I:Cal P w K mg base CX0 1 "read_state" PH UY)(L:Cal P w K mg base CX0 1 "read_numbers" Fu spRN)
 (M:Qo P w K mg base CX0 1 "Amounts" a.c_Amounts NH (MY a)):AT P w K mg base CX0 3 f fd PH (Va a):=by
 refine F.ok Im D_9 λN A q s H vs Q E n h=>?_
 obtain⟨d,j,rfl,y,k⟩:=h;have u:=Lp y;obtain⟨r,m,v,B⟩:=y;have U:=Ly j 0 A3 v B;have l:Str.ofString "=" = (⟨#[61]⟩:Str):=by decide +kernel
 have O:Txt.partition (BA (.am d j)) (Str.ofString "=")=(sgD d,⟨#[61]⟩,Dz j):=by
  rw[l];refine Tx.part_at 61 (sgD d) (Dz j) ?_;intro z;have:61=48+d.toNat:=by simpa[sgD] using z
  have:=r.2;lia
 refine⟨_,(Ae (Av (i:=1) Im.nd Z O_9 (Cf Z9 PySem.F.slot_str_partition PySem.F.type_str_partition PV (pv 0) (Px Ab))) (Af (Ax (JY M (rm n) Z Ao (Aa (AB I (rm n) Z Ao (Aa (Ah Ap (pv 1) Ac R_9) Ab)) (Aa (AB L (rm n) Z Ao (Aa (Ah Ap (pv 1) Ac R_9) Ab)) Ab)))))),?_⟩
 try dsimp only[cxK]
 refine xq1 Z ⟨Z,(xq2 Z Z ⟨A0,A1,λt R=>?_⟩)⟩;rw[O];refine xq1 Z ⟨t,_,0,(xq1 Z ⟨Z,SqT.of Ag,Z,d,Z,r,(xq1 Z ⟨t,_,2,(xq1 Z ⟨Z,SqT.of Ag,Z,j,Z,m,by lia,v,B,λG c S o=>?_⟩)⟩)⟩)⟩;intro x b C e g;have V:Az c (upd (upd c b (.own x)) x (.ins a.c_Amounts b [])):=(Al e).trans (Al (by rw[Ar (W8 g)];exact C));refine⟨x,G,b,d,Z,Ag,Z,?_⟩;have p:(upd c b (.own x)) x=none:=by rw[Ar (W8 g)];exact C
 rw[GK];have D:Az c (upd (upd c b (.own x)) x (.ins a.c_Amounts b (fl2 "state" "numbers" (.int d) (.ref G)))):=(Al e).trans (Al p);exact k x _ (((Al R).trans S).trans D) (.am Ag (D _ _ o))
inductive SpRPl(a:Ad)(vs:List V)(H:Hp)(Q:VK):Prop
|mk (ws:List (Option Int)) (_:vs=[.str (BA (.pl ws))]) (_:(BE.pl ws).ok) (_:∀(p:R_)(H':Hp),Az H H'->Dh a H' p (.pl ws)->Q (.ref p) H'):SpRPl a vs H Q
def UZ(a:Ad):Sp:=λvs H Q _=>SpRPl a vs H Q
theorem ok_rpl(F:Fun K "read_places" "read_places" Er f fd)(T:Top K mg a)(B:Cal P w K mg base CX0 2 "read_wanted" PH spRW)
 (C:Qo P w K mg base CX0 1 "Places" a.c_Places Om (MV a)):AT P w K mg base CX0 3 f fd PH (UZ a):=by
 refine F.ok Nc D_9 λD A n s H vs Q E y h=>?_
 obtain⟨ws,rfl,v,k⟩:=h;have e:=Lp v;obtain⟨u,L⟩:=v;have G:(BA (.pl ws)).length=8:=by rw[Nu.len];show(ws.map wC).length=8;rw[B8,u]
 have p:(BA (.pl ws)).cps.toList=ws.map wC:=rfl;refine⟨_,(Ae (AS (AF Iu (AU Il Z T.b_len Z2 (Aa (pv 0) Ab)) (CS Z T.k_NEIGHBOURS) (AI _)) (Af BT) AD) (Af (Ax (JY C (rm y) Z Ao (Aa (Bp CN Z T.b_tuple Z8 (Aa (BZ Z (Bn.of (So:=Ai Er) (No:=PH) (N:=["sign"]) (k:=1) (cs:=[]) Z Z A0) (Vl (pv 0)) (λ_ _ _=>(AY (i:=0) A0 Z Z)) (λ_ _ _=>BB) (λ_ _ _=>(AB B (rm y) Z Ao (Aa (pv 0) Ab)))) Ab)) Ab))))),?_⟩
 try dsimp only[cxK]
 refine xw2 Z Z ⟨D4 e A3,Z,(xq1 Z ?_)⟩;rw[G];refine SX Z (xw2 Z Z ?_);refine blk_str (λi c b=>b=H/\c=(ws.take i).map Gx) ⟨Z,Z⟩ ?_ ?_
 .rintro i ch c b d ⟨rfl,rfl⟩;rw[p,C7]at d;obtain⟨x,r,rfl⟩:=D5.mp d;refine⟨⟨[some (.str ⟨#[wC x]⟩)],Z,Z⟩,?_,?_⟩
  .rw[B8,M6];exact F3 (S8 _ _) (by rw[u];decide)
  .refine EQ (xq1 Z ⟨x,Z,L x (D6 r),Z,?_⟩);rw[F9,r,C0];rfl
 .rintro c b ⟨rfl,rfl⟩ q M;rw[p,B8,J7];refine⟨q,(xq1 Z (.inl ⟨SqL.of Ag,λt I=>?_⟩))⟩;intro x g O j l;have m:∀o,(upd (upd (upd b q (.lst (ws.map Gx))) t (.tup (ws.map Gx))) g o) x=none:=λo=>by rw[Ar (W8 l)];exact O
  refine⟨x,t,g,Z,Ag,Z,?_⟩;rw[GK];have R:Az b (upd (upd b q (.lst (ws.map Gx))) t (.tup (ws.map Gx))):=(Al M).trans (Al I);have z:Az (upd (upd b q (.lst (ws.map Gx))) t (.tup (ws.map Gx))) (upd (upd (upd (upd b q (.lst (ws.map Gx))) t (.tup (ws.map Gx))) g (.own x)) x (.ins a.c_Places g (fl1 "wanted" (.ref t)))):=(Al j).trans (Al (m _));exact k x _ (R.trans z) (.pl Ag (z _ _ Ag))
theorem Vz(F:Fun K "read_condition" "read_condition" Ea f fd)(T:Top K mg a)(j:Cal P w K mg base CX0 3 "read_amounts" PH (Va a))(l:Cal P w K mg base CX0 3 "read_places" PH (UZ a)) :
 AT P w K mg base CX0 4 f fd PH (Pc a):=by
 refine F.ok JN D_9 λn A g s H vs Q E i h=>?_
 obtain⟨d,rfl,b,k⟩:=h;refine⟨_,(Ae (AS (AF TQ GY (pv 0) Z) (Af (Ax (AB j (rm i) Z Ao (Aa (pv 0) Ab)))) AD) (Af (Ax (AB l (rm i) Z Ao (Aa (pv 0) Ab))))),?_⟩
 try dsimp only[cxK]
 refine xwb Z Z Z (xq1 Z ?_);rw[eq_in];cases d with
 |am s c =>
  have m:61∈(BA (.am s c)).cps.toList:=by
   show 61∈(sgD s++⟨#[61]⟩++Dz c).cps.toList;rw[Tx.CI,Tx.CI];simp
  rw[W1 m];exact CT (xq1 Z ⟨s,c,Z,b,k⟩)
 |pl ws =>
  have m:¬61∈(BA (.pl ws)).cps.toList:=λz=>by
   obtain⟨x,o,e⟩:=D7.mp (show 61∈ws.map wC from z);exact(Ot (b.2 x o)).1 e
  rw[W3 m];exact Bl (xq1 Z ⟨ws,Z,b,k⟩)
inductive SpRC(a:Ad)(vs:List V)(H:Hp)(Q:VK):Prop
|mk (c:Bc) (_:vs=[.str (BN c)]) (_:c.ok) (_:∀(p:R_)(H':Hp),Az H H'->BY a H' p c->Q (.ref p) H'):SpRC a vs H Q
def spRC(a:Ad):Sp:=λvs H Q _=>SpRC a vs H Q
theorem JI{c:Bc}(h:c.ok):(BN c).length<=1000:=by
 have j:=StrLaws.join_length_le ⟨#[32]⟩ (wS c.cell::(c.conds.map BA++[sgD c.makes]));have b:∀l:List BE,(∀d∈l,d.ok)->((l.map BA).map (·.length)).sum<=11*l.length:=by
  intro l;induction l with
  |nil=>intro _;exact L5 _
  |cons d r k =>
   intro f;have q:=Lp (f d D8);have s:=k λe i=>f e (D9 _ i);simp only[J1,P1,F7];lia
 have p:=b c.conds h.conds;have g:=h.few;simp only[J1,C0,List.map_nil,P1,List.sum_append,List.sum_nil,F7,C6,R0,B8]at j;have m:(wS c.cell).length=1:=rfl;have n:(sgD c.makes).length=1:=rfl;have o:(⟨#[32]⟩:Str).length=1:=rfl;rw[m,n,o]at j;unfold BN;lia
theorem Jh(x:Option Int)(h:wOk x):32∉(wS x).cps.toList/\59∉(wS x).cps.toList:=by
 have:=Ot h;constructor
 .intro z;have:32=wC x:=by simpa[wS] using z
  exact(Ot h).2.1 this.symm
 .intro z;have:59=wC x:=by simpa[wS] using z
  exact(Ot h).2.2 this.symm
theorem Qi{c:Bc}(h:c.ok):Txt.split (BN c) (Str.ofString " ")=wS c.cell::(c.conds.map BA++[sgD c.makes]):=by
 have e:Str.ofString " " = (⟨#[32]⟩:Str):=by decide +kernel
 rw[e];refine Tx.Qw 32 _ B0 λt b=>?_;rcases D1.mp b with rfl|b
 .exact(Jh _ h.cell).1
 .rcases D3.mp b with b|b
  .obtain⟨d,f,rfl⟩:=D7.mp b;exact(ON (h.conds d f)).1
  .rw[C8.mp b];exact(Jh (some c.makes) h.makes).1
theorem cut_mid(x z:V)(ys:List V):NQ (x::(ys++[z])) (some 1) (some (-1))=ys:=by
 have n:(x::(ys++[z])).length=ys.length+2:=by simp
 unfold NQ;rw[n];have b:HT.sIx (ys.length+2) 0 (some 1)=1:=by
  show(if(1:Int)<0 then((1:Int)+((ys.length+2:Nat):Int)).toNat else min (1:Int).toNat (ys.length+2))=1;rw[W4 A3];show min 1 (ys.length+2)=1;lia
 have c:HT.sIx (ys.length+2) (ys.length+2) (some (-1))=ys.length+1:=by
  show(if(-1:Int)<0 then((-1:Int)+((ys.length+2:Nat):Int)).toNat else min (-1:Int).toNat (ys.length+2))=ys.length+1;rw[W9 A3];lia
 rw[b,c];show(ys++[z]).take (ys.length+1-1)=ys;rw[Nat.add_sub_cancel,List.take_left' rfl]
theorem at_last(x:V)(ys:List V)(z:V):atI (x::(ys++[z])) (-1)=some z:=by
 have n:(x::(ys++[z])).length=ys.length+2:=by simp
 unfold atI ixN;rw[n,W4 A3,W9 A1];show(x::(ys++[z]))[((-1:Int)+((ys.length+2:Nat):Int)).toNat]?=some z;rw[show((-1:Int)+((ys.length+2:Nat):Int)).toNat=ys.length+1 by lia,T0,F1 (C9 _),O8];rfl
theorem ok_rc(F:Fun K "read_clause" "read_clause" Es f fd)(T:Top K mg a)(aR:Cal P w K mg base CX0 1 "read_state" PH UY)(aX:Cal P w K mg base CX0 2 "read_wanted" PH spRW)
 (bB:Cal P w K mg base CX0 4 "read_condition" PH (Pc a)) (cN:Qo P w K mg base CX0 1 "Clause" a.c_Clause Op (MX a)):AT P w K mg base CX0 5 f fd Gk (spRC a):=by
 refine F.ok DD D_9 λad A aa s H vs Q E I h=>?_
 obtain⟨c,rfl,u,k⟩:=h;have ac:=JI u;have L:=u.few;refine⟨_,(Ae (AS (CB (Cv (AU Dk Z T.b_isinstance Y9 (Aa (pv 0) (Aa (Ev (v:=.ty "str") Z T.b_str X7 Z) Ab))))) (Af BT) AD) (Ae (Av (i:=1) DD.nd Z O_9 (Cf Z9 PySem.F.slot_str_split PySem.F.type_str_split QP (pv 0) (Px Ab))) (Ae (AS (AF Lb (AU BK Z T.b_len Z2 (Aa (pv 1) Ab)) Ac (AI _)) (Af BT) AD) (Ae (Av (i:=2) DD.nd Z O_9 (AB aX (rm I) Z Ao (Aa (Ah Au (pv 1) Ac R_9) Ab))) (Ae (Av (i:=3) DD.nd Z O_9 (Bp CN Z T.b_tuple Z8 (Aa (BZ Z (Bn.of (So:=Ai Es) (No:=Jo) (N:=["word"]) (k:=1) (cs:=[]) Z Z A0) (Bu (GF Jd (pv 1) (DP Ac) (DP (JV GL Ac)))) (λ_ _ _=>(AY (i:=0) A0 Z Z)) (λ_ _ _=>BB) (λ_ _ _=>(AB bB (rm I) Z Ao (Aa (pv 0) Ab)))) Ab))) (Af (Ax (JY cN (rm I) Z Ao (Aa (pv 2) (Aa (pv 3) (Aa (AB aR (rm I) Z Ao (Aa (Ah Au (pv 1) (JV GL Ac) R_9) Ab)) Ab))))))))))),?_⟩
 try dsimp only[cxK]
 refine xq1 Z ⟨_,_,_,.type "str",true,Z,Z,.of (.str _),Sj K,true,Z,?_⟩;refine Bl (xq1 Z ⟨Z,(xq2 Z Z ⟨A0,A1,λl hl=>?_⟩)⟩);rw[Qi u];have eW:((wS c.cell::(c.conds.map BA++[sgD c.makes])).map V.str)=V.str (wS c.cell)::((c.conds.map λd=>V.str (BA d))++[V.str (sgD c.makes)]):=by
  rw[J1,C0,N9];rfl
 rw[eW];have hL:∀o,upd H l o l=some o:=λo=>Ag;refine xq1 Z ⟨l,(xq1 Z ⟨.inl (SqL.of Ag),(xq2 Z Z (xq1 Z ?_))⟩)⟩;rw[W3 (by simp;lia:¬((((V.str (wS c.cell)::((c.conds.map λd=>V.str (BA d))++[V.str (sgD c.makes)])).length:Nat):Int)<2))];refine Bl (xwi Z Z Z (SqL.of Ag) (Am (j:=0) Z) ⟨c.cell,Z,u.cell,?_⟩);refine xw3 Z Z Z (xq1 Z ⟨l,(xq1 Z ⟨SqL.of Ag,λq O=>⟨q,Z,⟨_,SqL.of Ag⟩,?_⟩⟩)⟩);rw[cut_mid];have s0:Az H (upd (upd H l (.lst (V.str (wS c.cell)::((c.conds.map λd=>V.str (BA d))++[V.str (sgD c.makes)])))) q (.lst (c.conds.map λd=>V.str (BA d)))):=(Al hl).trans (Al O);have X:l≠q:=λz=>by rw[<-z,Ag]at O;cases O
 generalize g:upd (upd H l (.lst (V.str (wS c.cell)::((c.conds.map λd=>V.str (BA d))++[V.str (sgD c.makes)])))) q (.lst (c.conds.map λd=>V.str (BA d)))=B;rw[g]at s0;have R:B q=some (.lst (c.conds.map λd=>V.str (BA d))):=by rw[<-g];exact Ag
 have M:B l=some (.lst (V.str (wS c.cell)::((c.conds.map λd=>V.str (BA d))++[V.str (sgD c.makes)]))):=by rw[<-g,Ar X];exact Ag
 refine Ck (xs:=c.conds.map λd=>V.str (BA d)) (λi b e=>∃ps:List Addr,b=ps.map V.ref/\Az B e/\Paired (Dh a e) ps (c.conds.take i)) ⟨[],Z,Az.refl B,.nil⟩ (λi b e _ ⟨ps,_,G,_⟩=>SqL.of (G _ _ R)) ?_ ?_
 .rintro i x b e hx ⟨ps,rfl,G,D⟩;rw[C7]at hx;obtain⟨d,ed,rfl⟩:=D5.mp hx;refine⟨⟨[some (.str (BA d))],Z,Z⟩,?_,?_⟩
  .have e1:=Y4 D;rw[M6]at e1;rw[B8,e1];exact F3 (S8 _ _) (F3 L A3)
  .refine EQ (xq1 Z ⟨d,Z,u.conds d (D6 ed),λp n y hp=>⟨ps++[p],by rw[C0];rfl,G.trans y,?_⟩⟩);rw[F9,ed];exact Z5 (Paired.imp (λ_ _ z=>z.same y) D) hp
 .rintro b e ⟨ps,rfl,G,D⟩ r nr;rw[B8,J7]at D;refine⟨r,(xq1 Z (.inl ⟨SqL.of Ag,λt ht=>?_⟩))⟩;have y:Az B (upd (upd e r (.lst (ps.map V.ref))) t (.tup (ps.map V.ref))):=(G.trans (Al nr)).trans (Al ht);generalize m:upd (upd e r (.lst (ps.map V.ref))) t (.tup (ps.map V.ref))=n;have S:n t=some (.tup (ps.map V.ref)):=by rw[<-m];exact Ag
  have ab:Az e n:=by rw[<-m];exact(Al nr).trans (Al ht)
  rw[m]at y;refine xw3 Z Z Z (xq1 Z ⟨l,_,(xq2 Z Z ⟨SqL.of (y _ _ M),at_last _ _ _,c.makes,Z,u.makes,?_⟩)⟩);intro x C nx U W;have Y:∀o,(upd n C o) x=none:=λo=>by rw[Ar (W8 W)];exact nx
  refine⟨x,t,C,c.cell,c.makes,Z,Ag,Z,?_⟩;rw[GK];have s4:Az n (upd (upd n C (.own x)) x (.ins a.c_Clause C (fl3 "cell" "conditions" "makes" (Gx c.cell) (.ref t) (.int c.makes)))):=(Al U).trans (Al (Y _));exact k x _ ((s0.trans y).trans s4) ⟨C,t,ps,Ag,s4 _ _ S,Paired.imp (λ_ _ z=>(z.same ab).same s4) D⟩
theorem Rc{c:Bc}(h:c.ok):59∉(BN c).cps.toList:=by
 intro z;unfold BN at z;rw[PyProof.Rows.mem_join]at z;rcases z with ⟨t,b,z⟩|⟨_,z⟩
 .rcases D1.mp b with rfl|b
  .exact(Jh _ h.cell).2 z
  .rcases D3.mp b with b|b
   .obtain⟨d,e,rfl⟩:=D7.mp b;exact(ON (h.conds d e)).2 z
   .rw[C8.mp b]at z;exact(Jh (some c.makes) h.makes).2 z
 .have:59=32:=by simpa using z
  lia
end
structure Mh(r:AA):Prop where
few:r.length<=50
ok:∀c∈r,c.ok
theorem Mh.rok{r:AA}(h:Mh r):ROk r:=⟨D4 h.few A3,λc a=>⟨D4 (h.ok c a).few A3,λd b ws e=>by
 subst e;rw[((h.ok c a).conds _ b).1];decide⟩⟩
theorem QC{r:AA}(h:Mh r):(BO r).length<=60000:=by
 have j:=StrLaws.join_length_le OC (r.map BN);have b:∀l:List Bc,(∀c∈l,c.ok)->((l.map BN).map (·.length)).sum<=1000*l.length:=by
  intro l;induction l with
  |nil=>intro _;exact L5 _
  |cons d r i =>
   intro a;have n:=JI (a d D8);have o:=i λe g=>a e (D9 _ g);simp only[J1,P1,F7];omega
 have m:=b r h.ok;have f:=h.few;have k:OC.length=2:=rfl;rw[k,B8]at j;unfold BO;omega
theorem SE{r:AA}(h:r≠[]):decide (V.str (BO r)=V.str (Str.ofString ""))=false:=by
 refine W3 λz=>?_;injection z with z
 obtain⟨c,b⟩:=List.exists_mem_of_ne_nil r h;have d:=PySem.join_mem_le OC (r.map BN) (BN c) (D7.mpr ⟨c,b,Z⟩);have e:=PySem.join_mem_le ⟨#[32]⟩ (wS c.cell::(c.conds.map BA++[sgD c.makes])) (wS c.cell) D8;have f:(wS c.cell).length=1:=rfl;have a:(BO r).length=0:=by rw[z];decide +kernel
 unfold BO at a;have g:(BN c).length=(Str.join ⟨#[32]⟩ (wS c.cell::(c.conds.map BA++[sgD c.makes]))).length:=rfl;omega
theorem Dh.put{a:Ad}{H:Hp}{p q:R_}{o u:HO}{c:BE}(h:Dh a H q c)(i:H p=some u)(n:∀C d fs,u=HO.ins C d fs->fs.lookup ("state" : Str)=none/\fs.lookup ("wanted" : Str)=none/\fs.lookup ("makes" : Str)=none)(nt:∀xs,u≠.tup xs):Dh a (upd H p o) q c:=by
 have f:∀{b v},H b=some v->v≠u->upd H p o b=some v:=λ{b v} e d=>by rw[Ar (Aq e i d)];exact e
 cases h with
 |am h g =>
  refine .am (f h λz=>?_) (f g λz=>nt _ z.symm);have:=(n _ _ _ z.symm).1;rw[Wa A0]at this;cases this
 |pl h g =>
  refine .pl (f h λz=>?_) (f g λz=>nt _ z.symm);have:=(n _ _ _ z.symm).2.1;rw[fl1_1]at this;cases this
theorem BY.put{a:Ad}{H:Hp}{p q:R_}{o u:HO}{c:Bc}(h:BY a H q c)(g:H p=some u)(n:∀C d fs,u=HO.ins C d fs->fs.lookup ("state" : Str)=none/\fs.lookup ("wanted" : Str)=none/\fs.lookup ("makes" : Str)=none)(nt:∀xs,u≠.tup xs):BY a (upd H p o) q c:=by
 have f:∀{b v},H b=some v->v≠u->upd H p o b=some v:=λ{b v} e d=>by rw[Ar (Aq e g d)];exact e
 obtain⟨i,t,cs,j,k,l⟩:=h.ex;refine⟨i,t,cs,f j λz=>?_,f k λz=>nt _ z.symm,Paired.imp (λ_ _ z=>z.put g n nt) l⟩;have:=(n _ _ _ z.symm).2.2;rw[fl3_3]at this;cases this
section
variable{P:N_}{w:Q_}{K:O_}{mg:C_}{base:T_}{a:Ad}
inductive SpCT(vs:List V)(H:Hp)(Q:VK):Prop
|mk (r:AA) (_:vs=[.str (BO r)]) (_:Mh r) (_:∀(l:R_)(H':Hp),Az H H'->H' l=some (.lst (r.map λc=>V.str (BN c)))->Q (.ref l) H'):SpCT vs H Q
def spCT:Sp:=λvs H Q _=>SpCT vs H Q
theorem ok_ct(F:Fun K "clause_texts" "clause_texts" Fd f fd)(T:Top K mg a):AT P w K mg base CX0 1 f fd Gk spCT:=by
 refine F.ok Mt D_9 λm A g s H vs Q E q h=>?_
 obtain⟨r,rfl,j,k⟩:=h;have i:=QC j;refine⟨_,(Ae (AS (AF Ci (pv 0) GY (AI _)) (Af (Ax (Bq Ab))) AD) (Af (Ax (Cf Z9 PySem.F.slot_str_split PySem.F.type_str_split QP (pv 0) (Aa (MH Z T.k_CLAUSE_MARK) Ab))))),?_⟩
 try dsimp only[cxK]
 refine xq1 Z ⟨Z,(xq1 Z ?_)⟩;by_cases b:r=[]
 .subst b;refine CT ⟨S_0,λl d=>?_⟩;exact k l _ (Al d) Ag
 .rw[SE b];refine Bl (xq1 Z ⟨Z,(xq2 Z Z ⟨A0,(by omega),λl d=>?_⟩)⟩);have n:Str.ofString "; " = (⟨#[59,32]⟩:Str):=by decide +kernel
  have e:Txt.split (BO r) (Str.ofString "; ")=r.map BN:=by
   rw[n];refine Tx.Qv _ (by simpa using b) λt p=>?_;obtain⟨c,o,rfl⟩:=D7.mp p;exact Rc (j.ok c o)
  rw[e,N9];exact k l _ (Al d) Ag
inductive SpRI(a:Ad)(vs:List V)(H:Hp)(Q:VK):Prop
|mk (p dx:R_) (r:AA) (_:vs=[.ref p,.str (BO r)]) (_:H p=some (.ins a.c_Rule dx [])) (_:Mh r) (_:∀H',(∀b o,H b=some o->b≠p->H' b=some o)->BV a H' p (BO r) r->Q .non H'):SpRI a vs H Q
def spRI(a:Ad):Sp:=λvs H Q _=>SpRI a vs H Q
theorem ok_ri(F:Fun K "__init__" "Rule.__init__" FS f fd)(T:Top K mg a)(bL:Cal P w K mg base CX0 1 "clause_texts" Gk spCT)(bR:Cal P w K mg base CX0 5 "read_clause" Gk (spRC a)) :
 AT P w K mg base CX0 6 f fd Mr (spRI a):=by
 refine F.ok Pl D_9 λab A X s H vs Q E hr h=>?_
 obtain⟨p,v,r,rfl,hp,R,k⟩:=h;have aa:=QC R;have U:=R.few;refine⟨_,(Ae (CC (pv 0) (pv 1) Z) (Af (CC (pv 0) (Bp CN Z T.b_tuple Z8 (Aa (BZ Z (Bn.of (So:=Ai FS) (No:=Mr) (N:=["part"]) (k:=1) (cs:=[]) Z Z A0) (Bu (AB bL (rm hr) Z Ao (Aa (pv 1) Ab))) (λ_ _ _=>(AY (i:=0) A0 Z Z)) (λ_ _ _=>BB) (λ_ _ _=>(AB bR (rm hr) Z Ao (Aa (pv 0) Ab)))) Ab)) Z))),?_⟩
 try dsimp only[cxK]
 refine xw2 Z Z ⟨p,_,v,[],Z,hp,T.cl_Rule,T.na_Rule_text,B3,?_⟩;generalize D:upd H p (.ins a.c_Rule v (AW "text" (.str (BO r)) []))=S;have y:S p=some (.ins a.c_Rule v (AW "text" (.str (BO r)) [])):=by rw[<-D];exact Ag
 have k1:∀b o,H b=some o->b≠p->S b=some o:=λb o e n=>by rw[<-D,Ar n];exact e
 refine xq1 Z ⟨r,Z,R,λl Y s2 hl=>⟨l,Z,⟨_,SqL.of hl⟩,?_⟩⟩;refine Ck (xs:=r.map λc=>V.str (BN c)) (λi g u=>∃ps:List Addr,g=ps.map V.ref/\Az Y u/\Paired (BY a u) ps (r.take i)) ⟨[],Z,Az.refl Y,.nil⟩ (λi g u _ ⟨ps,_,O,_⟩=>SqL.of (O _ _ hl)) ?_ ?_
 .rintro i x g u hx ⟨ps,rfl,O,I⟩;rw[C7]at hx;obtain⟨c,ec,rfl⟩:=D5.mp hx;refine⟨⟨[some (.str (BN c))],Z,Z⟩,?_,?_⟩
  .have e1:=Y4 I;rw[M6]at e1;rw[B8,e1];exact F3 (S8 _ _) (F3 U A3)
  .refine EQ (xq1 Z ⟨c,Z,R.ok c (D6 ec),λq m s4 hq=>⟨ps++[q],by rw[C0];rfl,O.trans s4,?_⟩⟩);rw[F9,ec];exact Z5 (Paired.imp (λ_ _ z=>z.same s4) I) hq
 .rintro g u ⟨ps,rfl,O,I⟩ q nq;rw[B8,J7]at I;refine⟨q,(xq1 Z (.inl ⟨SqL.of Ag,λt ht=>?_⟩))⟩;generalize G:upd (upd u q (.lst (ps.map V.ref))) t (.tup (ps.map V.ref))=m;have M:Az u m:=by rw[<-G];exact(Al nq).trans (Al ht)
  have B:m t=some (.tup (ps.map V.ref)):=by rw[<-G];exact Ag
  have j:Az S m:=(s2.trans O).trans M;have W:t≠p:=λz=>by rw[z,j _ _ y]at B;cases B
  refine xq1 Z ⟨p,_,v,(xq1 Z ⟨j _ _ y,T.cl_Rule,T.na_Rule_clauses,B5,?_⟩)⟩;have up:∀b o,m b=some o->b≠p->upd m p (.ins a.c_Rule v (fl2 "text" "clauses" (.str (BO r)) (.ref t))) b=some o:=λb o e n=>by rw[Ar n];exact e
  have cl:∀L c,BY a m L c->BY a (upd m p (.ins a.c_Rule v (fl2 "text" "clauses" (.str (BO r)) (.ref t)))) L c:=λL c hc=>by
   exact hc.put (j _ _ y) (λC d fs e=>by
    cases e;exact⟨Qh A0,Qh A0,Qh A0⟩) (λxs z=>by cases z)
  exact k _ (λb o e n=>up _ _ (j _ _ (k1 b o e n)) n) ⟨v,t,ps,Ag,up _ _ B W,Paired.imp (λL c z=>cl L c (z.same M)) I⟩
noncomputable def Cb:List Int:=[0,0,0,0,0,0,0,0]
inductive SpRR(a:Ad)(vs:List V)(H:Hp)(Q:VK):Prop
|mk (r:AA) (_:vs=[.str (BO r)]) (_:Mh r) (_:Co r 0 Cb=0) (_:∀(p:R_)(H':Hp),Az H H'->BV a H' p (BO r) r->Q (.ref p) H'):SpRR a vs H Q
def spRR(a:Ad):Sp:=λvs H Q _=>SpRR a vs H Q
theorem ok_rr(F:Fun K "read_rule" "read_rule" IA f fd)(T:Top K mg a)(D:Qo P w K mg base CX0 6 "Rule" a.c_Rule Mr (spRI a))(C:Cal P w K mg base CX0 5 "becomes" JD (Sw a)) :
 AT P w K mg base CX0 8 f fd Gk (spRR a):=by
 refine F.ok JM D_9 λG A g s H vs Q E t h=>?_
 obtain⟨r,rfl,q,L,k⟩:=h;refine⟨_,(Ae (AS (CB (Cv (AU Dk Z T.b_isinstance Y9 (Aa (pv 0) (Aa (Ev (v:=.ty "str") Z T.b_str X7 Z) Ab))))) (Af BT) AD) (Ae (Av (i:=1) JM.nd Z O_9 (JY D (rm t) Z Ao (Aa (pv 0) Ab))) (Ae (AS (AF Iu (AB C (rm t) Z Ao (Aa (pv 1) (AJ (BI Vt (Bq (AJ Ab)) (CS Z T.k_NEIGHBOURS) Ab)))) Ac (AI _)) (Af BT) AD) (Af (Ax (pv 1)))))),?_⟩
 try dsimp only[cxK]
 refine xq1 Z ⟨_,_,_,.type "str",true,Z,Z,.of (.str _),Sj K,true,Z,?_⟩;refine Bl (xq1 Z ?_);intro x I u d M;refine⟨x,I,r,Z,Ag,q,λz kp j=>⟨Z,?_⟩⟩;have N:Az H z:=λb o e=>kp b o (by rw[Ar (Aj e u),Ar (Aj e d)];exact e) (Aj e u);refine xq1 Z ⟨S_1,λl n=>?_⟩;refine⟨l,8,(xq1 Z ⟨Z,Ag,A3,A3,A3,λm p=>?_⟩)⟩;have O:=(N.trans (Al (o:=.lst [.int 0]) n)).trans (Al (o:=.lst (Cb.map V.int)) p);have c:=(Al (o:=.lst [.int 0]) n).trans (Al (o:=.lst (Cb.map V.int)) p);refine⟨x,m,_,r,0,Cb,Z,j.same c,q.rok,Ag,λB y=>?_⟩;refine⟨Z,(xq1 Z ?_)⟩;rw[L];refine SX Z (xq1 Z ?_);exact k x B (O.trans y) ((j.same c).same y)
end
noncomputable def atN(ns:I_)(k:Int):Int:=ns.getD k.toNat 0
section
variable{P:N_}{w:Q_}{K:O_}{mg:C_}{base:T_}{a:Ad}
inductive SpAt(K:O_)(vs:List V)(H:Hp)(Q:VK):Prop
|mk (l:R_) (ns:I_) (k:Int) (_:vs=[.ref l,.int k]) (_:SqL K H l (ns.map V.int)) (_:0<=k) (_:Q (.int (atN ns k)) H):SpAt K vs H Q
def TJ(K:O_):Sp:=λvs H Q _=>SpAt K vs H Q
theorem ok_at(F:Fun K "_law_at" "_law_at" LK f fd)(T:Top K mg a):AT P w K mg base CX0 1 f fd Uc (TJ K):=by
 refine F.ok Rx D_9 λj A g s H vs Q E o h=>?_
 obtain⟨l,c,k,rfl,i,m,q⟩:=h;refine⟨_,(Ae (AS (AF Lb (pv 1) (AU BK Z T.b_len Z2 (Aa (pv 0) Ab)) (AI _)) (Af (Ax (Ah Au (pv 0) (pv 1) R_9))) AD) (Af (Ax Ac))),?_⟩
 try dsimp only[cxK]
 refine xw2 Z Z ⟨l,(xq1 Z ⟨.inl i,(xq2 Z Z (xq1 Z ?_))⟩)⟩;obtain⟨n,rfl⟩:=M7 m;refine FG (λd=>?_) (λd=>?_)
 .have b:n<c.length:=by
   have:=Z0 d;rw[B8]at this;omega
  refine xw2 Z Z ⟨l,_,n,.int c[n],Z,Z,i,Am (by rw[C7,F0 b];rfl),?_⟩;have e:atN c (n:Int)=c[n]:=by
   unfold atN;rw[N3,L8,F0 b];rfl
  rw[e]at q;exact q
 .have b:c.length<=n:=by
   have:¬(n:Int)<((c.map V.int).length:Int):=λz=>d (W1 z);rw[B8]at this;omega
  have e:atN c (n:Int)=0:=by
   unfold atN;rw[N3,L8,N7 b];rfl
  rw[e]at q;exact q
end
theorem Jc{d:Int}(a:0<=d)(b:d<=9):d.natAbs.log2<1920:=by
 obtain⟨m,rfl⟩:=M7 a;exact(show ∀m:Nat,m<10->(m:Int).natAbs.log2<1920 by decide +kernel) m (by omega)
theorem ML{n:Nat}(h:n<=100000):n<=sizeLine:=D4 h A3
noncomputable abbrev UU:Str:=Str.ofString "01234567*"
theorem star_at:∀m:Nat,m<9->UU.cps.toList[m]?=some (if m=8 then 42 else 48+m):=by decide +kernel
inductive SpLaw(K:O_)(vs:List V)(H:Hp)(Q:VK):Prop
|mk (a:R_) (ns:I_) (_:vs=[.ref a]) (_:SqL K H a (ns.map V.int)) (_:ns.length<=63) (_:∀H',Q (.bl true) H'):SpLaw K vs H Q
def Sn(K:O_):Sp:=λvs H Q _=>SpLaw K vs H Q
noncomputable def FH(n:Int)(k:Nat):Bool:=decide (V.int (Builtin.bitAnd (n/2^k) 1)=V.int 1)
noncomputable def CG(n:Int):List Int:=((List.range 9).filter (FH n)).map λ(k:Nat)=>(k:Int)
theorem nums_ne:∀m:Nat,m<511->CG ((m:Int)+1)≠[]:=by decide +kernel
theorem QH(n:Int):(CG n).Pairwise (· < ·):=by
 unfold CG;rw[List.pairwise_map];have:((List.range 9).filter (FH n)).Pairwise (· < ·):=List.pairwise_lt_range.sublist List.filter_sublist;exact this.imp λh=>by omega
theorem SK(n:Int):∀m∈CG n,0<=m/\m<=8:=λm b=>by
 obtain⟨k,a,rfl⟩:=D7.mp b;have:=J8.mp (Q9.mp a).1;omega
structure LC4 where
tk:Int
ams:List (Int×Int)
wis:List (Int×Int)
ms:Int
structure LC4.Ok(c:LC4):Prop where
tk:0<=c.tk/\c.tk<=8
ams:∀p∈c.ams,DC p.1/\1<=p.2/\p.2<=511
few:c.ams.length<=2
wis:∀p∈c.wis,(0<=p.1/\p.1<8)/\DC p.2
asc:c.wis.Pairwise λp q=>p.1<q.1
ms:DC c.ms
noncomputable def Da(wis:List (Int×Int)):List (Option Int):=(List.range 8).map λ(k:Nat)=>(wis.find? λp=>decide (p.1=(k:Int))).map (·.2)
noncomputable def LC4.a(c:LC4):Bc:=⟨if c.tk=8 then none else some c.tk,c.ams.map (λp=>.am p.1 (CG p.2))++(if c.wis=[]then []else [.pl (Da c.wis)]),c.ms⟩
theorem LC(a:List (Int×Int)):(Da a).length=8:=by
 unfold Da;rw[B8,M0]
theorem nums_ne'{m:Int}(a:1<=m)(b:m<=511):CG m≠[]:=by
 have:=nums_ne (m.toNat-1) A1;rw[show(((m.toNat-1:Nat):Int)+1)=m by lia]at this;exact this
theorem LC4.Ok.a{c:LC4}(h:c.Ok):c.a.ok:=by
 refine⟨?_,h.ms,?_,?_⟩
 .unfold LC4.a;dsimp only;have:=h.tk;split
  .trivial
  .exact⟨by lia,by lia⟩
 .unfold LC4.a;dsimp only;have:=h.few;rw[C6,B8];split
  .rw[R0];lia
  .rw[N6];lia
 .intro d b;unfold LC4.a at b;dsimp only at b;rcases D3.mp b with z|z
  .obtain⟨p,l,rfl⟩:=D7.mp z;obtain⟨g,i,j⟩:=h.ams p l;exact⟨g,nums_ne' i j,SK _,QH _⟩
  .split at z
   .cases z
   .rw[C8.mp z];refine⟨LC _,λw f=>?_⟩;unfold Da at f;obtain⟨k,_,rfl⟩:=D7.mp f;cases e:c.wis.find? λp=>decide (p.1=(k:Int))with
    |none=>trivial
    |some p=>exact(h.wis p (Q6 e)).2
def Os(H:Hp)(t:R_)(p:Int×Int):Prop:=H t=some (.tup [.int p.1,.int p.2])
inductive FK(H:Hp)(q:R_)(c:LC4):Prop
|mk (la lw:R_) (tas tws:H_) (_:H q=some (.tup [.int c.tk,.ref la,.ref lw,.int c.ms])) (_:H la=some (.lst (tas.map V.ref))) (_:Paired (Os H) tas c.ams) (_:H lw=some (.lst (tws.map V.ref))) (_:Paired (Os H) tws c.wis)
theorem FK.same{H d:Hp}{q:R_}{c:LC4}(s:Az H d)(h:FK H q c):FK d q c:=by
 obtain⟨l,m,a,b,f,g,i,j,k⟩:=h;exact⟨l,m,a,b,s _ _ f,s _ _ g,Paired.imp (λt p e=>s _ _ e) i,s _ _ j,Paired.imp (λt p e=>s _ _ e) k⟩
inductive EO(H:Hp)(q:R_)(r:List LC4):Prop
|mk (ts:H_) (_:H q=some (.lst (ts.map V.ref))) (_:Paired (FK H) ts r)
theorem EO.same{H a:Hp}{q:R_}{r:List LC4}(s:Az H a)(h:EO H q r):EO a q r:=by
 obtain⟨f,b,d⟩:=h;exact⟨f,s _ _ b,Paired.imp (λt c e=>e.same s) d⟩
structure Lz(r:List LC4):Prop where
few:r.length<=10
ok:∀c∈r,c.Ok
section
variable{P:N_}{w:Q_}{K:O_}{mg:C_}{base:T_}{a:Ad}
inductive Wq(vs:List V)(H:Hp)(Q:VK):Prop
|mk (c k:Int) (_:vs=[.int c,.int k]) (_:0<=k) (_:k<=1000) (_:∀i:Int,0<=i->Q (.int i) H):Wq vs H Q
def Pa:Sp:=λvs H Q _=>Wq vs H Q
theorem ok_stir(F:Fun K "_law_stir" "_law_stir" IB f fd)(T:Top K mg a):AT P w K mg base CX0 1 f fd FU Pa:=by
 refine F.ok GN D_9 λl A d s H vs Q E q h=>?_
 obtain⟨c,b,rfl,r,t,k⟩:=h;refine⟨_,(Ae (Av (i:=2) GN.nd Z O_9 (AG AZ (AG Be (AG Be (AG AZ (pv 0) Ac) (AG Py Ac (pv 1))) Ac) Ac)) (Ae (Av (i:=2) GN.nd Z O_9 (AG AZ (AG Py (pv 2) (pv 2)) Ac)) (Af (Ax (AG Dp (AG AZ (AG Be (AG Py (pv 2) Ac) (pv 1)) Ac) Ac))))),?_⟩
 try dsimp only[cxK]
 refine xwb Z Z Z ⟨(by show(0:Int)<2147483629;decide),(xwb Z Z Z ⟨.inl ⟨by decide,by decide⟩,(xq2 Z Z (xq2 Z Z (xq2 Z Z ⟨(by show(0:Int)<2147483629;decide),?_⟩)))⟩)⟩;have o:=N2 (c%2147483629+7919*b+11) (show(2147483629:Int)≠0 by decide);have p:=M8 (c%2147483629+7919*b+11) (show(0:Int)<2147483629 by decide);obtain⟨v,g⟩:∃v,(c%2147483629+7919*b+11)%2147483629=v:=⟨_,Z⟩
 rw[g]at o p;rw[show(λ(i j:Int)=>V.int (i%j)) (c%2147483629+7919*b+11) 2147483629=V.int v from Y7 V.int g];refine xw2 Z Z (xq2 Z Z ⟨.inl ⟨by lia,by lia⟩,(xq2 Z Z ⟨(by show(0:Int)<2147483587;decide),?_⟩)⟩);have m:=N2 (v*v) (show(2147483587:Int)≠0 by decide);have n:=M8 (v*v) (show(0:Int)<2147483587 by decide);obtain⟨u,e⟩:∃u,v*v%2147483587=u:=⟨_,Z⟩
 rw[e]at m n;rw[show(λ(i j:Int)=>V.int (i%j)) (v*v) 2147483587=V.int u from Y7 V.int e];refine xwb Z Z Z ⟨.inl ⟨by lia,by lia⟩,(xwb Z Z Z (xq2 Z Z ⟨(by show(0:Int)<2147483563;decide),(xq2 Z Z ⟨⟨by decide,by decide⟩,k _ ?_⟩)⟩))⟩;have:=N2 (u*48271+b) (show(2147483563:Int)≠0 by decide);show 0<=(u*48271+b)%2147483563/13;lia
inductive Ro(H:Hp)(q:R_):Prop
|mk (x y z u:Int) (_:H q=some (.lst [.int x,.int y,.int z,.int u])) (_:DC x/\DC y/\DC z/\DC u)
theorem Ro.same{H b:Hp}{q:R_}(s:Az H b)(h:Ro H q):Ro b q:=by
 obtain⟨x,y,z,u,c,d⟩:=h;exact⟨x,y,z,u,s _ _ c,d⟩
theorem Ro.get{H:Hp}{q:R_}(h:Ro H q):∃xs:List V,H q=some (.lst xs)/\∀i:Int,0<=i->∃d:Int,DC d/\atI xs (i%4)=some (.int d):=by
 obtain⟨x,y,z,u,b,c,f,g,k⟩:=h;refine⟨_,b,λi m=>?_⟩;have e:i%4=((i%4).toNat:Int):=by lia
 have l:(i%4).toNat<4:=by lia
 rw[e];generalize (i%4).toNat=j at l
 match j,l with
 |0,_=>exact⟨x,c,Am Z⟩
 |1,_=>exact⟨y,f,Am Z⟩
 |2,_=>exact⟨z,g,Am Z⟩
 |3,_=>exact⟨u,k,Am Z⟩
end
theorem Az.noneN{H a:Hp}(s:Az H a){x:R_}(n:a x=none):H x=none:=by
 cases e:H x with
 |none=>rfl
 |some o=>rw[s _ _ e]at n;cases n
theorem Li{T:St->Hp->Prop}{C:Prop}(P:St->Hp->Prop)(h:(∀σ H,P σ H->T σ H)->C)(k:∀σ H,P σ H->T σ H):C:=h k
section
variable{P:N_}{w:Q_}{K:O_}{mg:C_}{base:T_}{a:Ad}
inductive SpCb4(vs:List V)(H:Hp)(Q:VK):Prop
|mk (c:Int) (fw:R_) (_:vs=[.int c,.ref fw]) (_:Ro H fw) (_:∀(q:R_)(d:LC4)(H':Hp),Az H H'->FK H' q d->d.Ok->Q (.ref q) H'):SpCb4 vs H Q
def Ve:Sp:=λvs H Q _=>SpCb4 vs H Q
theorem ok_cb4(F:Fun K "_law_clause_by" "_law_clause_by" Eb f fd)(T:Top K mg a)(aJ:Cal P w K mg base CX0 1 "_law_stir" FU Pa):AT P w K mg base CX0 2 f fd Ej Ve:=by
 refine F.ok BH D_9 λas A an s H vs Q E hr h=>?_
 obtain⟨c,fw,rfl,hf,k⟩:=h;refine⟨_,(Ae (Av (i:=2) BH.nd Z O_9 Ac) (Ae (AS (AF Oy (AG AZ (AB aJ (rm hr) Z Ao (Aa (pv 0) (AJ Ab))) Ac) Ac (AI _)) (Af (Av (i:=2) BH.nd Z O_9 (Ah Au (pv 1) (AG AZ (AB aJ (rm hr) Z Ao (Aa (pv 0) (AJ Ab))) Ac) R_9))) AD) (Ae (Av (i:=3) BH.nd Z O_9 (Bq Ab)) (Ae (BQ Y5 Z (Ce Z T.b_range (BI AZ (AB aJ (rm hr) Z Ao (Aa (pv 0) (AJ Ab))) Ac Ab)) (AN (i:=4) BH.nd Z O_9) (Af (Ba (Cf W5 W6 W7 Bd (pv 3) (BC (Aa (Ah Au (pv 1) (AG AZ (AB aJ (rm hr) Z Ao (Aa (pv 0) (BI Be Ac (pv 4) Ab))) Ac) R_9) (BI Be Ac (AG AZ (AB aJ (rm hr) Z Ao (Aa (pv 0) (BI Be Ac (pv 4) Ab))) Ac) Ab)) Ab))))) (Ae (Av (i:=5) BH.nd Z O_9 (Bq Ab)) (Ae (BQ Y5 Z (Ce Z T.b_range (AJ Ab)) (AN (i:=6) BH.nd Z O_9) (Af (AS (AF Ci (AG AZ (AB aJ (rm hr) Z Ao (Aa (pv 0) (BI Be Ac (pv 6) Ab))) Ac) Ac (AI _)) (Af (Ba (Cf W5 W6 W7 Bd (pv 5) (BC (Aa (pv 6) (Aa (Ah Au (pv 1) (AG AZ (AB aJ (rm hr) Z Ao (Aa (pv 0) (BI Be Ac (pv 6) Ab))) Ac) R_9) Ab)) Ab)))) AD))) (Af (Ax (CD (Aa (pv 2) (Aa (pv 3) (Aa (pv 5) (Aa (Ah Au (pv 1) (AG AZ (AB aJ (rm hr) Z Ao (Aa (pv 0) (AJ Ab))) Ac) R_9) Ab))))))))))))),?_⟩
 try dsimp only[cxK]
 refine lts ?_;intro au ar;obtain⟨xs,hx,D⟩:=hf.get;apply Li (fun σ H'=>H=H'/\∃tk:Int,(0<=tk/\tk<=8)/\σ=[some (.int c),some (.ref fw),some (.int tk),none,none,none,none])
 .intro ab;refine xq1 Z ⟨_,_,Z,by decide,by decide,λi hi=>?_⟩;refine xq2 Z Z ⟨B1,(xq2 Z Z (xq1 Z ?_))⟩;refine(λ(h1:_) h2=>FG h2 h1) (λ_=>ab _ _ ⟨Z,8,by decide,Z⟩) (λ_=>?_);refine xw2 Z Z ⟨_,_,Z,by decide,by decide,λj hj=>?_⟩;obtain⟨d,v,ed⟩:=D j hj;refine xq2 Z Z ⟨B1,fw,xs,(xq2 Z Z ⟨SqL.of hx,ed,ab _ _ ⟨Z,d,⟨v.1,by have:=v.2;lia⟩,Z⟩⟩)⟩
 rintro σ H' ⟨rfl,tk,aq,rfl⟩;refine⟨S_0,λO af=>?_⟩;generalize b9:upd H O _=H1;obtain⟨s1,ad⟩:=alc af b9;refine xq1 Z ⟨_,_,Z,by decide,by decide,λi hi=>?_⟩;obtain⟨m,hm⟩:∃m:Nat,i%3=(m:Int):=⟨(i%3).toNat,by lia⟩
 have m3:m<3:=by lia
 refine xq2 Z Z ⟨(by show(0:Int)<3;decide),(m:Int),Y7 (λz=>[V.int z]) hm,by lia,by lia,?_⟩;rw[N3];refine CM (n:=m) (λj σ S=>∃(g:H_)(l:List (Int×Int))(u4:Option V),σ=[some (.int c),some (.ref fw),some (.int tk),some (.ref O),u4,none,none]/\Az H S/\S O=some (.lst (g.map V.ref))/\Paired (Os S) g l/\l.length=j/\∀p∈l,DC p.1/\1<=p.2/\p.2<=511) ⟨[],[],none,Z,s1,ad,.nil,Z,λp B=>(nomatch B)⟩ ?_ ?_
 .rintro j σ S hj ⟨g,l,u4,rfl,G,y,pr,lc,ac⟩;refine ltg ?_;intro av;have lts:=Y4 pr;refine xq1 Z ⟨.inl ⟨Z,_,SqL.of y⟩,(xw3 Z Z Z (xq2 Z Z ⟨_,_,Z,by show 0<=3+(0+(j:Int));lia,by show 3+(0+(j:Int))<=1000;lia,λi1 ai=>?_⟩))⟩;obtain⟨d,v,ed⟩:=D i1 ai;refine xq2 Z Z ⟨B1,fw,xs,(xq2 Z Z ⟨SqL.of (G _ _ hx),ed,?_⟩)⟩;refine xw2 Z Z (xq2 Z Z ⟨_,_,Z,by show 0<=6+(0+(j:Int));lia,by show 6+(0+(j:Int))<=1000;lia,λR aj=>?_⟩);refine xq2 Z Z ⟨(by show(0:Int)<511;decide),(xq2 Z Z ⟨S_2,λt ht=>?_⟩)⟩;have x:=Al (o:=.tup [.int d,.int (1+R%511)]) ht;have M:Os (upd S t (.tup [.int d,.int (1+R%511)])) t (d,1+R%511):=Ag;show ∃_,_;generalize upd S t (.tup [.int d,.int (1+R%511)])=H6 at x M⊢;have ae:=x _ _ y;refine⟨O,(xq2 Z Z ⟨ae,by rw[B8];exact F3 (show g.length<=100 by lia) A3,?_⟩)⟩;have tp:∀{b:R_}{ys:List V},H6 b=some (.tup ys)->upd H6 O (.lst (g.map V.ref++[.ref t])) b=some (.tup ys):=λ{b ys} e=>by rw[Ar (Aq e ae A2)];exact e
  refine⟨g++[t],l++[(d,1+R%511)],(xq1 Z ⟨λb o e=>?_,by rw[Ag,C0];rfl,Z5 (Paired.imp (λb c z=>tp (x _ _ z)) pr) (show Os _ t (d,1+R%511)from tp M),by rw[C6,lc];rfl,λp B=>?_⟩)⟩
  .rw[Ar (Aj e af)];exact x _ _ (G _ _ e)
  .rcases D3.mp B with z|z
   .exact ac p z
   .rw[C8.mp z];exact⟨v,by show 1<=1+R%511;lia,by show 1+R%511<=511;lia⟩
 rintro σ S ⟨g,l,u4,rfl,G,y,pr,lc,ac⟩;refine⟨S_0,λI Y=>?_⟩;have s4:=Al (o:=.lst []) Y;have ag:upd S I (.lst []) I=some (.lst []):=Ag;have nW:H I=none:=Az.noneN G Y;generalize upd S I (.lst [])=H4 at s4 ag⊢;have ak:=s4 _ _ y;have ao:Paired (Os H4) g l:=Paired.imp (λb c z=>s4 _ _ z) pr;have ap:=G.trans s4;have am:O≠I:=λz=>by rw[z]at y;rw[y]at Y;cases Y
 clear y pr G s4 ad s1;refine⟨8,Z,by decide,by decide,?_⟩;refine CM (n:=8) (λj σ U=>∃(r:H_)(u:List (Int×Int))(u6:Option V),σ=[some (.int c),some (.ref fw),some (.int tk),some (.ref O),u4,some (.ref I),u6]/\Az H U/\U O=some (.lst (g.map V.ref))/\Paired (Os U) g l/\U I=some (.lst (r.map V.ref))/\Paired (Os U) r u/\u.length<=j/\(∀p∈u,(0<=p.1/\p.1<(j:Int))/\DC p.2)/\u.Pairwise λp q=>p.1<q.1) ⟨[],[],none,Z,ap,ak,ao,ag,.nil,C9 _,λp B=>(nomatch B),.nil⟩ ?_ ?_
 .rintro j σ U hj ⟨r,u,u6,rfl,G,X,aa,L,N,lw,C,W⟩;refine ltg ?_;intro aw;have lts:=Y4 N;refine xw2 Z Z (xq2 Z Z ⟨_,_,Z,by show 0<=9+(0+(j:Int));lia,by show 9+(0+(j:Int))<=1000;lia,λi1 ai=>?_⟩);refine xq2 Z Z ⟨(by show(0:Int)<9;decide),Z,(xq1 Z (FG (λ_=>?_) (λ_=>?_)))⟩
  .refine xq1 Z ⟨.inl ⟨Z,_,SqL.of L⟩,(xw3 Z Z Z (xwb Z Z Z ⟨_,_,Z,by show 0<=20+(0+(j:Int));lia,by show 20+(0+(j:Int))<=1000;lia,λR aj=>?_⟩))⟩;obtain⟨d,v,ed⟩:=D R aj;refine xq2 Z Z ⟨B1,fw,xs,(xq2 Z Z ⟨SqL.of (G _ _ hx),ed,S_2,λt ht=>?_⟩)⟩;have x:=Al (o:=.tup [.int (0+(j:Int)),.int d]) ht;have M:Os (upd U t (.tup [.int (0+(j:Int)),.int d])) t (0+(j:Int),d):=Ag;show ∃_,_;generalize upd U t (.tup [.int (0+(j:Int)),.int d])=H6 at x M⊢;have ah:=x _ _ L;refine⟨I,(xq2 Z Z ⟨ah,by rw[B8];exact F3 (show r.length<=100 by lia) A3,?_⟩)⟩;have tp:∀{b:R_}{ys:List V},H6 b=some (.tup ys)->upd H6 I (.lst (r.map V.ref++[.ref t])) b=some (.tup ys):=λ{b ys} e=>by rw[Ar (Aq e ah A2)];exact e
   refine⟨r++[t],u++[(0+(j:Int),d)],(xq1 Z ⟨λb o e=>?_,by rw[Ar am];exact x _ _ X,Paired.imp (λb c z=>tp (x _ _ z)) aa,by rw[Ag,C0];rfl,Z5 (Paired.imp (λb c z=>tp (x _ _ z)) N) (show Os _ t (0+(j:Int),d)from tp M),by rw[C6,N6];lia,λp B=>?_,?_⟩)⟩
   .rw[Ar (Aj e nW)];exact x _ _ (G _ _ e)
   .rcases D3.mp B with z|z
    .have:=C p z;exact⟨⟨by lia,by lia⟩,this.2⟩
    .rw[C8.mp z];exact⟨⟨by show 0<=0+(j:Int);lia,by show 0+(j:Int)<_;lia⟩,v⟩
   .rw[List.pairwise_append];refine⟨W,List.pairwise_singleton _ _,λp B q hq=>?_⟩;rw[C8.mp hq];have:=C p B;show p.1<0+(j:Int)
    lia
  .exact⟨r,u,(xq1 Z ⟨G,X,aa,L,N,by lia,λp B=>⟨⟨(C p B).1.1,by have:=(C p B).1.2;lia⟩,(C p B).2⟩,W⟩)⟩
 rintro σ U ⟨r,u,u6,rfl,G,X,aa,L,N,lw,C,W⟩;refine xw3 Z Z Z (xw2 Z Z ⟨_,_,Z,by decide,by decide,λi3 al=>?_⟩);obtain⟨d,v,ed⟩:=D i3 al;refine xq2 Z Z ⟨B1,fw,xs,(xq2 Z Z ⟨SqL.of (G _ _ hx),ed,S_4,λq hq=>?_⟩)⟩;have x:=Al (o:=.tup [.int tk,.ref O,.ref I,.int d]) hq;exact k q ⟨tk,l,u,d⟩ _ (G.trans x) ⟨O,I,g,r,Ag,x _ _ X,Paired.imp (λb c z=>x _ _ z) aa,x _ _ L,Paired.imp (λb c z=>x _ _ z) N⟩ ⟨aq,ac,by show l.length<=2;lia,λp B=>C p B,W,v⟩
end
end J
namespace J
open PySem L2
theorem bit_and:∀m:Nat,m<512->Builtin.bitAnd (m:Int) 1=((m%2:Nat):Int):=by decide +kernel
theorem VD(m:Int){k:Nat}(c:k<=8):((CG m).any λn=>decide (n=(k:Int)))=FH m k:=by
 unfold CG;rw[List.any_map];cases e:FH m k with
 |true =>
  rw[T1];exact⟨k,Q9.mpr ⟨J8.mpr A1,e⟩,by simp⟩
 |false =>
  rw[List.any_eq_false];intro j a z;have:=Z0 z;have b:j=k:=by
   have:(j:Int)=(k:Int):=this;lia
  rw[b]at a;rw[(Q9.mp a).2]at e;cases e
noncomputable def Lr(ar:I_)(s:Int):Nat:=ar.countP (· == s)
noncomputable def Rj(ar:I_)(p:Int×Int):Bool:=FH p.2 (Lr ar p.1)
noncomputable def Rp(ar:I_)(p:Int×Int):Bool:=decide (ar[p.1.toNat]?=some p.2)
theorem ws_all {a:List (Int×Int)} {h:I_} (H:h.length=8) (E:∀p∈a,(0<=p.1/\p.1<8)/\DC p.2) (o:a.Pairwise λp q=>p.1<q.1):(((Da a).zip h).all λp=>Cc p.1 p.2)=a.all (Rp h):=by
 have D:∀k:Nat,k<8->∃x,h[k]?=some x:=λk b=>⟨_,F0 A1⟩
 have v:∀k:Nat,k<8->(Da a)[k]?=some ((a.find? λp=>decide (p.1=(k:Int))).map (·.2)):=λk b=>by
  unfold Da;rw[C7,O4 b];rfl
 cases e:a.all (Rp h)with
 |true =>
  rw[P2]at e;rw[P2];intro q t;obtain⟨k,b⟩:=F6 t;rw[S3]at b;have n:k<8:=by
   have:=(B9.mp b.2).1;lia
  rw[v k n]at b;cases d:a.find? λp=>decide (p.1=(k:Int))with
  |none =>
   rw[d]at b;have:=Y8 b.1;unfold Cc;rw[<-this];rfl
  |some p =>
   rw[d]at b;have w:some p.2=q.1:=Y8 b.1;have c:=e p (Q6 d);have s:p.1=(k:Int):=by
    have:=List.find?_some d;exact Z0 this
   have A:h[p.1.toNat]?=some p.2:=Z0 c;rw[s,N3,b.2]at A;unfold Cc;rw[<-w];exact W1 (Y8 A).symm
 |false =>
  rw[S5]at e;obtain⟨p,c,G⟩:=e;rw[S5];have I:=(E p c).1;have n:p.1.toNat<8:=by lia
  obtain⟨x,j⟩:=D _ n;have C:(a.find? λq=>decide (q.1=((p.1.toNat:Nat):Int)))=some p:=by
   cases d:a.find? λq=>decide (q.1=((p.1.toNat:Nat):Int))with
   |none =>
    have:=P3.mp d p c;exact absurd (W1 (show p.1=((p.1.toNat:Nat):Int) by lia)) this
   |some q =>
    have w:q.1=((p.1.toNat:Nat):Int):=by
     have:=List.find?_some d;exact Z0 this
    have t:=Q6 d;have s:q.1=p.1:=by lia
    have one:∀{l:List (Int×Int)},l.Pairwise (λp q=>p.1<q.1)->∀{x y:Int×Int},x∈l->y∈l->x.1=y.1->x=y:=λ{l}=>by
     induction l with
     |nil =>
      intro _ x y j;cases j
     |cons z l F =>
      intro c x y j B f;rw[V1]at c;rcases D1.mp j with u|m
      .rcases D1.mp B with r|g
       .rw[u,r]
       .have:=c.1 _ g;rw[u]at f;lia
      .rcases D1.mp B with r|g
       .have:=c.1 _ m;rw[r]at f;lia
       .exact F c.2 m g f
    rw[one o t c s]
  refine⟨(some p.2,x),D6 (i:=p.1.toNat) ?_,?_⟩
  .rw[S3];refine⟨?_,j⟩;rw[v _ n,C];rfl
  .intro z;have z:p.2=x:=Z0 z;exact G (W1 (by rw[j,z]))
theorem fits4{c:LC4}(ok:c.Ok){b:I_}(d:b.length=8)(cell:Int):c.a.fits cell b=((decide (c.tk=8) || decide (c.tk=cell)) && (c.ams.all (Rj b) && c.wis.all (Rp b))):=by
 unfold Bc.fits LC4.a;dsimp only;congr 1
 .unfold Cc;by_cases z:c.tk=8
  .rw[W9 z,W1 z];rfl
  .rw[W4 z,W3 z];rfl
 .rw[List.all_append,V8];congr 1
  .refine List.all_congr Z λp=>?_;show((CG p.2).any λn=>decide (n=((b.countP (· == p.1):Nat):Int)))=FH p.2 (Lr b p.1);have:b.countP (· == p.1)<=8:=by
    rw[<-d];exact List.countP_le_length
   exact VD _ this
  .by_cases z:c.wis=[]
   .rw[W9 z,z];rfl
   .rw[W4 z];show(BE.holds b (.pl (Da c.wis)) && true)=_;rw[Bool.and_true];exact ws_all d ok.wis ok.asc
seal L2.PA L2.PE L2.PS L2.PSs L2.PT L2.PW
theorem pow_cJ(l:Nat):((2^l:Nat):Int)=(2:Int)^l:=O7 2 l
section
variable{P:N_}{w:Q_}{K:O_}{mg:C_}{base:T_}{a:Ad}
inductive SpFi4(vs:List V)(H:Hp)(Q:VK):Prop
|mk (q m:R_) (c:LC4) (cell:Int) (ar:I_) (_:vs=[.ref q,.int cell,.ref m]) (_:FK H q c) (_:c.Ok) (_:H m=some (.lst (ar.map V.int))) (_:ar.length=8) (_:∀H',Az H H'->Q (.bl (c.a.fits cell ar)) H'):SpFi4 vs H Q
def Vb:Sp:=λvs H Q _=>SpFi4 vs H Q
theorem ok_fi4(F:Fun K "_law_fits" "_law_fits" FR f fd)(T:Top K mg a):AT P w K mg base CX0 1 f fd IJ Vb:=by
 refine F.ok Db D_9 λah A ad s H vs Q E hr h=>?_
 obtain⟨q,m,c,cell,b,rfl,hq,ok,hm,h8,k⟩:=h;refine⟨_,(Ae (AS (PW.pt (Pp (AF Iu (Ah Ap (pv 0) Ac R_9) Ac (AI _)) (Po (AF Iu (Ah Ap (pv 0) Ac R_9) (pv 1) (AI _))))) (Af (Ax Df)) AD) (Ae (BQ Y5 Z (Bu (Ah Ap (pv 0) Ac R_9)) (EJ Z (AX (AN (i:=3) Db.nd Z (Or.inr Z)) (AX (AN (i:=4) Db.nd Z O_9) Dm))) (Ae (Av (i:=5) Db.nd Z O_9 (AU BK Z T.b_len Z2 (Aa (BZ Z (Bn.of (So:=Ai FR) (No:=Mq) (N:=["_law_one","_law_state"]) (k:=1) (cs:=[3]) Z Z A0) (Bu (pv 2)) (λ_ _ _=>(AY (i:=0) A0 Z Z)) (λ_ _ _=>(SI (AF Ci (pv 0) (pv 1) (AI _)))) (λ_ _ _=>(pv 0))) Ab))) (Af (AS (AF Ci (AG Vv (AG Vr (pv 4) (pv 5)) Ac) Ac (AI _)) (Af (Ax Df)) AD)))) (Ae (BQ Y5 Z (Bu (Ah Ap (pv 0) Ac R_9)) (EJ Z (AX (AN (i:=6) Db.nd Z O_9) (AX (AN (i:=3) Db.nd Z (Or.inr Z)) Dm))) (Af (AS (AF Iu (Ah Au (pv 2) (pv 6) R_9) (pv 3) (AI _)) (Af (Ax Df)) AD))) (Af (Ax Df))))),?_⟩
 try dsimp only[cxK]
 obtain⟨la,lw,ae,ag,r,h2,h3,h4,h5⟩:=hq;rw[fits4 ok h8]at k;have I:∀x y:Int,decide (V.int x=V.int y)=decide (x=y):=Jg;apply Li (fun σ H'=>H=H'/\σ=[some (.ref q),some (.int cell),some (.ref m),none,none,none,none]/\(decide (c.tk=8) || decide (c.tk=cell))=true)
 .intro u;refine xwi Z Z Z (SqT.of r) (Am (j:=0) Z) ⟨Z,(xq1 Z ?_)⟩;rw[I];by_cases z:c.tk=8
  .rw[W1 z];exact Bl (Bl (u _ _ ⟨Z,Z,by rw[W1 z];rfl⟩))
  .rw[W3 z];refine CT (xwi Z Z Z (SqT.of r) (Am (j:=0) Z) (xq1 Z ⟨Z,(xq1 Z ?_)⟩));rw[I];by_cases y:c.tk=cell
   .rw[W1 y];exact Bl (u _ _ ⟨Z,Z,by rw[W1 y,Bool.or_true]⟩)
   .rw[W3 y];refine CT ?_;have:=k H (Az.refl H);rw[W3 z,W3 y]at this;exact this
 rintro σ H' ⟨rfl,rfl,tt⟩;rw[tt,Bool.true_and]at k;have ab:=Y4 h3;have ac:=Y4 h5;refine xwi Z Z Z (SqT.of r) (Am (j:=1) Z) ⟨la,Z,⟨_,SqL.of h2⟩,?_⟩;refine CZ (xs:=ae.map V.ref) (λj σ G=>∃B C D:Option V,σ=[some (.ref q),some (.int cell),some (.ref m),B,C,D,none]/\Az H G/\(c.ams.take j).all (Rj b)=true) ⟨none,none,none,Z,Az.refl H,Z⟩ (λj σ G _ z=>by obtain⟨_,_,_,_,d,_⟩:=z;exact SqL.of (d _ _ h2)) ?_ ?_
 .rintro j v σ G O ⟨B,C,D,rfl,d,o⟩;rw[C7]at O;obtain⟨t,et,rfl⟩:=D5.mp O;obtain⟨p,M,hp⟩:=Paired.get h3 et;have mp:=D6 M;obtain⟨sp,m1,m2⟩:=ok.ams p mp;refine Lk (d _ _ hp) ?_;have R:=d _ _ hm;refine xq1 Z ⟨m,Z,⟨_,SqL.of R⟩,?_⟩;refine Ck (xs:=b.map V.int) (λi l g=>Az G g/\l=((b.take i).filter (· == p.1)).map V.int) ⟨Az.refl G,Z⟩ (λi l g _ z=>SqL.of (z.1 _ _ R)) ?_ ?_
  .rintro i x l g S ⟨X,rfl⟩;rw[C7]at S;obtain⟨n,en,rfl⟩:=D5.mp S;refine⟨⟨[some (.int n)],Z,Z⟩,?_,?_⟩
   .rw[B8];refine F3 (List.length_filter_le _ _) ?_;rw[M6];exact F3 (show min i b.length<=8 by lia) A3
   .refine xw2 Z Z ⟨Z,(xq1 Z ?_)⟩;rw[I];have step:(b.take (i+1)).filter (· == p.1)=(b.take i).filter (· == p.1)++if n=p.1 then [n]else []:=by
     rw[F9,en,L6,List.filter_append];congr 1;by_cases z:n=p.1
     .rw[W9 z,List.filter_cons,W9 (by rw[z];simp),List.filter_nil]
     .rw[W4 z,List.filter_cons,W4 (by simpa using z),List.filter_nil]
    by_cases z:n=p.1
    .rw[W1 z];refine CT (xq1 Z ⟨X,?_⟩);rw[step,W9 z,C0];rfl
    .rw[W3 z];refine Bl ⟨X,?_⟩;rw[step,W4 z,P4]
  .rintro l g ⟨X,rfl⟩ L hL;rw[B8,J7];generalize cP:upd g L _=H4;obtain⟨s4,aa⟩:=alc hL cP;refine⟨L,(xq1 Z ⟨.inl (SqL.of aa),?_⟩)⟩;have ec:(((b.filter (· == p.1)).map V.int).length:Int)=((Lr b p.1:Nat):Int):=by
    rw[B8];unfold Lr;rw[List.countP_eq_length_filter]
   rw[ec];have c8:Lr b p.1<=8:=by
    unfold Lr;rw[<-h8];exact List.countP_le_length
   have U:=(d.trans X).trans s4;obtain⟨v,hv⟩:∃v:Nat,p.2/2^(((Lr b p.1:Nat):Int)).toNat=(v:Int):=⟨(p.2/2^(((Lr b p.1:Nat):Int)).toNat).toNat,by
    have:0<=p.2/2^(((Lr b p.1:Nat):Int)).toNat:=Int.ediv_nonneg A1 (by rw[<-pow_cJ];lia);lia⟩
   have v5:v<512:=by
    have:p.2/2^(((Lr b p.1:Nat):Int)).toNat<=p.2:=Int.ediv_le_self _ A1;lia
   have hb:=bit_and v v5;refine xw2 Z Z (xq2 Z Z ⟨(by show(0:Int)<=((Lr b p.1:Nat):Int);lia),(xq2 Z Z ⟨Z,(xq1 Z ?_)⟩)⟩);have am:Rj b p=decide (v%2=1):=by
    unfold Rj FH;rw[show p.2/2^Lr b p.1=(v:Int)from hv,hb,I];by_cases z:v%2=1
    .rw[W1 z,W1 (by rw[z];rfl)]
    .rw[W3 z,W3 A1]
   have af:decide (V.int (Builtin.bitAnd (p.2/2^(((Lr b p.1:Nat):Int)).toNat) 1)=V.int 0)=!(Rj b p):=by
    rw[am,hv,hb,I];by_cases z:v%2=1
    .rw[W1 z,W3 A1];rfl
    .rw[W3 z,W1 A1];rfl
   have e:decide ((λ(i j:Int)=>V.int (Builtin.bitAnd i j)) ((λ(i j:Int)=>i/2^j.toNat) p.2 ((Lr b p.1:Nat):Int)) 1=V.int 0)=!(Rj b p):=af;cases W:Rj b p with
   |false =>
    rw[W]at e;refine(λ(r:_)=>FG (λ_=>r) (λz=>absurd e z)) ?_;have Y:c.ams.all (Rj b)=false:=S5.mpr ⟨p,mp,by rw[W];decide⟩;rw[Y,Bool.false_and]at k;exact k _ U
   |true =>
    rw[W]at e;refine(λ(r:_)=>FG (λz=>absurd (e.symm.trans z) A3) (λ_=>r)) ?_;refine⟨_,_,_,Z,U,?_⟩;rw[F9,M,L6,List.all_append,o,U8,W];rfl
 rintro σ G ⟨B,C,D,rfl,d,o⟩;rw[B8,ab,J7]at o;rw[o,Bool.true_and]at k;refine xwi Z Z Z (SqT.of (d _ _ r)) (Am (j:=2) Z) ⟨lw,Z,⟨_,SqL.of (d _ _ h4)⟩,?_⟩;refine CZ (xs:=ag.map V.ref) (λj σ g=>∃B C D u6:Option V,σ=[some (.ref q),some (.int cell),some (.ref m),B,C,D,u6]/\Az H g/\(c.wis.take j).all (Rp b)=true) ⟨_,_,_,none,Z,d,Z⟩ (λj σ g _ z=>by obtain⟨_,_,_,_,_,d,_⟩:=z;exact SqL.of (d _ _ h4)) ?_ ?_
 .rintro j v σ g O ⟨B,C,D,u6,rfl,d,o⟩;rw[C7]at O;obtain⟨t,et,rfl⟩:=D5.mp O;obtain⟨p,M,hp⟩:=Paired.get h5 et;have mp:=D6 M;obtain⟨⟨p0,p8⟩,_⟩:=ok.wis p mp;refine Lk (d _ _ hp) ?_;obtain⟨x,S⟩:∃x,b[p.1.toNat]?=some x:=⟨_,F0 A1⟩
  have ix:p.1=((p.1.toNat:Nat):Int):=by lia
  refine xwj Z Z Z Z (SqL.of (d _ _ hm)) (by rw[ix];exact Am (by rw[C7,S];rfl)) (xq1 Z ⟨Z,(xq1 Z ?_)⟩);rw[I];have wi:Rp b p=decide (x=p.2):=by
   unfold Rp;rw[S];by_cases z:x=p.2
   .rw[W1 z,W1 (by rw[z])]
   .rw[W3 z,W3 (λq=>z (Y8 q))]
  by_cases z:x=p.2
  .rw[W1 z];refine Bl ⟨_,_,_,_,Z,d,?_⟩;rw[F9,M,L6,List.all_append,o,U8,wi,W1 z];rfl
  .rw[W3 z];refine CT ?_;have Y:c.wis.all (Rp b)=false:=S5.mpr ⟨p,mp,by rw[wi,W3 z];decide⟩;rw[Y]at k;exact k _ d
 .rintro σ g ⟨B,C,D,u6,rfl,d,o⟩;rw[B8,ac,J7]at o;rw[o]at k;exact k _ d
inductive SpBe4(vs:List V)(H:Hp)(Q:VK):Prop
|mk (q m:R_) (r:List LC4) (cell:Int) (ar:I_) (_:vs=[.ref q,.int cell,.ref m]) (_:EO H q r) (_:Lz r) (_:H m=some (.lst (ar.map V.int))) (_:ar.length=8) (_:∀H',Az H H'->Q (.int (Co (r.map LC4.a) cell ar)) H'):SpBe4 vs H Q
def Sx:Sp:=λvs H Q _=>SpBe4 vs H Q
theorem Ur{r:List LC4}{cell:Int}{b:I_}{j:Nat}{c:LC4}(g:r[j]?=some c)(no:∀d∈r.take j,d.a.fits cell b=false)(f:c.a.fits cell b=true):Co (r.map LC4.a) cell b=c.ms:=by
 unfold Co;have e:(r.map LC4.a).find? (Bc.fits cell b)=some c.a:=by
  have i:r=r.take j++(c::r.drop (j+1)):=by
   conv=>lhs;rw[<-U1 j r]
   rw[S4 (B9.mp g).1,(B9.mp g).2]
  rw[i,C0,List.find?_append,J1,O0,f];have n:((r.take j).map LC4.a).find? (Bc.fits cell b)=none:=by
   rw[P3];intro x k;obtain⟨d,h,rfl⟩:=D7.mp k;rw[no d h];decide
  rw[n];rfl
 rw[e];rfl
theorem ok_be4(F:Fun K "_law_becomes" "_law_becomes" Fk f fd)(T:Top K mg a)(N:Cal P w K mg base CX0 1 "_law_fits" IJ Vb):AT P w K mg base CX0 2 f fd DS Sx:=by
 refine F.ok Io D_9 λO A y s H vs Q E Y h=>?_
 obtain⟨q,m,r,cell,p,rfl,X,ok,W,U,k⟩:=h;refine⟨_,(Ae (BQ Y5 Z (Bu (pv 0)) (AN (i:=3) Io.nd Z O_9) (Af (AS (Cv (AB N (rm Y) Z Ao (Aa (pv 3) (Aa (pv 1) (Aa (pv 2) Ab))))) (Af (Ax (Ah Ap (pv 3) Ac R_9))) AD))) (Af (Ax (pv 1)))),?_⟩
 try dsimp only[cxK]
 obtain⟨ts,G,I⟩:=X;have lt:=Y4 I;refine xq1 Z ⟨q,Z,⟨_,SqL.of G⟩,?_⟩;refine CZ (xs:=ts.map V.ref) (λj σ o=>∃B:Option V,σ=[some (.ref q),some (.int cell),some (.ref m),B]/\Az H o/\∀d∈r.take j,d.a.fits cell p=false) ⟨none,Z,Az.refl H,λd b=>(by rw[List.take_zero]at b;cases b)⟩ (λj σ o _ z=>by obtain⟨_,_,g,_⟩:=z;exact SqL.of (g _ _ G)) ?_ ?_
 .rintro j v σ o D ⟨B,rfl,g,no⟩;rw[C7]at D;obtain⟨t,R,rfl⟩:=D5.mp D;obtain⟨c,u,L⟩:=Paired.get I R;have mc:=D6 u;refine xw3 Z Z Z ⟨t,m,c,cell,p,Z,L.same g,ok.ok c mc,g _ _ W,U,λM s3=>(xq1 Z ?_)⟩;have l:=g.trans s3;cases C:c.a.fits cell p with
  |true =>
   obtain⟨la,lw,aa,ab,S,_⟩:=L.same l;refine CT (xwi Z Z Z (SqT.of S) (Am (j:=3) Z) ?_);rw[<-Ur u no C];exact k M l
  |false =>
   refine Bl (xq1 Z ⟨l,λd b=>?_⟩);rw[F9,u,L6]at b;rcases D3.mp b with z|z
   .exact no d z
   .rw[C8.mp z];exact C
 .rintro σ o ⟨B,rfl,g,no⟩;rw[B8,lt,J7]at no;have e:Co (r.map LC4.a) cell p=cell:=by
   unfold Co;have n:(r.map LC4.a).find? (Bc.fits cell p)=none:=by
    rw[P3];intro x hx;obtain⟨d,b,rfl⟩:=D7.mp hx;rw[no d b];decide
   rw[n]
  have:=k o g;rw[e]at this;exact xq1 Z this
end
theorem join_w4(ws:List (Option Int)):Str.join (Str.ofString "") (ws.map wS)=BA (.pl ws):=by
 have a:Str.ofString "" = (⟨#[]⟩:Str):=by decide +kernel
 rw[a];refine Nu.ext ?_;rw[Tx.EB,Tx.RO,N9];show(ws.map _).flatten=ws.map wC;induction ws with
 |nil=>rfl
 |cons x r b=>rw[J1,P6,b,J1];rfl
theorem SS{a:I_}(h:∀m∈a,0<=m/\m<=8):Str.join (Str.ofString "") (a.map λn=>Str.ofString (toString n))=Dz a:=by
 have b:Str.ofString "" = (⟨#[]⟩:Str):=by decide +kernel
 rw[b];refine Nu.ext ?_;rw[Tx.EB,Tx.RO,N9];show(a.map _).flatten=a.map λn=>48+n.toNat;induction a with
 |nil=>rfl
 |cons n r e =>
  have c:=h n D8;rw[J1,P6,e λm d=>h m (D9 _ d)];show(Str.ofString (toString n)).cps.toList++_=_;rw[Tx.IZ c.1 A1];rfl
theorem NP{d:Int}(a:0<=d)(b:d<=9):(Str.ofString (toString d)).length=1:=by rw[Tx.IZ a b];rfl
theorem star4{t:Int}(a:0<=t)(b:t<=8):atI UU.cps.toList t=some (wC (if t=8 then none else some t)):=by
 obtain⟨n,rfl⟩:=M7 a;have:=star_at n A1;by_cases z:n=8
 .rw[W9 z]at this;rw[W9 (by rw[z];rfl)];exact Am this
 .rw[W4 z]at this;rw[W4 A1];exact Am this
theorem ws_set{l:List (Int×Int)}{p:Int×Int}(d:0<=p.1)(f:p.1<8)(lt:∀q∈l,q.1<p.1):Da (l++[p])=(Da l).set p.1.toNat (some p.2):=by
 have b:∀(l:List (Int×Int))(k:Nat),k<8->(Da l)[k]?=some ((l.find? λp=>decide (p.1=(k:Int))).map (·.2)):=λl k a=>by
  unfold Da;rw[C7,O4 a];rfl
 refine V7 λk=>?_;by_cases a:k<8
 .rw[List.getElem?_set,b _ k a,b _ k a,List.find?_append,LC];by_cases e:p.1.toNat=k
  .rw[W9 e,W9 A1];have n:(l.find? λq=>decide (q.1=(k:Int)))=none:=by
    rw[P3];intro q c z;have:=Z0 z;have:=lt q c;lia
   rw[n,O0,W1 (show p.1=(k:Int) by lia)];rfl
  .rw[W4 e,O0,W3 (show ¬p.1=(k:Int) by lia)];show some (Option.map _ (Option.or _ none))=_;rw[Option.or_none]
 .rw[N7 (by rw[LC];lia),N7 (by rw[List.length_set,LC];lia)]
theorem ws_nil:(List.replicate (8:Int).toNat [V.str (Str.ofString "*")]).flatten=(Da []).map λw=>V.str (wS w):=by
 have e:Str.ofString "*" = (⟨#[42]⟩:Str):=by decide +kernel
 rw[e];rfl
theorem ws_ok{l:List (Int×Int)}(h:∀p∈l,DC p.2):∀w∈Da l,wOk w:=λw a=>by
 unfold Da at a;obtain⟨k,_,rfl⟩:=D7.mp a;cases e:l.find? λp=>decide (p.1=(k:Int))with
 |none=>trivial
 |some p=>exact h p (Q6 e)
section
variable{P:N_}{w:Q_}{K:O_}{mg:C_}{base:T_}{a:Ad}
inductive SpWs4(vs:List V)(H:Hp)(Q:VK):Prop
|mk (q:R_) (c:LC4) (_:vs=[.ref q]) (_:FK H q c) (_:c.Ok) (_:∀H',Az H H'->Q (.str (BN c.a)) H'):SpWs4 vs H Q
def UW:Sp:=λvs H Q _=>SpWs4 vs H Q
theorem ok_ws4(F:Fun K "_law_words" "_law_words" ER f fd)(T:Top K mg a):AT P w K mg base CX0 1 f fd Ia UW:=by
 refine F.ok Cl D_9 λbd A a8 s H vs Q E hr h=>?_
 obtain⟨q,c,rfl,hq,ok,k⟩:=h;refine⟨_,(Ae (Av (i:=1) Cl.nd Z O_9 (Bq (Aa (Ah ix_str GY (Ah Ap (pv 0) Ac R_9) R_9) Ab))) (Ae (BQ Y5 Z (Bu (Ah Ap (pv 0) Ac R_9)) (EJ Z (AX (AN (i:=2) Cl.nd Z O_9) (AX (AN (i:=3) Cl.nd Z (Or.inr Z)) Dm))) (Af (Ba (Cf W5 W6 W7 Bd (pv 1) (BI Nt (AG Nt (Bp EW Z T.b_str X7 (Aa (pv 2) Ab)) GY) (Cf Z9 K8 K9 MK GY (Aa (BZ Z (Bn.of (So:=Ai ER) (No:=Lg) (N:=["_law_k","_law_mask"]) (k:=1) (cs:=[3]) Z Z A0) (Ce Z T.b_range (AJ Ab)) (λ_ _ _=>(AY (i:=0) A0 Z Z)) (λ_ _ _=>(SI (AF Ci (AG Vv (AG Vr (pv 1) (pv 0)) Ac) Ac (AI _)))) (λ_ _ _=>(Bp EW Z T.b_str X7 (Aa (pv 0) Ab)))) Ab)) Ab))))) (Ae (Av (i:=4) Cl.nd Z O_9 (AG Vt (Bq (Px Ab)) Ac)) (Ae (BQ Y5 Z (Bu (Ah Ap (pv 0) Ac R_9)) (EJ Z (AX (AN (i:=5) Cl.nd Z O_9) (AX (AN (i:=2) Cl.nd Z O_9) Dm))) (Af (Nm (Bp EW Z T.b_str X7 (Aa (pv 2) Ab)) (RA (pv 4) (pv 5) Na)))) (Ae (AS (AF (TN hr.units) (Ah Ap (pv 0) Ac R_9) (Bq Ab) (AI _)) (Af (Ba (Cf W5 W6 W7 Bd (pv 1) (Aa (Cf Z9 K8 K9 MK GY (Aa (pv 4) Ab)) Ab)))) AD) (Af (Ax (Cf Z9 K8 K9 MK GY (BI LS (pv 1) (Bq (Aa (Bp EW Z T.b_str X7 (Aa (Ah Ap (pv 0) Ac R_9) Ab)) Ab)) Ab))))))))),?_⟩
 try dsimp only[cxK]
 refine lts ?_;intro be bc;obtain⟨la,lw,a9,ba,h1,h2,h3,h4,h5⟩:=hq;have l0:(Str.ofString "").length=0:=by decide +kernel
 have a3:=Y4 h3;have aq:=Y4 h5;have few:=ok.few;have ar:c.ms<=9:=by have:=ok.ms.2;lia
 have bi:=ws_ok λp hp=>(ok.wis p hp).2;obtain⟨C,ag⟩:∃C:Option Int,C=if c.tk=8 then none else some c.tk:=⟨_,Z⟩
 refine xwi Z Z Z (SqT.of h1) (Am (j:=0) Z) ⟨UU,_,wC C,Z,Z,A0,(by rw[ag];exact star4 ok.tk.1 ok.tk.2),S_1,λx ab=>?_⟩;have s1:=Al (o:=.lst [.str (wS C)]) ab;have al:upd H x (.lst [.str (wS C)]) x=some (.lst [.str (wS C)]):=Ag;show ∃_,_;have eS:(.lst [.str ⟨#[wC C]⟩]:HO)=.lst [.str (wS C)]:=rfl;rw[eS];generalize upd H x (.lst [.str (wS C)])=H1 at s1 al⊢;refine xwi Z Z Z (SqT.of (s1 _ _ h1)) (Am (j:=1) Z) ⟨la,Z,⟨_,SqL.of (s1 _ _ h2)⟩,?_⟩;refine CZ (xs:=a9.map V.ref) (λj σ O=>∃U u3:Option V,σ=[some (.ref q),some (.ref x),U,u3,none,none]/\Az H O/\O x=some (.lst ((wS C::(c.ams.take j).map λp=>BA (.am p.1 (CG p.2))).map V.str))) ⟨none,none,Z,s1,al⟩ (λj σ O _ z=>by obtain⟨_,_,_,g,_⟩:=z;exact SqL.of (g _ _ h2)) ?_ ?_
 .rintro j v σ O ev ⟨U,u3,rfl,g,m⟩;refine ltg ?_;intro bf;rw[C7]at ev;obtain⟨t,et,rfl⟩:=D5.mp ev;obtain⟨p,ep,hp⟩:=Paired.get h3 et;have mp:=D6 ep;obtain⟨sp,m1,m2⟩:=ok.ams p mp;have u:p.1<=9:=by have:=sp.2;lia
  have hn:=SK p.2;have bb:=Ly (CG p.2) 0 A3 hn (QH _);refine Lk (g _ _ hp) ?_;refine xq1 Z ⟨.inl ⟨Z,_,SqL.of m⟩,(xq1 Z ⟨p.1,Z,Jc sp.1 u,(xq2 Z Z ⟨ML (by erw [NP sp.1 u];decide),Z,9,Z,by decide,by decide,?_⟩)⟩)⟩;refine GH (n:=9) (λi Y W=>O=W/\Y=((((List.range i).filter (FH p.2)).map λ(k:Nat)=>(k:Int)).map λn=>Str.ofString (toString n)).map V.str) ⟨Z,Z⟩ ?_ ?_
  .rintro i Y W hi ⟨rfl,rfl⟩;refine ltg ?_;intro bg;have lt:(((((List.range i).filter (FH p.2)).map λ(k:Nat)=>(k:Int)).map λn=>Str.ofString (toString n)).map V.str).length<sizeLine:=by
    rw[B8,B8,B8];have:=List.length_filter_le (FH p.2) (List.range i);rw[M0]at this;exact F3 (D4 this (V6 hi)) A3
   refine⟨⟨[some (.int (0+(i:Int)))],Z,Z⟩,lt,?_⟩;refine xw2 Z Z (xq2 Z Z ⟨(by show(0:Int)<=0+(i:Int);lia),(xq2 Z Z ⟨Z,(xq1 Z ?_)⟩)⟩);have ei:(0+(i:Int)).toNat=i:=by lia
   have e:(List.range (i+1)).filter (FH p.2)=(List.range i).filter (FH p.2)++if FH p.2 i=true then [i]else []:=by
    rw[M9,List.filter_append,List.filter_cons,List.filter_nil]
   rw[ei];show if FH p.2 i=true then _ else _;refine FG (λhb=>?_) (λhb=>?_)
   .refine xw2 Z Z ⟨Jc A1 A1,Z,?_⟩;rw[e,W9 hb,C0,C0,C0];show _++[V.str (Str.ofString (toString (0+(i:Int))))]=_++[V.str (Str.ofString (toString (i:Int)))]
    rw[T5]
   .refine⟨Z,?_⟩;rw[e,W4 hb,P4]
  .rintro Y W ⟨rfl,rfl⟩ l hl;have ah:(((List.range 9).filter (FH p.2)).map λ(k:Nat)=>(k:Int))=CG p.2:=rfl;rw[ah];generalize cD:upd O l _=W;obtain⟨s3,ay⟩:=alc hl cD;have r:JoinOk (Str.ofString "") ((CG p.2).map λn=>Str.ofString (toString n))=true:=by
    refine Tx.MP 1 (λt G=>?_) ?_
    .obtain⟨n,an,rfl⟩:=D7.mp G;have:=hn n an;rw[NP this.1 A1];decide
    .rw[B8,l0];lia
   refine⟨_,l,(xq1 Z ⟨Z,SqL.of ay,r,(xq2 Z Z ⟨ML ?_,?_⟩)⟩)⟩
   .rw[SS hn];have e1:(Dz (CG p.2)).length=(CG p.2).length:=by rw[Nu.len];show((CG p.2).map _).length=_;rw[B8]
    have e2:(Str.ofString "=").length=1:=by decide +kernel
    rw[Tx.app_len,e1,e2]
    erw [NP sp.1 u]
    lia
   .have e:Str.ofString (toString p.1)++Str.ofString "=" ++ Str.join (Str.ofString "") ((CG p.2).map λn=>Str.ofString (toString n))=BA (.am p.1 (CG p.2)):=by
     rw[SS hn,Tx.IZ sp.1 u,show Str.ofString "=" = (⟨#[61]⟩:Str) by decide +kernel];rfl
    have aw:=s3 _ _ m;refine⟨x,(xq2 Z Z ⟨aw,?_,?_⟩)⟩
    .rw[B8,F7,B8,M6];exact F3 (show min j c.ams.length+1<=3 by lia) A3
    .refine⟨_,_,Z,λb o z=>?_,?_⟩
     .rw[Ar (Aj z ab)];exact s3 _ _ (g _ _ z)
     .rw[Ag,F9,ep,L6,C0,J1,J1,C0];show some (HO.lst (_++[V.str _]))=_
      erw [e]
      rfl
 rintro σ O ⟨U,u3,rfl,g,m⟩;rw[B8,a3,J7]at m;obtain⟨I,aa⟩:∃I:List Str,I=wS C::c.ams.map λp=>BA (.am p.1 (CG p.2)):=⟨_,Z⟩
 rw[<-aa]at m;have a4:I.length<=3:=by rw[aa,F7,B8];lia
 refine⟨S_1,λL1 av=>?_⟩;generalize cD:upd O L1 _=W;obtain⟨s3,aj⟩:=alc av cD;refine⟨L1,8,(xq1 Z ⟨Z,aj,by decide,by decide,(by show 1*8<=sizeLine;decide),λL M=>?_⟩)⟩;rw[ws_nil];have s4:=Al (o:=.lst ((Da []).map λw=>V.str (wS w))) M;have R:upd W L (.lst ((Da []).map λw=>V.str (wS w))) L=some (.lst ((Da []).map λw=>V.str (wS w))):=Ag;have a6:H L=none:=Az.noneN (g.trans s3) M;have a7:x≠L:=λz=>by rw[z]at m;rw[s3 _ _ m]at M;cases M
 generalize upd W L (.lst ((Da []).map λw=>V.str (wS w)))=H4 at s4 R⊢;have ac:=(g.trans s3).trans s4;have ax:=s4 _ _ (s3 _ _ m);refine xwi Z Z Z (SqT.of (ac _ _ h1)) (Am (j:=2) Z) ⟨lw,Z,⟨_,SqL.of (ac _ _ h4)⟩,?_⟩;refine CZ (xs:=ba.map V.ref) (λj σ X=>∃U u5:Option V,σ=[some (.ref q),some (.ref x),U,u3,some (.ref L),u5]/\Az H X/\X x=some (.lst (I.map V.str))/\X L=some (.lst ((Da (c.wis.take j)).map λw=>V.str (wS w)))) ⟨U,none,Z,ac,ax,R⟩ (λj σ X _ z=>by obtain⟨_,_,_,g,_⟩:=z;exact SqL.of (g _ _ h4)) ?_ ?_
 .rintro j v σ X ev ⟨U,u5,rfl,g,B,D⟩;refine ltg ?_;intro bh;rw[C7]at ev;obtain⟨t,et,rfl⟩:=D5.mp ev;obtain⟨p,ep,hp⟩:=Paired.get h5 et;have mp:=D6 ep;obtain⟨⟨p0,p8⟩,sp⟩:=ok.wis p mp;have u:p.2<=9:=by have:=sp.2;lia
  refine Lk (g _ _ hp) ?_;refine xq1 Z ⟨p.2,Z,Jc sp.1 u,(xw2 Z Z ⟨L,_,p.1,p.1.toNat,Z,Z,D,(by unfold ixN;rw[W9 p0,W9 (by rw[B8,LC];exact p8)]),?_⟩)⟩;refine⟨_,_,Z,λb o z=>?_,by rw[Ar a7];exact B,?_⟩
  .rw[Ar (Aj z a6)];exact g _ _ z
  .have af:∀q∈c.wis.take j,q.1<p.1:=by
    intro q hq;have az:=ok.asc;have:c.wis.take (j+1)=c.wis.take j++[p]:=by rw[F9,ep,L6]
    have h9:=az.sublist (List.take_sublist (j+1) c.wis);rw[this,List.pairwise_append]at h9;exact h9.2.2 q hq p D8
   rw[Ag,F9,ep,L6,ws_set p0 p8 af,List.map_set,Tx.IZ sp.1 u];rfl
 rintro σ X ⟨U,u5,rfl,g,B,D⟩;rw[B8,aq,J7]at D;have as:∀(bj:K_)(σ:St)(H6:Hp),True->True:=λ_ _ _ _=>trivial;apply Li (fun σ H6=>Az H H6/\(∃a2 a5,σ=[some (.ref q),some (.ref x),a2,u3,some (.ref L),a5])/\H6 x=some (.lst ((wS c.a.cell::c.a.conds.map BA).map V.str)))
 .intro S;refine xwi Z Z Z (SqT.of (g _ _ h1)) (Am (j:=2) Z) ⟨S_0,λL0 au=>?_⟩;generalize cW:upd X L0 _=H6;obtain⟨s6,ai⟩:=alc au cW;have ad:=g.trans s6;refine⟨lw,L0,(xq1 Z ⟨Z,SqL.of (ad _ _ h4),SqL.of ai,(xq1 Z ?_)⟩)⟩;rw[B8,aq];have ec:(wS c.a.cell::c.a.conds.map BA)=I++(if c.wis=[]then []else [BA (.pl (Da c.wis))]):=by
   rw[aa];unfold LC4.a;dsimp only;rw[C0,N9,<-ag,List.cons_append];split<;>rfl
  by_cases z:c.wis=[]
  .rw[z];refine Bl (S _ _ ⟨ad,⟨_,_,Z⟩,?_⟩);rw[ec,W9 z,P4];exact s6 _ _ B
  .have nz:c.wis.length≠0:=λy=>z (List.length_eq_zero_iff.mp y);rw[W3 nz];have e2:(Da c.wis).map (λw=>V.str (wS w))=((Da c.wis).map wS).map V.str:=by rw[N9];rfl
   have ak:=s6 _ _ D;rw[e2]at ak;have r:JoinOk (Str.ofString "") ((Da c.wis).map wS)=true:=by
    refine Tx.MP 1 (λt G=>?_) ?_
    .obtain⟨n,an,rfl⟩:=D7.mp G;exact C9 1
    .rw[B8,l0,LC];decide
   refine CT (xq1 Z ⟨.inl ⟨Z,_,SqL.of (s6 _ _ B)⟩,Z,(xq1 Z ⟨_,L,(xq1 Z ⟨Z,SqL.of ak,r,?_⟩)⟩)⟩);rw[join_w4];refine⟨x,(xq2 Z Z ⟨s6 _ _ B,?_,S _ _ ⟨λb o y=>?_,⟨_,_,Z⟩,?_⟩⟩)⟩
   .rw[B8];exact F3 a4 A3
   .rw[Ar (Aj y ab)];exact ad _ _ y
   .rw[Ag,ec,W4 z,C0];rfl
 clear D B g;rintro σ H6 ⟨g,⟨a2,a5,rfl⟩,hW⟩;have ae:=ok.a;have f3:=ae.few;refine⟨Z,(xwj Z Z Z Z (SqT.of (g _ _ h1)) (Am (j:=3) Z) ⟨c.ms,Z,Jc ok.ms.1 ar,S_1,λw4 a0=>?_⟩)⟩;generalize dG:upd H6 w4 _=H7;obtain⟨s7,ao⟩:=alc a0 dG;refine⟨x,w4,(xq2 Z Z ⟨s7 _ _ hW,ao,ML (by simp only[F7,R0,B8];lia),λw5 a1=>?_⟩)⟩;have eL:(wS c.a.cell::c.a.conds.map BA).map V.str++[.str (Str.ofString (toString c.ms))]=(wS c.a.cell::(c.a.conds.map BA++[sgD c.a.makes])).map V.str:=by
  rw[Tx.IZ ok.ms.1 ar,<-List.cons_append,C0];rfl
 rw[eL];generalize cV:upd H7 w5 _=H8;obtain⟨s8,ap⟩:=alc a1 cV;have lb:(Str.ofString " ").length=1:=by decide +kernel
 have r:JoinOk (Str.ofString " ") (wS c.a.cell::(c.a.conds.map BA++[sgD c.a.makes]))=true:=by
  refine Tx.MP 11 (λt G=>?_) ?_
  .rcases D1.mp G with rfl|G
   .show 1<=11;decide
   .rcases D3.mp G with G|G
    .obtain⟨d,C,rfl⟩:=D7.mp G;exact Lp (ae.conds d C)
    .rw[C8.mp G];show 1<=11;decide
  .rw[lb,F7,C6,B8,F7,R0];lia
 refine⟨_,w5,(xq1 Z ⟨Z,SqL.of ap,r,?_⟩)⟩;have eC:Str.join (Str.ofString " ") (wS c.a.cell::(c.a.conds.map BA++[sgD c.a.makes]))=BN c.a:=by
  rw[show Str.ofString " " = (⟨#[32]⟩:Str) by decide +kernel];rfl
 rw[eC];exact k _ ((g.trans s7).trans s8)
theorem Lz.t{r:List LC4}(h:Lz r):Mh (r.map LC4.a):=⟨by rw[B8];have:=h.few;lia,λc b=>by obtain⟨d,e,rfl⟩:=D7.mp b;exact(h.ok d e).a⟩
inductive SpTx4(vs:List V)(H:Hp)(Q:VK):Prop
|mk (q:R_) (r:List LC4) (_:vs=[.ref q]) (_:EO H q r) (_:Lz r) (_:∀H',Az H H'->Q (.str (BO (r.map LC4.a))) H'):SpTx4 vs H Q
def UX:Sp:=λvs H Q _=>SpTx4 vs H Q
theorem ok_tx4(F:Fun K "_law_text" "_law_text" FP f fd)(T:Top K mg a)(C:Cal P w K mg base CX0 1 "_law_words" Ia UW):AT P w K mg base CX0 2 f fd Mn UX:=by
 refine F.ok Pj D_9 λD A l s H vs Q E O h=>?_
 obtain⟨q,r,rfl,M,ok,k⟩:=h;refine⟨_,(Af (Ax (Cf Z9 K8 K9 MK GY (Aa (BZ Z (Bn.of (So:=Ai FP) (No:=Mn) (N:=["_law_clause"]) (k:=1) (cs:=[]) Z Z A0) (Bu (pv 0)) (λ_ _ _=>(AY (i:=0) A0 Z Z)) (λ_ _ _=>BB) (λ_ _ _=>(AB C (rm O) Z Ao (Aa (pv 0) Ab)))) Ab)))),?_⟩
 try dsimp only[cxK]
 refine lts ?_;intro U B;obtain⟨W,o,u⟩:=M;have lt:=Y4 u;have few:=ok.few;refine⟨Z,(xq1 Z ⟨q,Z,⟨_,SqL.of o⟩,?_⟩)⟩;refine Ck (xs:=W.map V.ref) (λi b e=>Az H e/\b=((r.take i).map λc=>BN c.a).map V.str) ⟨Az.refl H,Z⟩ (λi b e _ z=>SqL.of (z.1 _ _ o)) ?_ ?_
 .rintro i x b e v ⟨g,rfl⟩;refine ltg ?_;intro y;rw[C7]at v;obtain⟨t,I,rfl⟩:=D5.mp v;obtain⟨c,m,j⟩:=Paired.get u I;refine⟨⟨[some (.ref t)],Z,Z⟩,?_,EQ (xq1 Z ⟨t,c,Z,j.same g,ok.ok c (D6 m),λX S=>⟨g.trans S,?_⟩⟩)⟩
  .rw[B8,B8,M6];exact F3 (show min i r.length<=10 by lia) A3
  .rw[F9,m,L6,C0,C0];rfl
 .rintro b e ⟨g,rfl⟩ p L;rw[B8,lt,J7];have G:(r.map λc=>BN c.a)=(r.map LC4.a).map BN:=by rw[N9];rfl
  rw[G];have n:Str.ofString "; " = OC:=by decide +kernel
  have d:JoinOk (Str.ofString "; ") ((r.map LC4.a).map BN)=true:=by
   refine Tx.MP 1000 (λt R=>?_) ?_
   .obtain⟨c,j,rfl⟩:=D7.mp R;exact JI (ok.t.ok c j)
   .rw[B8,B8,n,show OC.length=2 from rfl];lia
  refine⟨_,p,(xq1 Z ⟨Z,SqL.of Ag,d,?_⟩)⟩;rw[n];exact k _ (g.trans (Al L))
end
noncomputable def c000:LC4:=⟨0,[(0,256)],[],0⟩
theorem c000_ok:c000.Ok where
 tk:=⟨by decide,by decide⟩
 ams:=λp a=>by rw[C8.mp a];exact⟨⟨by decide,by decide⟩,by decide,by decide⟩
 few:=by decide
 wis:=λp a=>nomatch a
 asc:=.nil
 ms:=⟨by decide,by decide⟩
theorem UB(r:AA):Co (c000.a::r) 0 Cb=0:=by
 unfold Co;rw[O0];have:c000.a.fits 0 Cb=true:=by decide
 rw[this];rfl
section
variable{P:N_}{w:Q_}{K:O_}{mg:C_}{base:T_}{a:Ad}
inductive SpCs4(vs:List V)(H:Hp)(Q:VK):Prop
|mk (cl fw:R_) (ns:I_) (_:vs=[.ref cl,.ref fw]) (_:H cl=some (.lst (ns.map V.int))) (_:ns.length<=8) (_:Ro H fw) (_:∀(q:R_)(r:List LC4)(H':Hp),Az H H'->EO H' q r->Lz r->Co (r.map LC4.a) 0 Cb=0->Q (.ref q) H'):SpCs4 vs H Q
def Vd:Sp:=λvs H Q _=>SpCs4 vs H Q
theorem ok_cs4(F:Fun K "_law_clauses_by" "_law_clauses_by" CQ f fd)(T:Top K mg a)(bD:Cal P w K mg base CX0 2 "_law_clause_by" Ej Ve)(aU:Cal P w K mg base CX0 2 "_law_becomes" DS Sx):AT P w K mg base CX0 3 f fd DR Vd:=by
 refine F.ok Dr D_9 λaf A ae s H vs Q E hr h=>?_
 obtain⟨cl,fw,ns,rfl,S,n6,hf,k⟩:=h;refine⟨_,(Ae (CW (i:=2) Z Dr.nd Z Z (Bn.of (So:=Ai CQ) (No:=FW) (N:=["_law_cell","_law_few"]) (k:=1) (cs:=[1]) Z Z A0) (Bu (pv 0)) (λ_ _ _=>(AY (i:=0) A0 Z Z)) (λ_ _ _=>BB) (λ_ _ _=>(AB bD (rm hr) Z Ao (Aa (pv 0) (Aa (pv 1) Ab))))) (Ae (AS (AF Iu (AB aU (rm hr) Z Ao (Aa (pv 2) (AJ (Gi (AJ (AJ (AJ (AJ (AJ (AJ (AJ (AJ Ab)))))))) Ab)))) Ac (AI _)) (Af (Av (i:=2) Dr.nd Z O_9 (AG LS (Bq (BC (AJ (Gi (BC (AJ (AJ Ab)) Ab) (Gi Ab (AJ Ab)))) Ab)) (pv 2)))) AD) (Af (Ax (pv 2))))),?_⟩
 try dsimp only[cxK]
 refine xq1 Z ⟨cl,Z,⟨_,SqL.of S⟩,?_⟩;refine Ck (xs:=ns.map V.int) (λi j y=>Az H y/\∃(v:H_)(r:List LC4),j=v.map V.ref/\Paired (FK y) v r/\r.length=i/\∀c∈r,c.Ok) ⟨Az.refl H,[],[],Z,.nil,Z,λc R=>nomatch R⟩ (λi j y _ z=>SqL.of (z.1 _ _ S)) ?_ ?_
 .rintro i x j y hx ⟨sm,v,r,rfl,W,ln,m⟩;have lts:=Y4 W;have i6:i<ns.length:=by have:=(B9.mp hx).1;rw[B8]at this;exact this
  rw[C7]at hx;obtain⟨n,en,rfl⟩:=D5.mp hx;refine⟨⟨[some (.int n)],Z,Z⟩,?_,EQ (xw2 Z Z ⟨n,fw,Z,hf.same sm,λq d B s5 hd aa=>⟨sm.trans s5,v++[q],r++[d],by rw[C0];rfl,Z5 (Paired.imp (λb c z=>z.same s5) W) hd,by rw[C6,ln];rfl,λc R=>?_⟩⟩)⟩
  .rw[B8];exact F3 (show v.length<=8 by lia) A3
  .rcases D3.mp R with z|z
   .exact m c z
   .rw[C8.mp z];exact aa
 .rintro j y ⟨sm,v,r,rfl,W,ln,m⟩ L hL;rw[B8]at ln;have lts:=Y4 W;generalize b9:upd y L _=H1;obtain⟨s1,ab⟩:=alc hL b9;have hR:EO H1 L r:=⟨v,ab,Paired.imp (λb c z=>z.same s1) W⟩
  have rk:Lz r:=⟨by lia,m⟩
  refine xq1 Z ⟨(by show 8<=sizeLine;decide),λz8 ad=>?_⟩;have s3:=Al (o:=.lst (Cb.map V.int)) ad;refine⟨L,z8,r,0,Cb,Z,hR.same s3,rk,Ag,Z,λB s4=>?_⟩;have Y:Az H B:=((sm.trans s1).trans s3).trans s4;have M:=(hR.same s3).same s4;refine⟨Z,(xq1 Z ?_)⟩;rw[Jg];by_cases hz:Co (r.map LC4.a) 0 Cb=0
  .rw[W1 hz];exact Bl (xq1 Z (k L r B Y M rk hz))
  .rw[W3 hz];refine CT ?_;refine⟨S_2,λC ac=>⟨S_1,λD O=>⟨S_0,λG u=>⟨S_4,λt l=>⟨S_1,λb5 g=>?_⟩⟩⟩⟩⟩;generalize e:upd (upd (upd (upd (upd B C (.tup [.int 0,.int 256])) D (.lst [.ref C])) G (.lst [])) t (.tup [.int 0,.ref D,.ref G,.int 0])) b5 (.lst [.ref t])=p;have s5:Az B p:=by rw[<-e];exact(((Al ac).trans (Al O)).trans (Al u)).trans ((Al l).trans (Al g))
   have e1:p C=some (.tup [.int 0,.int 256]):=by rw[<-e];exact Al g _ _ (Al l _ _ (Al u _ _ (Al O _ _ Ag)))
   have e2:p D=some (.lst [.ref C]):=by rw[<-e];exact Al g _ _ (Al l _ _ (Al u _ _ Ag))
   have e3:p G=some (.lst []):=by rw[<-e];exact Al g _ _ (Al l _ _ Ag)
   have e4:p t=some (.tup [.int 0,.ref D,.ref G,.int 0]):=by rw[<-e];exact Al g _ _ Ag
   have e5:p b5=some (.lst [.ref t]):=by rw[<-e];exact Ag
   obtain⟨I,U,X⟩:=M.same s5;have ag:=Y4 X;refine xq1 Z ⟨b5,L,(xq2 Z Z ⟨e5,U,ML (by simp only[F7,R0,B8];lia),λq hq=>?_⟩)⟩;have s6:=Al (o:=.lst ([V.ref t]++I.map V.ref)) hq;have c0:FK p t c000:=⟨D,G,[C],[],e4,e2,.cons e1 .nil,e3,.nil⟩
   refine xq1 Z (k q (c000::r) _ ((Y.trans s5).trans s6) ⟨t::I,Ag,.cons (c0.same s6) (Paired.imp (λ_ _ z=>z.same s6) X)⟩ ⟨by rw[F7];lia,λc R=>?_⟩ (UB _));rcases D1.mp R with z|z
   .rw[z];exact c000_ok
   .exact m c z
end
end J
namespace J
open PySem L2
theorem seqc{A B:TS}{D:JJ}{σ:St}{H:Hp}(h:∀k:St->Hp->Prop,k=B D->A {D with nx:=k} σ H):tSeq A B D σ H:=h _ Z
structure Sq where
parts:List Int
lev:Int
abbrev Gv:=List Sq
structure GA where
p:Addr
dx:Addr
lv:Addr
pt:Addr
nm:Addr
br:Addr
am:Addr
bx:Addr
noncomputable def fl6(g:GA):List (Str×V):=AW "boxes" (.ref g.bx) (AW "amounts" (.ref g.am) (AW "bares" (.ref g.br) (AW "numbers" (.ref g.nm) (AW "parts" (.ref g.pt) (AW "levels" (.ref g.lv) [])))))
theorem Gy(g:GA):(fl6 g).lookup ("levels" : Str)=some (V.ref g.lv):=by
 unfold fl6;rw[Ak,W4 A0,Ak,W4 A0,Ak,W4 A0,Ak,W4 A0,Ak,W4 A0,Ak,W9 rfl]
theorem Eo(g:GA):(fl6 g).lookup ("parts" : Str)=some (V.ref g.pt):=by
 unfold fl6;rw[Ak,W4 A0,Ak,W4 A0,Ak,W4 A0,Ak,W4 A0,Ak,W9 rfl]
theorem VY(g:GA):(fl6 g).lookup ("numbers" : Str)=some (V.ref g.nm):=by
 unfold fl6;rw[Ak,W4 A0,Ak,W4 A0,Ak,W4 A0,Ak,W9 rfl]
theorem Qg(g:GA):(fl6 g).lookup ("bares" : Str)=some (V.ref g.br):=by
 unfold fl6;rw[Ak,W4 A0,Ak,W4 A0,Ak,W9 rfl]
theorem fl6_am(g:GA):(fl6 g).lookup ("amounts" : Str)=some (V.ref g.am):=by
 unfold fl6;rw[Ak,W4 A0,Ak,W9 rfl]
theorem Ij(g:GA){m:Str}(a:¬m=("boxes" : Str))(b:¬m=("amounts" : Str))(c:¬m=("bares" : Str))(d:¬m=("numbers" : Str))(e:¬m=("parts" : Str))(f:¬m=("levels" : Str)):(fl6 g).lookup m=none:=by
 unfold fl6;rw[Ak,W4 a,Ak,W4 b,Ak,W4 c,Ak,W4 d,Ak,W4 e,Ak,W4 f];rfl
theorem PB(g:GA):(fl6 g).lookup ("kept" : Str)=none:=Ij g A0 A0 A0 A0 A0 A0
theorem Dw(g:GA):(fl6 g).lookup ("linked" : Str)=none:=Ij g A0 A0 A0 A0 A0 A0
theorem QK(g:GA):(fl6 g).lookup ("check_square" : Str)=none:=Ij g A0 A0 A0 A0 A0 A0
theorem MJ(g:GA):(fl6 g).lookup ("leaf" : Str)=none:=Ij g A0 A0 A0 A0 A0 A0
theorem FD(g:GA):(fl6 g).lookup ("level_of" : Str)=none:=Ij g A0 A0 A0 A0 A0 A0
theorem Dx(g:GA):(fl6 g).lookup ("joined" : Str)=none:=Ij g A0 A0 A0 A0 A0 A0
theorem QJ(g:GA):(fl6 g).lookup ("solid" : Str)=none:=Ij g A0 A0 A0 A0 A0 A0
theorem BL(g:GA):(fl6 g).lookup ("quarters" : Str)=none:=Ij g A0 A0 A0 A0 A0 A0
theorem JE(g:GA):(fl6 g).lookup ("state_of" : Str)=none:=Ij g A0 A0 A0 A0 A0 A0
noncomputable def kOf(ps:I_):List Key:=ps.map Sum.inl
theorem VP(ps:I_):(kOf ps).map kV=ps.map V.int:=by unfold kOf;rw[N9];rfl
theorem MO:∀{ps a:I_},kOf ps=kOf a->ps=a
|[],[],_=>rfl
|[],_::_,h=>by cases h
|_::_,[],h=>by cases h
|x::r,y::t,h=>by
 have h:Sum.inl x::kOf r=(Sum.inl y:Key)::kOf t:=h;injection h with h1 h2
 injection h1 with h1
 rw[h1,MO h2]
noncomputable def IS:Nat->Gv->List (List Key×V)
|_,[]=>[]
|n,q::r=>(kOf q.parts,.int (n:Int))::IS (n+1) r
theorem QT:∀(G:Gv)(n:Nat),(IS n G).length=G.length
|[],_=>rfl
|q::r,n=>by show(IS (n+1) r).length+1=r.length+1;rw[QT r]
theorem OE(q:Sq):∀(G:Gv)(n:Nat),IS n (G++[q])=IS n G++[(kOf q.parts,.int ((n+G.length:Nat):Int))]
|[],_=>rfl
|p::r,n=>by
 show(kOf p.parts,V.int (n:Int))::IS (n+1) (r++[q])=_;rw[OE q r (n+1)];show _=(kOf p.parts,V.int (n:Int))::(IS (n+1) r++[(kOf q.parts,V.int ((n+(r.length+1):Nat):Int))]);rw[show n+1+r.length=n+(r.length+1) by lia]
theorem PX(ps:I_):∀(G:Gv)(n:Nat),(∃(i:Nat)(q:Sq),G[i]?=some q/\q.parts=ps/\BP (IS n G) (kOf ps)=some (.int ((n+i:Nat):Int)))\/(BP (IS n G) (kOf ps)=none/\∀q∈G,q.parts≠ps)
|[],n=>.inr ⟨Z,λq a=>by simp at a⟩
|p::r,n=>by
 by_cases e:p.parts=ps
 .exact .inl ⟨0,p,Z,e,BS (by rw[e])⟩
 .have b:¬(kOf p.parts,V.int (n:Int)).1=kOf ps:=λz=>e (MO z);rcases PX ps r (n+1)with ⟨i,q,h1,h2,h3⟩|⟨h1,h2⟩
  .refine .inl ⟨i+1,q,h1,h2,?_⟩;show BP ((kOf p.parts,V.int (n:Int))::IS (n+1) r) (kOf ps)=_;rw[Bv b,h3,show n+1+i=n+(i+1) by lia]
  .refine .inr ⟨?_,λq a=>?_⟩
   .show BP ((kOf p.parts,V.int (n:Int))::IS (n+1) r) (kOf ps)=_;rw[Bv b,h1]
   .rcases D1.mp a with rfl|a
    .exact e
    .exact h2 q a
def TupAt(H:Hp)(t:R_)(q:Sq):Prop:=H t=some (.tup (q.parts.map V.int))
structure AE(a:Ad)(H:Hp)(g:GA)(G:Gv):Prop where
hp:H g.p=some (.ins a.c_Grove g.dx (fl6 g))
lv:H g.lv=some (.lst (G.map λq=>.int q.lev))
pt:∃ts:List Addr,H g.pt=some (.lst (ts.map V.ref))/\Paired (TupAt H) ts G
nm:H g.nm=some (.dT (IS 0 G))
ne:g.lv≠g.pt
def Fr(g:GA)(H H':Hp):Prop:=∀b o,H b=some o->b≠g.lv->b≠g.pt->b≠g.nm->H' b=some o
theorem Fr.refl(g:GA)(H:Hp):Fr g H H:=λ_ _ e _ _ _=>e
theorem Fr.trans{g:GA}{a c d:Hp}(h:Fr g a c)(k:Fr g c d):Fr g a d:=λb o e f i j=>k b o (h b o e f i j) f i j
theorem Az.fr{g:GA}{a c:Hp}(h:Az a c):Fr g a c:=λb o e _ _ _=>h b o e
theorem PairedM.imp{α β:Type}{F G:α->β->Prop}(h:∀x y,F x y->G x y):∀{l:List α}{m:List β},Paired F l m->Paired G l m
|_,_,.nil=>.nil
|_,_,.cons r t=>.cons (h _ _ r) (PairedM.imp h t)
theorem PairedM.get{α β:Type}{F:α->β->Prop}:∀{l:List α}{m:List β}{i:Nat}{y:β},Paired F l m->m[i]?=some y->∃x,l[i]?=some x/\F x y
|_,_,_,_,.nil,e=>by simp at e
|_,_,0,_,.cons r _,e=>by simp at e;subst e;exact⟨_,Z,r⟩
|_,_,i+1,y,.cons _ t,e=>by
 obtain⟨x,a,b⟩:=PairedM.get (i:=i) (y:=y) t (by simpa using e);exact⟨x,by simpa using a,b⟩
theorem CP{H:Hp}{p:R_}{o:HO}(h:H p=none):Az H (upd H p o):=λb u e=>by
 rw[Ar (Aj e h)];exact e
theorem AE.same{a:Ad}{H b:Hp}{g:GA}{G:Gv}(s:Az H b)(h:AE a H g G):AE a b g G:=by
 obtain⟨c,d,⟨k,e,f⟩,i,j⟩:=h;exact⟨s _ _ c,s _ _ d,⟨k,s _ _ e,PairedM.imp (λt q z=>s _ _ z) f⟩,s _ _ i,j⟩
theorem AE.put{a:Ad}{H:Hp}{g:GA}{G:Gv}{l:R_}{xs:List V}{o:HO}(p:H l=some (.lst xs))(r:l≠g.lv)(s:l≠g.pt)(h:AE a H g G):AE a (upd H l o) g G:=by
 obtain⟨d,f,⟨u,i,j⟩,k,m⟩:=h;have c:∀{b v},H b=some v->v≠.lst xs->upd H l o b=some v:=λ{b v} e n=>by rw[Ar (Aq e p n)];exact e
 exact⟨c d A2,by rw[Ar (W8 r)];exact f,⟨u,by rw[Ar (W8 s)];exact i,PairedM.imp (λt q z=>c z A2) j⟩,c k A2,m⟩
def An(G:Gv)(x:Nat)(l:Int):Prop:=∃q,G[x]?=some q/\q.lev=l
structure GOk(G:Gv):Prop where
leaf:∀s:Nat,s<8->G[s]?=some ⟨[(s:Int)],0⟩
node:∀(i:Nat) q,G[i]?=some q->8<=i->∃x y z w:Nat,q.parts=[(x:Int),(y:Int),(z:Int),(w:Int)]/\(An G x (q.lev-1)/\An G y (q.lev-1)/\An G z (q.lev-1)/\An G w (q.lev-1))/\1<=q.lev/\q.lev<=48
nd:(G.map Sq.parts).Nodup
theorem An.lt{G:Gv}{x:Nat}{l:Int}(h:An G x l):x<G.length:=by
 obtain⟨q,h,_⟩:=h;exact(B9.mp h).1
theorem Qd{G r:Gv}{x:Nat}{q:Sq}(h:G[x]?=some q):(G++r)[x]?=some q:=by
 rw[J3 (B9.mp h).1];exact h
theorem An.app{G r:Gv}{x:Nat}{l:Int}(h:An G x l):An (G++r) x l:=by
 obtain⟨q,h,e⟩:=h;exact⟨q,Qd h,e⟩
theorem GOk.lev{G:Gv}(h:GOk G){i:Nat}{q:Sq}(e:G[i]?=some q):0<=q.lev/\q.lev<=48:=by
 by_cases b:i<8
 .rw[h.leaf i b]at e;cases e;exact⟨Int.le_refl 0,by show(0:Int)<=48;decide⟩
 .obtain⟨x,y,z,w,_,_,c,a⟩:=h.node i q e A1;exact⟨by lia,a⟩
theorem GOk.snoc{G:Gv}(h:GOk G){x y z w:Nat}{l:Int}(t:An G x l)(u:An G y l)(v:An G z l)(r:An G w l)(g:l<=47)(new:∀q∈G,q.parts≠[(x:Int),(y:Int),(z:Int),(w:Int)]):GOk (G++[⟨[(x:Int),(y:Int),(z:Int),(w:Int)],l+1⟩]) where
 leaf:=λs o=>Qd (h.leaf s o)
 node:=λi q e j=>by
  by_cases k:i<G.length
  .rw[J3 k]at e;obtain⟨x,y,z,w,d,⟨a1,a2,a3,a4⟩,f⟩:=h.node i q e j;exact⟨x,y,z,w,d,⟨a1.app,a2.app,a3.app,a4.app⟩,f⟩
  .rw[F1 A1]at e;have:i-G.length=0:=by
    by_cases z:i-G.length=0
    .exact z
    .rw[N7 (by rw[N6];lia)]at e;cases e
   rw[this]at e;cases e;obtain⟨C,b,A⟩:=t;have:=(h.lev b).1;have c:l+1-1=l:=by lia
   refine⟨x,y,z,w,Z,?_,?_,?_⟩
   .show An _ x (l+1-1)/\An _ y (l+1-1)/\An _ z (l+1-1)/\An _ w (l+1-1);rw[c];exact⟨An.app ⟨C,b,A⟩,u.app,v.app,r.app⟩
   .show 1<=l+1;lia
   .show l+1<=48;lia
 nd:=by
  rw[C0,N5];refine⟨h.nd,by simp,λp m B a=>?_⟩;obtain⟨q,n,rfl⟩:=D7.mp m;rw[show B=[(x:Int),(y:Int),(z:Int),(w:Int)] by simpa using a];exact new q n
theorem GOk.one{G:Gv}(h:GOk G){i j:Nat}{p q:Sq}(a:G[i]?=some p)(b:G[j]?=some q)(e:p.parts=q.parts):i=j:=by
 have d:=(B9.mp a).1;have f:=(B9.mp b).1;have c:(G.map Sq.parts)[i]'(by rw[B8];exact d)=(G.map Sq.parts)[j]'(by rw[B8];exact f):=by
  rw[List.getElem_map,List.getElem_map,(B9.mp a).2,(B9.mp b).2,e]
 exact(List.getElem_inj h.nd).mp c
seal L2.PA L2.PE L2.PS L2.PSs L2.PT L2.PW
theorem Jr{n:Nat}(h:n<10000000):n<sizeLine:=J6 h A3
theorem OF(K:O_):kitOne K (.type "int") (.type "int")=some true/\kitOne K (.type "int") (.type "bool")=some false:=⟨by kernel_rfl,by kernel_rfl⟩
section
variable{P:N_}{w:Q_}{K:O_}{mg:C_}{base:T_}{a:Ad}
inductive SpIW(vs:List V)(H:Hp)(Q:VK):Prop
|mk (i:Int) (_:vs=[.int i]) (_:Q (.bl true) H):SpIW vs H Q
def TH:Sp:=λvs H Q _=>SpIW vs H Q
theorem ok_iw(F:Fun K "is_whole" "is_whole" Jt f fd)(T:Top K mg a):AT P w K mg base CX0 1 f fd RE TH:=by
 refine F.ok Qy D_9 λc A b s H vs Q E d h=>?_
 obtain⟨i,rfl,k⟩:=h;exact⟨_,(Af (Ax (LO (AU Dk Z T.b_isinstance Y9 (Aa (pv 0) (Aa (Ev (v:=.ty "int") Z T.b_int Z6 Z) Ab))) (Jy (Vn (AU Dk Z T.b_isinstance Y9 (Aa (pv 0) (Aa (Ev (v:=.ty "bool") Z T.b_bool A0d Z) Ab)))))))),(xq1 Z ⟨_,_,_,.type "int",true,Z,Z,.of (.int i),(OF K).1,true,Z,CT (xq1 Z ⟨_,_,_,.type "int",false,Z,Z,.of (.int i),(OF K).2,false,Z,k⟩)⟩)⟩
inductive SpIS(vs:List V)(H:Hp)(Q:VK):Prop
|mk (i:Int) (_:vs=[.int i]) (_:0<=i) (_:i<8) (_:Q (.bl true) H):SpIS vs H Q
def spIS:Sp:=λvs H Q _=>SpIS vs H Q
theorem ok_is(F:Fun K "is_state" "is_state" Ju f fd)(T:Top K mg a)(c:Cal P w K mg base CX0 1 "is_whole" RE TH):AT P w K mg base CX0 2 f fd RE spIS:=by
 refine F.ok Qz D_9 λd A b s H vs Q E j h=>?_
 obtain⟨i,rfl,e,g,k⟩:=h;refine⟨_,(Af (Ax (LO (AB c (rm j) Z Ao (Aa (pv 0) Ab)) (Jy (Vp Ld Lb Ac (pv 0) (CS Z T.k_STATES)))))),?_⟩
 try dsimp only[cxK]
 refine xq1 Z ⟨i,Z,true,Z,CT (xwb Z Z Z (xq1 Z ?_))⟩;rw[W1 e];refine CT (xq2 Z Z ?_);show Q (.bl (decide (i<8))) H;rw[W1 g];exact k
inductive WA(a:Ad)(vs:List V)(H:Hp)(Q:VK):Prop
|mk (g:GA) (G:Gv) (t:R_) (ps:I_) (l:Int) (_:vs=[.ref g.p,.ref t,.int l]) (_:AE a H g G) (_:H t=some (.tup (ps.map V.int))) (_:(∀q∈G,q.parts≠ps)) (_:G.length<9000000) (_:∀H',Fr g H H'->AE a H' g (G++[⟨ps,l⟩])->Q (.int (G.length:Int)) H'):WA a vs H Q
def Pe(a:Ad):Sp:=λvs H Q _=>WA a vs H Q
theorem ok_kept(F:Fun K "kept" "Grove.kept" GW f fd)(T:Top K mg a):AT P w K mg base CX0 1 f fd EU (Pe a):=by
 refine F.ok Jm D_9 λaa A Y s H vs Q E hr h=>?_
 obtain⟨g,G,t,ps,l,rfl,hg,ht,new,few,k⟩:=h;obtain⟨d,r,⟨S,O,h4⟩,y,U⟩:=hg;have lt:S.length=G.length:=Y4 h4;refine⟨_,(Ae (Av (i:=3) Jm.nd Z O_9 (AU BK Z T.b_len Z2 (Aa (AK (pv 0) Z) Ab))) (Ae (FT (DY hr) (AK (pv 0) Z) (pv 1) (pv 3) Z) (Ae (Ba (Cf W5 W6 W7 Bd (AK (pv 0) Z) (Aa (pv 2) Ab))) (Ae (Ba (Cf W5 W6 W7 Bd (AK (pv 0) Z) (Aa (pv 1) Ab))) (Af (Ax (pv 3))))))),?_⟩
 try dsimp only[cxK]
 refine xwf Z Z d T.cl_Grove T.na_Grove_levels (Gy g) ⟨g.lv,(xq1 Z ⟨.inl (SqL.of r),?_⟩)⟩;rw[B8];have j:g.p≠g.nm:=Aq d y A2;have m:g.lv≠g.nm:=Aq r y A2;have I:g.pt≠g.nm:=Aq O y A2;have L:g.p≠g.lv:=Aq d r A2;have X:g.p≠g.pt:=Aq d O A2;have vn:BP (IS 0 G) (kOf ps)=none:=by
  rcases PX ps G 0 with ⟨i,q,e1,e2,_⟩|⟨e,_⟩
  .exact absurd e2 (new q (D6 e1))
  .exact e
 refine xw2 Z Z (xq5 d T.cl_Grove T.na_Grove_numbers (VY g) (xq1 Z ⟨g.nm,(xq1 Z ⟨LB.t (k:=kOf ps) y (by rw[VP];exact ht) (by rw[QT];exact Jr A1),?_⟩)⟩));rw[IE _ vn];have e5:IS 0 G++[(kOf ps,V.int (G.length:Int))]=IS 0 (G++[⟨ps,l⟩]):=by rw[OE,M5]
 rw[e5];generalize B:upd H g.nm (.dT (IS 0 (G++[⟨ps,l⟩])))=M;have u:∀b o,H b=some o->b≠g.nm->M b=some o:=λb o e n=>by rw[<-B,Ar n];exact e
 have n1:M g.nm=some (.dT (IS 0 (G++[⟨ps,l⟩]))):=by rw[<-B];exact Ag
 refine xwf Z Z (u _ _ d j) T.cl_Grove T.na_Grove_levels (Gy g) ⟨.inl ⟨Z,_,SqL.of (u _ _ r m)⟩,(xq1 Z ⟨g.lv,(xq2 Z Z ⟨u _ _ r m,by rw[B8];exact Jr A1,?_⟩)⟩)⟩;generalize C:upd M g.lv (.lst ((G.map λq=>V.int q.lev)++[.int l]))=N;have R:∀b o,M b=some o->b≠g.lv->N b=some o:=λb o e n=>by rw[<-C,Ar n];exact e
 have n2:N g.lv=some (.lst ((G++[(⟨ps,l⟩:Sq)]).map λq=>V.int q.lev)):=by rw[<-C,Ag,C0];rfl
 have x:=R _ _ (u _ _ O I) (W8 U);refine xwf Z Z (R _ _ (u _ _ d j) L) T.cl_Grove T.na_Grove_parts (Eo g) ⟨.inl ⟨Z,_,SqL.of x⟩,(xq1 Z ⟨g.pt,(xq2 Z Z ⟨x,by rw[B8,lt];exact Jr A1,?_⟩)⟩)⟩;generalize D:upd N g.pt (.lst (S.map V.ref++[.ref t]))=v;have W:∀b o,N b=some o->b≠g.pt->v b=some o:=λb o e n=>by rw[<-D,Ar n];exact e
 have n3:v g.pt=some (.lst ((S++[t]).map V.ref)):=by rw[<-D,Ag,C0];rfl
 have fr:Fr g H v:=λb o e m1 m2 m3=>W _ _ (R _ _ (u _ _ e m3) m1) m2;have tp:∀(c:R_)(xs:List V),H c=some (.tup xs)->v c=some (.tup xs):=λc xs e=>fr _ _ e (Aq e r A2) (Aq e O A2) (Aq e y A2);refine xq1 Z (k v fr ⟨fr _ _ d L X j,W _ _ n2 U,⟨S++[t],n3,Z5 (PairedM.imp (λc q z=>tp c _ z) h4) (tp t _ ht)⟩,W _ _ (R _ _ n1 (W8 m)) (W8 I),U⟩)
structure AR(G G':Gv)(n:Nat):Prop where
ok:GOk G'
pre:∃r,G'=G++r
few:G'.length<=G.length+n
theorem AR.refl{G:Gv}(h:GOk G):AR G G 0:=⟨h,⟨[],by simp⟩,C9 _⟩
theorem AR.trans{G d b:Gv}{n m:Nat}(h:AR G d n)(c:AR d b m):AR G b (n+m):=by
 obtain⟨r,e⟩:=h.pre;obtain⟨t,f⟩:=c.pre;have g:=h.few;have i:=c.few;exact⟨c.ok,⟨r++t,by rw[f,e,O2]⟩,by lia⟩
theorem AR.get{G b:Gv}{n x:Nat}{q:Sq}(h:AR G b n)(e:G[x]?=some q):b[x]?=some q:=by
 obtain⟨r,c⟩:=h.pre;rw[c];exact Qd e
theorem AR.lev{G b:Gv}{n x:Nat}{l:Int}(h:AR G b n)(e:An G x l):An b x l:=by
 obtain⟨q,e,z⟩:=e;exact⟨q,h.get e,z⟩
inductive Sa(a:Ad)(vs:List V)(H:Hp)(Q:VK):Prop
|mk (g:GA) (G:Gv) (t:R_) (x y z w:Nat) (l:Int) (_:vs=[.ref g.p,.ref t]) (_:AE a H g G) (_:GOk G) (_:H t=some (.tup [.int x,.int y,.int z,.int w])) (_:(An G x l/\An G y l/\An G z l/\An G w l)) (_:l<=47) (_:G.length<9000000) (_:∀(n:Nat)(G':Gv)(H':Hp),Fr g H H'->AE a H' g G'->AR G G' 1->G'[n]?=some ⟨[(x:Int),(y:Int),(z:Int),(w:Int)],l+1⟩->Q (.int n) H'):Sa a vs H Q
def EZ(a:Ad):Sp:=λvs H Q _=>Sa a vs H Q
theorem ok_link(F:Fun K "linked" "Grove.linked" Fp f fd)(T:Top K mg a)(O:BD P w K mg base CX0 1 a.c_Grove "kept" EU (Pe a)):AT P w K mg base CX0 2 f fd Br (EZ a):=by
 refine F.ok Iq D_9 λR A v s H vs Q E I h=>?_
 obtain⟨g,G,t,x,y,z,w,l,rfl,D,ok,r,⟨u,Y,hz,X⟩,o,few,k⟩:=h;have d:=D;obtain⟨n,V,⟨ts,h3,h4⟩,C,h6⟩:=D;refine⟨_,(Ae (Av (i:=2) Iq.nd Z O_9 (Nn (DY I) (AK (pv 0) Z) (pv 1) ⟨Z,Z,Z,Z⟩)) (Ae (AS (AF Nr (pv 2) Jz (AI _)) (Af (Ax (Aw (pv 0) O (rm I) Ao (Aa (pv 1) (BI Be (Ah Au (AK (pv 0) Z) (Ah Ap (pv 1) Ac R_9) R_9) Ac Ab))))) AD) (Af (Ax (pv 2))))),?_⟩
 try dsimp only[cxK]
 refine xwf Z Z n T.cl_Grove T.na_Grove_numbers (VY g) ⟨g.nm,Z,.inr ⟨_,.inl C⟩,(xq1 Z ⟨_,FM.t (k:=kOf [(x:Int),(y:Int),(z:Int),(w:Int)]) C (by rw[VP];exact r),?_⟩)⟩;rcases PX [(x:Int),(y:Int),(z:Int),(w:Int)] G 0 with ⟨i,q,c,b,S⟩|⟨e,new⟩
 .rw[S];refine xq1 Z ⟨Z,(xq1 Z (Bl (xq1 Z ?_)))⟩;rw[M5];refine k i G H (Fr.refl g H) d ⟨ok,⟨[],by simp⟩,by lia⟩ ?_;have W:8<=i:=by
   refine Nat.le_of_not_lt λM=>?_;rw[ok.leaf i M]at c;cases c;cases b
  obtain⟨x',y',M,w',p1,⟨L,_⟩,_⟩:=ok.node i q c W;have m:x'=x:=by
   rw[p1]at b;injection b with b _
   exact K1 b
  rw[m]at L;obtain⟨qa,a1,a2⟩:=L;obtain⟨qb,B,b2⟩:=u;rw[a1]at B;cases B;have U:q.lev=l+1:=by lia
  rw[c];cases q with
  |mk pp ll=>cases b;cases U;rfl
 .rw[e];refine xq1 Z ⟨Z,(xq1 Z (CT ?_))⟩;obtain⟨q,c,b⟩:=id u;refine xwn Z Z n (PB g) Z (xwf Z Z n T.cl_Grove T.na_Grove_levels (Gy g) (xwi Z Z Z (SqT.of r) (Am (j:=0) Z) (xq4 Z Z (SqL.of V) (Am (by rw[C7,c];rfl)) (xq2 Z Z ?_))));refine⟨g,G,t,[(x:Int),(y:Int),(z:Int),(w:Int)],l+1,by rw[<-b];rfl,d,r,new,few,λN fr p=>?_⟩;refine k G.length _ N fr p ⟨ok.snoc u Y hz X o new,⟨_,Z⟩,by rw[C6];exact C9 _⟩ ?_;rw[F1 (C9 _),O8];rfl
inductive SpChk(a:Ad)(vs:List V)(H:Hp)(Q:VK):Prop
|mk (g:GA) (G:Gv) (i:Nat) (_:vs=[.ref g.p,.int i]) (_:AE a H g G) (_:i<G.length) (_:Q .non H):SpChk a vs H Q
def Sr(a:Ad):Sp:=λvs H Q _=>SpChk a vs H Q
theorem ok_chk(F:Fun K "check_square" "Grove.check_square" CV f fd)(T:Top K mg a)(d:Cal P w K mg base CX0 1 "is_whole" RE TH):AT P w K mg base CX0 2 f fd IR (Sr a):=by
 refine F.ok Iv D_9 λe A b s H vs Q E j h=>?_
 obtain⟨g,G,i,rfl,c,l,k⟩:=h;refine⟨_,(Af (AS (PW.pt (Ir (CB (Cv (AB d (rm j) Z Ao (Aa (pv 1) Ab)))) (Ft (CB (JU Ld Lb Ac (pv 1) (AU BK Z T.b_len Z2 (Aa (AK (pv 0) Z) Ab))))))) (Af BT) AD)),?_⟩
 try dsimp only[cxK]
 refine⟨_,Z,_,Z,true,Z,Bl ⟨_,Z,_,_,Z,Z,_,Z,?_⟩⟩;rw[W1 (by lia:(0:Int)<=(i:Int))];refine CT (xwf Z Z c.hp T.cl_Grove T.na_Grove_levels (Gy g) ⟨g.lv,(xq1 Z ⟨.inl (SqL.of c.lv),(xq2 Z Z (xq1 Z ?_))⟩)⟩);rw[B8,W1 (by lia:(i:Int)<(G.length:Int))];exact Bl k
inductive Wz(a:Ad)(vs:List V)(H:Hp)(Q:VK):Prop
|mk (p:R_) (i:Int) (_:vs=[.ref p,.int i]) (_:0<=i) (_:i<8) (_:Q (.int i) H):Wz a vs H Q
def MW(a:Ad):Sp:=λvs H Q _=>Wz a vs H Q
theorem ok_leaf(F:Fun K "leaf" "Grove.leaf" GV f fd)(T:Top K mg a)(c:Cal P w K mg base CX0 2 "is_state" RE spIS):AT P w K mg base CX0 3 f fd PQ (MW a):=by
 refine F.ok Od D_9 λd A b s H vs Q E l h=>?_
 obtain⟨g,i,rfl,e,j,k⟩:=h;exact⟨_,(Ae (AS (CB (Cv (AB c (rm l) Z Ao (Aa (pv 1) Ab)))) (Af BT) AD) (Af (Ax (pv 1)))),(xq1 Z ⟨i,Z,e,j,true,Z,Bl (xq1 Z k)⟩)⟩
inductive SpLev(a:Ad)(vs:List V)(H:Hp)(Q:VK):Prop
|mk (g:GA) (G:Gv) (i:Nat) (q:Sq) (_:vs=[.ref g.p,.int i]) (_:AE a H g G) (_:G[i]?=some q) (_:Q (.int q.lev) H):SpLev a vs H Q
def Ox(a:Ad):Sp:=λvs H Q _=>SpLev a vs H Q
theorem ok_lev(F:Fun K "level_of" "Grove.level_of" Ee f fd)(T:Top K mg a)(e:BD P w K mg base CX0 2 a.c_Grove "check_square" IR (Sr a)):AT P w K mg base CX0 3 f fd IR (Ox a):=by
 refine F.ok JQ D_9 λj A c s H vs Q E l h=>?_
 obtain⟨g,G,i,q,rfl,b,d,k⟩:=h;refine⟨_,(Ae (Ba (Aw (pv 0) e (rm l) Ao (Aa (pv 1) Ab))) (Af (Ax (Ah Au (AK (pv 0) Z) (pv 1) R_9)))),?_⟩
 try dsimp only[cxK]
 refine xwn Z Z b.hp (QK g) Z ⟨g,G,i,Z,b,(B9.mp d).1,?_⟩;exact xwf Z Z b.hp T.cl_Grove T.na_Grove_levels (Gy g) (xwi Z Z Z (SqL.of b.lv) (Am (by rw[C7,d];rfl)) k)
inductive SpQua(a:Ad)(vs:List V)(H:Hp)(Q:VK):Prop
|mk (g:GA) (G:Gv) (i:Nat) (q:Sq) (_:vs=[.ref g.p,.int i]) (_:AE a H g G) (_:G[i]?=some q) (_:q.lev≠0) (_:∀t,H t=some (.tup (q.parts.map V.int))->Q (.ref t) H):SpQua a vs H Q
def Ml(a:Ad):Sp:=λvs H Q _=>SpQua a vs H Q
theorem ok_qua(F:Fun K "quarters" "Grove.quarters" Ed f fd)(T:Top K mg a)(e:BD P w K mg base CX0 3 a.c_Grove "level_of" IR (Ox a)):AT P w K mg base CX0 4 f fd IR (Ml a):=by
 refine F.ok JP D_9 λj A c s H vs Q E p h=>?_
 obtain⟨g,G,i,q,rfl,b,d,m,k⟩:=h;refine⟨_,(Ae (AS (AF Ci (Aw (pv 0) e (rm p) Ao (Aa (pv 1) Ab)) Ac (AI _)) (Af BT) AD) (Af (Ax (Ah Au (AK (pv 0) Z) (pv 1) R_9)))),?_⟩
 try dsimp only[cxK]
 refine xwn Z Z b.hp (FD g) Z ⟨g,G,i,q,Z,b,d,Z,(xq1 Z ?_)⟩;rw[W3 (by intro z;injection z with z;exact m z)];obtain⟨u,n,o⟩:=b.pt;obtain⟨t,l,r⟩:=PairedM.get o d;exact Bl (xwf Z Z b.hp T.cl_Grove T.na_Grove_parts (Eo g) (xwi Z Z Z (SqL.of n) (Am (by rw[C7,l];rfl)) (k t r)))
inductive SpSta(a:Ad)(vs:List V)(H:Hp)(Q:VK):Prop
|mk (g:GA) (G:Gv) (i:Nat) (q:Sq) (_:vs=[.ref g.p,.int i]) (_:AE a H g G) (_:G[i]?=some q) (_:q.lev=0) (_:Q (.int i) H):SpSta a vs H Q
def Sl(a:Ad):Sp:=λvs H Q _=>SpSta a vs H Q
theorem ok_sta(F:Fun K "state_of" "Grove.state_of" Ec f fd)(T:Top K mg a)(d:BD P w K mg base CX0 3 a.c_Grove "level_of" IR (Ox a)):AT P w K mg base CX0 4 f fd IR (Sl a):=by
 refine F.ok JO D_9 λe A b s H vs Q E m h=>?_
 obtain⟨g,G,i,q,rfl,c,l,j,k⟩:=h;refine⟨_,(Ae (AS (AF Iu (Aw (pv 0) d (rm m) Ao (Aa (pv 1) Ab)) Ac (AI _)) (Af BT) AD) (Af (Ax (pv 1)))),?_⟩
 try dsimp only[cxK]
 refine xwn Z Z c.hp (FD g) Z ⟨g,G,i,q,Z,c,l,Z,(xq1 Z ?_)⟩;rw[j];exact SX Z (xq1 Z k)
end
def Sol(G:Gv)(s:Nat):Nat->Nat->Prop
|0,n=>n=s
|l+1,n=>∃m:Nat,Sol G s l m/\G[n]?=some ⟨[(m:Int),(m:Int),(m:Int),(m:Int)],(l:Int)+1⟩
theorem Sol.lev{G:Gv}(h:GOk G){s:Nat}(a:s<8):∀{l n:Nat},Sol G s l n->An G n l
|0,n,e=>by
 have e:n=s:=e;subst e;exact⟨_,h.leaf n a,Z⟩
|l+1,n,e=>by
 obtain⟨m,_,e⟩:=e;exact⟨_,e,Z⟩
theorem Sol.goes{G a:Gv}{k:Nat}(h:AR G a k){s:Nat}:∀{l n:Nat},Sol G s l n->Sol a s l n
|0,n,e=>e
|l+1,n,e=>by
 obtain⟨m,b,c⟩:=e;exact⟨m,Sol.goes h b,h.get c⟩
section
variable{P:N_}{w:Q_}{K:O_}{mg:C_}{base:T_}{a:Ad}
inductive WB(a:Ad)(vs:List V)(H:Hp)(Q:VK):Prop
|mk (g:GA) (G:Gv) (x y z w:Nat) (l:Int) (_:vs=[.ref g.p,.int x,.int y,.int z,.int w]) (_:AE a H g G) (_:GOk G) (_:(An G x l/\An G y l/\An G z l/\An G w l)) (_:l<=47) (_:G.length<9000000) (_:∀(n:Nat)(G':Gv)(H':Hp),Fr g H H'->AE a H' g G'->AR G G' 1->G'[n]?=some ⟨[(x:Int),(y:Int),(z:Int),(w:Int)],l+1⟩->Q (.int n) H'):WB a vs H Q
def Js(a:Ad):Sp:=λvs H Q _=>WB a vs H Q
theorem ok_join(F:Fun K "joined" "Grove.joined" DO f fd)(T:Top K mg a)(aI:BD P w K mg base CX0 2 a.c_Grove "check_square" IR (Sr a))(a9:BD P w K mg base CX0 2 a.c_Grove "linked" Br (EZ a)):AT P w K mg base CX0 4 f fd BX (Js a):=by
 refine F.ok EF D_9 λab A aa s H vs Q E hr h=>?_
 obtain⟨g,G,x,y,z,w,l,rfl,hg,ok,⟨Y,hy,hz,X⟩,O,few,k⟩:=h;refine⟨_,(Ae (BQ Y5 Z (Jx (CD (Aa (pv 1) (Aa (pv 2) (Aa (pv 3) (Aa (pv 4) Ab)))))) (AN (i:=5) EF.nd Z O_9) (Af (Ba (Aw (pv 0) aI (rm hr) Ao (Aa (pv 5) Ab))))) (Ae (Av (i:=6) EF.nd Z (Or.inr Z) (Ah Au (AK (pv 0) Z) (pv 1) R_9)) (Ae (AS (PW.pt (Ir (AF Ci (pv 6) (CS Z T.k_TOP_LEVEL) (AI _)) (Ft (Cv (AU (Wj Z) Z T.b_any PyProof.Rows.boot_any (Aa (BZ Z (Bn.of (So:=Ai DO) (No:=IQ) (N:=["square","self","level"]) (k:=1) (cs:=[0,6]) Z Z A0) (Jx (CD (Aa (pv 2) (Aa (pv 3) (Aa (pv 4) Ab))))) (λ_ _ _=>(AY (i:=0) A0 Z Z)) (λ_ _ _=>BB) (λ_ _ _=>(Do Iu (Ah (IT (K:=K) Z) (Pu (K:=K) Z (pv 1) Z) (pv 0) R_9) (pv 2) (AI _)))) Ab)))))) (Af BT) AD) (Af (Ax (Aw (pv 0) a9 (rm hr) Ao (BC (Aa (pv 1) (Aa (pv 2) (Aa (pv 3) (Aa (pv 4) Ab)))) Ab))))))),?_⟩
 try dsimp only[cxK]
 refine xw3 Z Z Z (xq1 Z ⟨S_4,λI S=>⟨I,Z,⟨_,SqT.of Ag⟩,?_⟩⟩);have s1:=CP (o:=.tup [.int x,.int y,.int z,.int w]) S;have j:upd H I (.tup [.int x,.int y,.int z,.int w]) I=some (.tup [.int x,.int y,.int z,.int w]):=Ag;generalize upd H I (.tup [.int x,.int y,.int z,.int w])=M at s1 j⊢;have b:=hg.same s1;have mem:∀(i:Nat) v,[V.int (x:Int),V.int (y:Int),V.int (z:Int),V.int (w:Int)][i]?=some v->∃n:Nat,v=.int n/\n<G.length:=λi v e=>by
  have:=D6 e;simp only[D1,J9,Z7]at this;rcases this with rfl|rfl|rfl|rfl
  .exact⟨x,Z,Y.lt⟩
  .exact⟨y,Z,hy.lt⟩
  .exact⟨z,Z,hz.lt⟩
  .exact⟨w,Z,X.lt⟩
 refine Td (xs:=[.int x,.int y,.int z,.int w]) (λi σ r=>M=r/\∃u5:Option V,σ=[some (.ref g.p),some (.int x),some (.int y),some (.int z),some (.int w),u5,none]) ⟨Z,none,Z⟩ (λi σ r _ q=>q.1▸SqT.of j) ?_ ?_
 .rintro i v σ r D ⟨rfl,u5,rfl⟩;obtain⟨n,rfl,hn⟩:=mem i v D;exact xwn Z Z b.hp (QK g) Z ⟨g,G,n,Z,b,hn,Z,_,Z⟩
 .rintro σ r ⟨rfl,u5,rfl⟩;obtain⟨qx,ex,lx⟩:=id Y;refine xwf Z Z b.hp T.cl_Grove T.na_Grove_levels (Gy g) (xwi Z Z Z (SqL.of b.lv) (show atI _ _=some (V.int l) by rw[<-lx];exact Am (by rw[C7,ex];rfl)) ?_);refine xq1 Z ⟨Z,(xq1 Z ?_)⟩;rw[W3 (by intro z;injection z with z;lia)];refine Bl (xw3 Z Z Z ⟨(by show 3<=sizeLine;decide),λL U=>⟨L,Z,⟨_,SqT.of Ag⟩,?_⟩⟩);have s2:=CP (o:=.tup [.int y,.int z,.int w]) U;have m:upd M L (.tup [.int y,.int z,.int w]) L=some (.tup [.int y,.int z,.int w]):=Ag;generalize upd M L (.tup [.int y,.int z,.int w])=r at s2 m⊢;have d:=b.same s2;have B:∀(i:Nat) v,[V.int (y:Int),V.int (z:Int),V.int (w:Int)][i]?=some v->∃(n:Nat)(q:Sq),v=.int n/\G[n]?=some q/\q.lev=l:=λi v e=>by
   have:=D6 e;simp only[D1,J9,Z7]at this;rcases this with rfl|rfl|rfl
   .obtain⟨q,t,u⟩:=hy;exact⟨y,q,Z,t,u⟩
   .obtain⟨q,t,u⟩:=hz;exact⟨z,q,Z,t,u⟩
   .obtain⟨q,t,u⟩:=X;exact⟨w,q,Z,t,u⟩
  refine Lw (xs:=[.int y,.int z,.int w]) (λi c C=>r=C/\c=(List.replicate i false).map V.bl/\i<=3) ⟨Z,Z,by lia⟩ (λi c C _ z=>z.1▸SqT.of m) ?_ ?_
  .rintro i v c C D ⟨rfl,rfl,h3⟩;obtain⟨n,q,rfl,en,lq⟩:=B i v D;have hi:i<3:=(B9.mp D).1;refine⟨⟨[some (.int n)],Z,Z⟩,by rw[B8,O3];exact Jr A1,EQ (xwf Z Z d.hp T.cl_Grove T.na_Grove_levels (Gy g) (xwi Z Z Z (SqL.of d.lv) (show atI _ _=some (V.int l) by rw[<-lq];exact Am (by rw[C7,en];rfl)) (xq1 Z ⟨Z,Z,?_,hi⟩)))⟩;rw[W1 rfl,List.replicate_succ',C0];rfl
  .rintro c C ⟨rfl,rfl,_⟩ q hq;refine⟨q,List.replicate 3 false,Z,SqL.of Ag,(xq1 Z (Bl ?_))⟩;have s3:=CP (o:=.lst ((List.replicate 3 false).map V.bl)) hq;refine xq1 Z ⟨g.p,g.dx,(xq1 Z ⟨(d.same s3).hp,Dw g,(xw3 Z Z Z (xq1 Z ⟨S_4,λt4 W=>?_⟩))⟩)⟩;have s4:=s3.trans (CP (o:=.tup [.int x,.int y,.int z,.int w]) W);exact⟨g,G,t4,x,y,z,w,l,Z,d.same s4,ok,Ag,⟨Y,hy,hz,X⟩,O,few,λn G' H' fr R go e=>k n G' H' ((Az.fr (s1.trans (s2.trans s4))).trans fr) R go e⟩
inductive Tm(a:Ad)(vs:List V)(H:Hp)(Q:VK):Prop
|mk (g:GA) (G:Gv) (l s:Nat) (_:vs=[.ref g.p,.int l,.int s]) (_:AE a H g G) (_:GOk G) (_:l<=48) (_:s<8) (_:G.length<8000000) (_:∀(n:Nat)(G':Gv)(H':Hp),Fr g H H'->AE a H' g G'->AR G G' l->Sol G' s l n->Q (.int n) H'):Tm a vs H Q
def MF(a:Ad):Sp:=λvs H Q _=>Tm a vs H Q
theorem Vy(F:Fun K "solid" "Grove.solid" Gg f fd)(T:Top K mg a)(O:Cal P w K mg base CX0 1 "is_whole" RE TH)(N:BD P w K mg base CX0 3 a.c_Grove "leaf" PQ (MW a))(M:BD P w K mg base CX0 2 a.c_Grove "linked" Br (EZ a)):AT P w K mg base CX0 4 f fd Ex (MF a):=by
 refine F.ok DJ D_9 λR A C s H vs Q E B h=>?_
 obtain⟨g,G,l,v,rfl,I,ok,S,U,few,k⟩:=h;refine⟨_,(Ae (AS (PW.pt (Ir (CB (Cv (AB O (rm B) Z Ao (Aa (pv 1) Ab)))) (Ft (CB (JU Ld Ld Ac (pv 1) (CS Z T.k_TOP_LEVEL)))))) (Af BT) AD) (Ae (Av (i:=3) DJ.nd Z O_9 (Aw (pv 0) N (rm B) Ao (Aa (pv 2) Ab))) (Ae (BQ Y5 Z (Ce Z T.b_range (Aa (pv 1) Ab)) (AN (i:=4) DJ.nd Z O_9) (Af (Av (i:=3) DJ.nd Z O_9 (Aw (pv 0) M (rm B) Ao (BC (Aa (pv 3) (Aa (pv 3) (Aa (pv 3) (Aa (pv 3) Ab)))) Ab))))) (Af (Ax (pv 3)))))),?_⟩
 try dsimp only[cxK]
 refine⟨_,Z,_,Z,true,Z,Bl ⟨_,Z,_,_,Z,Z,_,Z,?_⟩⟩;rw[W1 (by lia:(0:Int)<=(l:Int))];refine CT (xq2 Z Z (xq1 Z ?_));rw[W1 (by lia:(l:Int)<=(48:Int))];refine Bl (xwn Z Z I.hp (MJ g) Z ⟨g.p,(v:Int),Z,by lia,by lia,?_⟩);refine xw2 Z Z ⟨by lia,by lia,?_⟩;rw[N3];refine CM (n:=l) (λi σ j=>∃(c:Gv)(m:Nat)(D:Option V),σ=[some (.ref g.p),some (.int l),some (.int v),some (.int m),D]/\Fr g H j/\AE a j g c/\AR G c i/\Sol c v i m) ⟨G,v,none,Z,Fr.refl g H,I,AR.refl ok,Z⟩ ?_ ?_
 .rintro i σ j Y ⟨c,m,D,rfl,fr,b,d,u⟩;have lf:=d.few;have r:=Sol.lev d.ok U u;refine xwn Z Z b.hp (Dw g) Z (xw3 Z Z Z ⟨S_4,λt W=>?_⟩);have L:=CP (o:=.tup [.int m,.int m,.int m,.int m]) W;refine⟨g,c,t,m,m,m,m,(i:Int),Z,b.same L,d.ok,Ag,⟨r,r,r,r⟩,by lia,by lia,λn x X y z q e=>?_⟩;exact⟨x,n,(xq1 Z ⟨(fr.trans (Az.fr L)).trans y,z,d.trans q,m,Sol.goes q u,e⟩)⟩
 .rintro σ j ⟨c,m,D,rfl,fr,b,d,u⟩;exact xq1 Z (k m c j fr b d u)
end
end J
namespace J
open PySem L2
noncomputable def bareN:Nat->Nat
|0=>0
|j+1=>8+j
noncomputable def Dy(n:Nat):Gv:=(List.range n).map λ(s:Nat)=>(⟨[(s:Int)],0⟩:Sq)
noncomputable def FI(n:Nat):Gv:=(List.range n).map λ(j:Nat)=>(⟨[(bareN j:Int),(bareN j:Int),(bareN j:Int),(bareN j:Int)],(j:Int)+1⟩:Sq)
noncomputable def G0:Gv:=Dy 8++FI 48
theorem RN(n:Nat):Dy (n+1)=Dy n++[⟨[(n:Int)],0⟩]:=by unfold Dy;rw[M9,C0];rfl
theorem NV(n:Nat):FI (n+1)=FI n++[⟨[(bareN n:Int),(bareN n:Int),(bareN n:Int),(bareN n:Int)],(n:Int)+1⟩]:=by unfold FI;rw[M9,C0];rfl
theorem EY(n:Nat):(Dy n).length=n:=by unfold Dy;rw[B8,M0]
theorem OV(n:Nat):(FI n).length=n:=by unfold FI;rw[B8,M0]
theorem UC{i j:Nat}(h:bareN i=bareN j):i=j:=by
 cases i<;>cases j
 .rfl
 .have:0=8+_:=h;lia
 .have:8+_=0:=h;lia
 .have:8+_=8+_:=h;lia
theorem Uf(n:Nat):∀q∈Dy n,q.parts≠[(n:Int)]:=λq a z=>by
 obtain⟨s,b,rfl⟩:=D7.mp a;have:=J8.mp b;injection z with z _
 have:s=n:=K1 z;lia
theorem OU(n:Nat):∀q∈Dy 8++FI n,q.parts≠[(bareN n:Int),(bareN n:Int),(bareN n:Int),(bareN n:Int)]:=λq a z=>by
 rcases D3.mp a with a|a
 .obtain⟨s,b,rfl⟩:=D7.mp a;cases z
 .obtain⟨s,b,rfl⟩:=D7.mp a;have:=J8.mp b;injection z with z _
  have:=UC (K1 z);lia
theorem Qe:G0.length=56:=by unfold G0;rw[C6,EY,OV]
theorem Qf(j:Nat)(h:j<48):G0[8+j]?=some ⟨[(bareN j:Int),(bareN j:Int),(bareN j:Int),(bareN j:Int)],(j:Int)+1⟩:=by
 unfold G0;rw[F1 (by rw[EY];lia),EY,show 8+j-8=j by lia];unfold FI;rw[C7,O4 h];rfl
theorem Tb(s:Nat)(h:s<8):G0[s]?=some ⟨[(s:Int)],0⟩:=by
 unfold G0;rw[J3 (by rw[EY];exact h)];unfold Dy;rw[C7,O4 h];rfl
theorem g0_lev(j:Nat)(h:j<=48):An G0 (bareN j) (j:Int):=by
 cases j with
 |zero=>exact⟨_,Tb 0 A3,Z⟩
 |succ j=>exact⟨_,Qf j A1,Z⟩
theorem g0_nd:∀n,((Dy 8++FI n).map Sq.parts).Nodup
|0=>by decide
|n+1=>by
 rw[NV,<-O2,C0,N5];refine⟨g0_nd n,by simp,λp b d a=>?_⟩;obtain⟨q,c,rfl⟩:=D7.mp b;rw[show d=[(bareN n:Int),(bareN n:Int),(bareN n:Int),(bareN n:Int)] by simpa using a];exact OU n q c
theorem g0_ok:GOk G0 where
 leaf:=Tb
 node:=λi q e a=>by
  have b:i<56:=by rw[<-Qe];exact(B9.mp e).1
  obtain⟨j,rfl⟩:∃j,i=8+j:=⟨i-8,by lia⟩
  rw[Qf j A1]at e;cases e;have:=g0_lev j A1;refine⟨bareN j,bareN j,bareN j,bareN j,Z,?_,?_,?_⟩
  .show An G0 _ ((j:Int)+1-1)/\An G0 _ ((j:Int)+1-1)/\An G0 _ ((j:Int)+1-1)/\An G0 _ ((j:Int)+1-1);rw[show(j:Int)+1-1=(j:Int) by lia];exact⟨this,this,this,this⟩
  .show 1<=(j:Int)+1;lia
  .show(j:Int)+1<=48;lia
 nd:=g0_nd 48
noncomputable def amK(n:Nat):List (Key×V):=(List.range n).map λ(s:Nat)=>(Sum.inl (s:Int),V.int (if(1:Int)<(s:Int)then 1 else(s:Int)))
theorem Rk(n:Nat):amK (n+1)=amK n++[(Sum.inl (n:Int),V.int (if(1:Int)<(n:Int)then 1 else(n:Int)))]:=by unfold amK;rw[M9,C0];rfl
theorem amK_len(n:Nat):(amK n).length=n:=by unfold amK;rw[B8,M0]
theorem OX{κ:Type}[DecidableEq κ]{k:κ}:∀{l m:List (κ×V)},BP l k=none->BP (l++m) k=BP m k
|[],_,_=>rfl
|p::r,m,h=>by
 by_cases e:p.1=k
 .rw[BS e]at h;cases h
 .rw[Bv e]at h;show BP (p::(r++m)) k=_;rw[Bv e];exact OX h
theorem Wn(n:Nat):∀m,n<=m->BP (amK n) (Sum.inl (m:Int))=none:=by
 induction n with
 |zero=>intro m _;rfl
 |succ n a =>
  intro m b;rw[Rk,OX (a m A1),Bv (by intro z;injection z with z;have:=K1 z;lia)];rfl
noncomputable def DZ(n:Nat):List Int:=(List.range (n+1)).map λj=>((bareN j:Nat):Int)
theorem NW(n:Nat):DZ (n+1)=DZ n++[((bareN (n+1):Nat):Int)]:=by unfold DZ;rw[M9,C0];rfl
theorem RZ(n:Nat):(DZ n).getLast?=some ((bareN n:Nat):Int):=by
 cases n with
 |zero=>rfl
 |succ n=>rw[NW,R8];rfl
theorem Lx{xs:List V}{x:V}(h:xs.getLast?=some x):atI xs (-1)=some x:=by
 obtain⟨ys,rfl⟩:=List.getLast?_eq_some_iff.mp h;unfold atI ixN;rw[W4 A3,W9 (by rw[C6,N6];lia)];show(ys++[x])[((-1:Int)+((ys++[x]).length:Nat)).toNat]?=some x;rw[C6,N6,show((-1:Int)+((ys.length+1:Nat):Int)).toNat=ys.length by lia,F1 (C9 _),O8];rfl
seal L2.PA L2.PE L2.PS L2.PSs L2.PT L2.PW
structure WF(a:Ad)(H H':Hp)(g:GA)(G:Gv)(B:I_)(am:List (Key×V)):Prop where
kp:∀b o,H b=some o->b≠g.p->H' b=some o
at':AE a H' g G
br:H' g.br=some (.lst (B.map V.int))
am:H' g.am=some (.dK am)
bx:H' g.bx=some (.dK [])
fresh:H g.lv=none/\H g.pt=none/\H g.nm=none/\H g.br=none/\H g.am=none/\H g.bx=none
n1:g.br≠g.lv
n2:g.br≠g.pt
n3:g.am≠g.bx
section
variable{P:N_}{w:Q_}{K:O_}{mg:C_}{base:T_}{a:Ad}
inductive Tu(a:Ad)(vs:List V)(H:Hp)(Q:VK):Prop
|mk (p dx:R_) (_:vs=[.ref p]) (_:H p=some (.ins a.c_Grove dx [])) (_:∀(g:GA)(H':Hp),g.p=p->WF a H H' g G0 (DZ 48) (amK 8)->Q .non H'):Tu a vs H Q
def Pg(a:Ad):Sp:=λvs H Q _=>Tu a vs H Q
theorem VB(F:Fun K "__init__" "Grove.__init__" GX f fd)(T:Top K mg a)(aV:BD P w K mg base CX0 1 a.c_Grove "kept" EU (Pe a)):AT P w K mg base CX0 2 f fd Ig (Pg a):=by
 refine F.ok Ep D_9 λaw A au s H vs Q E hr h=>?_
 obtain⟨p,r,rfl,hp,k⟩:=h;refine⟨_,(Ae (CC (pv 0) (Bq Ab) Z) (Ae (CC (pv 0) (Bq Ab) Z) (Ae (CC (pv 0) IF Z) (Ae (CC (pv 0) (Bq (AJ Ab)) Z) (Ae (CC (pv 0) JX Z) (Ae (CC (pv 0) JX Z) (Ae (BQ Y5 Z (Ce Z T.b_range (Aa (CS Z T.k_STATES) Ab)) (AN (i:=1) Ep.nd Z O_9) (Ae (Ba (Aw (pv 0) aV (rm hr) Ao (BC (Aa (pv 1) Ab) (AJ Ab)))) (Af (FT (DY hr) (AK (pv 0) Z) (pv 1) (AU (Uz Z) Z T.b_min PyProof.Rows.boot_min (Aa (pv 1) (AJ Ab))) Z)))) (Af (BQ Y5 Z (LM Z T.b_range (AJ (BI Be (CS Z T.k_TOP_LEVEL) Ac Ab))) (AN (i:=2) Ep.nd Z O_9) (Ae (Av (i:=3) Ep.nd Z O_9 (Ah Au (AK (pv 0) Z) (JV GL Ac) R_9)) (Af (Ba (Cf W5 W6 W7 Bd (AK (pv 0) Z) (Aa (Aw (pv 0) aV (rm hr) Ao (BC (Aa (pv 3) (Aa (pv 3) (Aa (pv 3) (Aa (pv 3) Ab)))) (Aa (pv 2) Ab))) Ab)))))))))))))),?_⟩
 try dsimp only[cxK]
 have stp:∀{B:Hp}{x:R_}{o:HO}{fs fs':List (Str×V)},B p=some (.ins a.c_Grove r fs)->B x=none->(∀b v,B b=some v->b≠p->upd (upd B x o) p (.ins a.c_Grove r fs') b=some v)/\upd (upd B x o) p (.ins a.c_Grove r fs') x=some o/\upd (upd B x o) p (.ins a.c_Grove r fs') p=some (.ins a.c_Grove r fs')/\upd B x o p=some (.ins a.c_Grove r fs):=λ{B x o fs fs'} e1 e2=>by
  have n:x≠p:=λz=>by rw[z,e1]at e2;cases e2
  exact⟨λb v e nb=>by rw[Ar nb,Ar (Aj e e2)];exact e,by rw[Ar n];exact Ag,Ag,by rw[Ar (W8 n)];exact e1⟩
 refine AO ?_;intro M O k_ m I;refine⟨S_0,λG ac=>?_⟩;obtain⟨k1,x1,p1,q1⟩:=stp (o:=.lst []) (fs':=AW "levels" (.ref G) []) hp ac;refine xq1 Z ⟨p,_,r,[],Z,q1,T.cl_Grove,T.na_Grove_levels,B3,?_⟩;show k_ _ _;generalize upd (upd H G _) p _=H1 at k1 x1 p1⊢;refine m ?_;refine AO ?_;intro M O k_ m I;refine⟨S_0,λpt ab=>?_⟩;obtain⟨k2,x2,p2,q2⟩:=stp (o:=.lst []) (fs':=AW "parts" (.ref pt) (AW "levels" (.ref G) [])) p1 ab;refine xq1 Z ⟨p,_,r,(xq1 Z ⟨q2,T.cl_Grove,T.na_Grove_parts,B5,?_⟩)⟩;show k_ _ _;generalize upd (upd H1 pt _) p _=H2 at k2 x2 p2⊢;refine m ?_;refine AO ?_;intro M O k_ m I;intro R ad;obtain⟨k3,x3,p3,q3⟩:=stp (o:=.dT []) (fs':=AW "numbers" (.ref R) (AW "parts" (.ref pt) (AW "levels" (.ref G) []))) p2 ad;refine xq1 Z ⟨p,_,r,(xq1 Z ⟨q3,T.cl_Grove,T.na_Grove_numbers,(by show 2<1000;decide),?_⟩)⟩;show k_ _ _;generalize upd (upd H2 R _) p _=H3 at k3 x3 p3⊢;refine m ?_;refine AO ?_;intro M O k_ m I;refine⟨S_1,λS l=>?_⟩;obtain⟨k4,x4,p4,q4⟩:=stp (o:=.lst [.int 0]) (fs':=AW "bares" (.ref S) (AW "numbers" (.ref R) (AW "parts" (.ref pt) (AW "levels" (.ref G) [])))) p3 l;refine xq1 Z ⟨p,_,r,(xq1 Z ⟨q4,T.cl_Grove,T.na_Grove_bares,(by show 3<1000;decide),?_⟩)⟩;show k_ _ _;generalize upd (upd H3 S _) p _=H4 at k4 x4 p4⊢;refine m ?_;refine AO ?_;intro M O k_ m I;intro Y L;obtain⟨k5,x5,p5,q5⟩:=stp (o:=.dK []) (fs':=AW "amounts" (.ref Y) (AW "bares" (.ref S) (AW "numbers" (.ref R) (AW "parts" (.ref pt) (AW "levels" (.ref G) []))))) p4 L;refine xq1 Z ⟨p,_,r,(xq1 Z ⟨q5,T.cl_Grove,T.na_Grove_amounts,(by show 4<1000;decide),?_⟩)⟩;show k_ _ _;generalize upd (upd H4 Y _) p _=H5 at k5 x5 p5⊢;refine m ?_;refine AO ?_;intro M O k_ m I;intro bx D;obtain⟨k6,x6,p6,q6⟩:=stp (o:=.dK []) (fs':=fl6 ⟨p,r,G,pt,R,S,Y,bx⟩) p5 D;refine xq1 Z ⟨p,_,r,(xq1 Z ⟨q6,T.cl_Grove,T.na_Grove_boxes,(by show 5<1000;decide),?_⟩)⟩;show k_ _ (upd (upd H5 bx (.dK [])) p (.ins a.c_Grove r (fl6 ⟨p,r,G,pt,R,S,Y,bx⟩)));generalize upd (upd H5 bx _) p _=H6 at k6 x6 p6⊢;refine m ?_;have al:∀b v,H1 b=some v->b≠p->H6 b=some v:=λb v e n=>k6 _ _ (k5 _ _ (k4 _ _ (k3 _ _ (k2 _ _ e n) n) n) n) n;have an:∀b v,H2 b=some v->b≠p->H6 b=some v:=λb v e n=>k6 _ _ (k5 _ _ (k4 _ _ (k3 _ _ e n) n) n) n;have ao:∀b v,H3 b=some v->b≠p->H6 b=some v:=λb v e n=>k6 _ _ (k5 _ _ (k4 _ _ e n) n) n;have ap:∀b v,H4 b=some v->b≠p->H6 b=some v:=λb v e n=>k6 _ _ (k5 _ _ e n) n;have np:∀{B:Hp}{x:R_}{fs:List (Str×V)},B p=some (.ins a.c_Grove r fs)->B x=none->x≠p:=λ{B x fs} e1 e2 z=>by rw[z,e1]at e2;cases e2
 have no:∀{B Hm:Hp}{x y:R_}{v:HO},B x=some v->B y=none->x≠y:=λ{B Hm x y v} e1 e2=>Aj e1 e2;have ae:=np hp ac;have af:=np p1 ab;have aj:=np p2 ad;have ai:=np p3 l;have ah:=np p4 L;have ar:=np p5 D;have y1:=al _ _ x1 ae;have y2:=an _ _ x2 af;have y3:=ao _ _ x3 aj;have y4:=ap _ _ x4 ai;have y5:=k6 _ _ x5 ah;have C:∀{B:Hp}{x:R_},(∀b v,H b=some v->b≠p->B b=some v)->x≠p->B x=none->H x=none:=λ{B x} kp n e=>by
  cases h:H x with
  |none=>rfl
  |some v=>rw[kp _ _ h n]at e;cases e
 have c2:∀b v,H b=some v->b≠p->H2 b=some v:=λb v e n=>k2 _ _ (k1 _ _ e n) n;have c3:∀b v,H b=some v->b≠p->H3 b=some v:=λb v e n=>k3 _ _ (c2 _ _ e n) n;have c4:∀b v,H b=some v->b≠p->H4 b=some v:=λb v e n=>k4 _ _ (c3 _ _ e n) n;have c5:∀b v,H b=some v->b≠p->H5 b=some v:=λb v e n=>k5 _ _ (c4 _ _ e n) n;have c6:∀b v,H b=some v->b≠p->H6 b=some v:=λb v e n=>k6 _ _ (c5 _ _ e n) n;have d1:G≠pt:=Aj x1 ab;have d2:S≠G:=W8 (Aj (k3 _ _ (k2 _ _ x1 ae) ae) l);have d3:S≠pt:=W8 (Aj (k3 _ _ x2 af) l);have d4:Y≠bx:=Aj x5 D;have N0:WF a H H6 ⟨p,r,G,pt,R,S,Y,bx⟩ (Dy 0) (DZ 0) (amK 0):=⟨c6,⟨p6,y1,⟨[],y2,.nil⟩,y3,d1⟩,y4,y5,x6,⟨ac,C k1 af ab,C c2 aj ad,C c3 ai l,C c4 ah L,C c5 ar D⟩,d2,d3,d4⟩
 have k':=k ⟨p,r,G,pt,R,S,Y,bx⟩;have gp:(⟨p,r,G,pt,R,S,Y,bx⟩:GA).p=p:=rfl;generalize (⟨p,r,G,pt,R,S,Y,bx⟩:GA)=g at N0 k' gp;subst gp;clear k p6 q6 q5 q4 q3 q2 q1 y1 y2 y3 y4 y5 x6 c6 c5 c4 c3 c2 al an ao ap k1 k2 k3 k4 k5 k6 x1 x2 x3 x4 x5 p1 p2 p3 p4 p5 d1 d2 d3 d4 ae af aj ai ah ar D L l ad ab ac C no np stp;refine⟨8,Z,by decide,by decide,?_⟩;refine CM (n:=8) (λi σ H7=>∃u1:Option V,σ=[some (.ref g.p),u1,none,none]/\WF a H H7 g (Dy i) (DZ 0) (amK i)) ⟨none,Z,N0⟩ ?_ ?_
 .rintro i σ H7 hi ⟨u1,rfl,N⟩;obtain⟨kp,at',l,L,D,fresh,n1,n2,n3⟩:=N;have cl:(i:Int)=0+(i:Int):=(T5 _).symm;refine xq1 Z ⟨g.p,g.dx,(xq1 Z ⟨at'.hp,PB g,(xq1 Z ⟨S_1,λt ht=>?_⟩)⟩)⟩;have s1:=CP (o:=.tup [.int (0+(i:Int))]) ht;refine⟨g,Dy i,t,[0+(i:Int)],0,Z,at'.same s1,Ag,by rw[<-cl];exact Uf i,by rw[EY];lia,λX fr u=>?_⟩;rw[<-cl,<-RN]at u;have U:Fr g H7 X:=(Az.fr s1).trans fr;obtain⟨ts,h3,h4⟩:=at'.pt;have kd:∀(b:R_)(W:List (Key×V)),H7 b=some (.dK W)->X b=some (.dK W):=λb W e=>U _ _ e (Aq e at'.lv A2) (Aq e h3 A2) (Aq e at'.nm A2);have ag:=kd _ _ L;refine xq1 Z ⟨_,_,Z,(xwf Z Z u.hp T.cl_Grove T.na_Grove_amounts (fl6_am g) (xq1 Z ⟨g.am,(xq1 Z ⟨LB.k (k:=Sum.inl (0+(i:Int))) ag (by rw[amK_len];exact Jr A1),?_⟩)⟩))⟩;rw[<-cl,IE _ (Wn i i (C9 _)),<-Rk];have d:∀{b:R_}{v:HO},X b=some v->b≠g.am->upd X g.am (.dK (amK (i+1))) b=some v:=λ{b v} e n=>by rw[Ar n];exact e
  have na:∀{b:R_}{v:HO},X b=some v->v≠.dK (amK i)->b≠g.am:=λ{b v} e n=>Aq e ag n;obtain⟨av,aq,as⟩:=u.pt;refine xq1 Z ⟨?_,⟨d u.hp (na u.hp A2),d u.lv (na u.lv A2),⟨av,d aq (na aq A2),PairedM.imp (λc q z=>d z (na z A2)) as⟩,d u.nm (na u.nm A2),u.ne⟩,?_,Ag,?_,fresh,n1,n2,n3⟩
  .intro b v e nb;have e8:X b=some v:=U _ _ (kp _ _ e nb) (Aj e fresh.1) (Aj e fresh.2.1) (Aj e fresh.2.2.1);exact d e8 (Aj e fresh.2.2.2.2.1)
  .have e8:X g.br=_:=U _ _ l n1 n2 (Aq l at'.nm A2);exact d e8 (na e8 A2)
  .exact d (kd _ _ D) (W8 n3)
 .rintro σ H7 ⟨u1,rfl,N⟩;refine xq2 Z Z ⟨1,49,Z,⟨by decide,by decide,by decide,by decide⟩,?_⟩;have N0:WF a H H7 g (Dy 8++FI 0) (DZ 0) (amK 8):=by rw[show Dy 8++FI 0=Dy 8 from P4 _];exact N
  clear N;refine CM (lo:=1) (n:=48) (λj σ X=>∃u2 u3:Option V,σ=[some (.ref g.p),u1,u2,u3]/\WF a H X g (Dy 8++FI j) (DZ j) (amK 8)) ⟨none,none,Z,N0⟩ ?_ ?_
  .rintro j σ X hj ⟨u2,u3,rfl,N⟩;obtain⟨kp,at',l,L,D,fresh,n1,n2,n3⟩:=N;refine xwf Z Z at'.hp T.cl_Grove T.na_Grove_bares (Qg g) (xwi Z Z Z (SqL.of l) (Lx (by rw[List.getLast?_map,RZ];rfl)) ?_);refine xwf Z Z at'.hp T.cl_Grove T.na_Grove_bares (Qg g) ⟨.inl ⟨Z,_,SqL.of l⟩,(xq1 Z ⟨g.p,g.dx,(xq1 Z ⟨at'.hp,PB g,(xw3 Z Z Z (xq1 Z ⟨S_4,λt ht=>(xq1 Z ?_)⟩))⟩)⟩)⟩;have s1:=CP (o:=.tup [.int (bareN j:Int),.int (bareN j:Int),.int (bareN j:Int),.int (bareN j:Int)]) ht;have ln:(Dy 8++FI j).length=8+j:=by rw[C6,EY,OV]
   refine⟨g,Dy 8++FI j,t,[(bareN j:Int),(bareN j:Int),(bareN j:Int),(bareN j:Int)],1+(j:Int),Z,at'.same s1,Ag,OU j,by rw[ln];lia,λH9 fr ak=>?_⟩;rw[show(1:Int)+(j:Int)=(j:Int)+1 by lia,O2,<-NV]at ak;have U:Fr g X H9:=(Az.fr s1).trans fr;obtain⟨ts,h3,h4⟩:=at'.pt;have kd:∀(b:R_)(W:List (Key×V)),X b=some (.dK W)->H9 b=some (.dK W):=λb W e=>U _ _ e (Aq e at'.lv A2) (Aq e h3 A2) (Aq e at'.nm A2);have aa:H9 g.br=_:=U _ _ l n1 n2 (Aq l at'.nm A2);refine⟨g.br,(xq2 Z Z ⟨aa,by rw[B8];unfold DZ;rw[B8,M0];exact Jr A1,?_⟩)⟩;have eb:(DZ j).map V.int++[V.int ((Dy 8++FI j).length:Int)]=(DZ (j+1)).map V.int:=by rw[NW,C0,ln];rfl
   rw[eb];have d:∀{b:R_}{v:HO},H9 b=some v->v≠.lst ((DZ j).map V.int)->upd H9 g.br (.lst ((DZ (j+1)).map V.int)) b=some v:=λ{b v} e n=>by rw[Ar (Aq e aa n)];exact e
   refine⟨_,_,Z,?_,ak.put aa n1 n2,Ag,d (kd _ _ L) A2,d (kd _ _ D) A2,fresh,n1,n2,n3⟩;intro b v e nb;rw[Ar (Aj e fresh.2.2.2.1)];exact U _ _ (kp _ _ e nb) (Aj e fresh.1) (Aj e fresh.2.1) (Aj e fresh.2.2.1)
  .rintro σ X ⟨u2,u3,rfl,N⟩;exact k' X Z N
end
structure MA where
tp:Addr
l:Addr
kc:Addr
ds:List Addr
noncomputable def jf2(gp mem:R_):List (Str×V):=AW "memories" (.ref mem) (AW "grove" (.ref gp) [])
noncomputable def jf5(gp mem pr l kc:R_):List (Str×V):=AW "known_cells" (.ref kc) (AW "known_squares" (.ref l) (AW "rule" (.ref pr) (jf2 gp mem)))
theorem jf2_mem(a mem:R_):(jf2 a mem).lookup ("memories" : Str)=some (V.ref mem):=by
 unfold jf2;rw[Ak,W9 rfl]
theorem VT(a mem:R_){m:Str}(b:¬m=("memories" : Str))(c:¬m=("grove" : Str)):(jf2 a mem).lookup m=none:=by
 unfold jf2;rw[Ak,W4 b,Ak,W4 c];rfl
section
variable(gp mem pr l kc:R_)
theorem VS:(jf5 gp mem pr l kc).lookup ("known_cells" : Str)=some (V.ref kc):=by
 unfold jf5;rw[Ak,W9 rfl]
theorem VR:(jf5 gp mem pr l kc).lookup ("known_squares" : Str)=some (V.ref l):=by
 unfold jf5;rw[Ak,W4 A0,Ak,W9 rfl]
theorem jf5_ru:(jf5 gp mem pr l kc).lookup ("rule" : Str)=some (V.ref pr):=by
 unfold jf5;rw[Ak,W4 A0,Ak,W4 A0,Ak,W9 rfl]
theorem SU:(jf5 gp mem pr l kc).lookup ("memories" : Str)=some (V.ref mem):=by
 unfold jf5 jf2;rw[Ak,W4 A0,Ak,W4 A0,Ak,W4 A0,Ak,W9 rfl]
theorem DV:(jf5 gp mem pr l kc).lookup ("grove" : Str)=some (V.ref gp):=by
 unfold jf5 jf2;rw[Ak,W4 A0,Ak,W4 A0,Ak,W4 A0,Ak,W4 A0,Ak,W9 rfl]
theorem En{m:Str}(a:¬m=("known_cells" : Str))(b:¬m=("known_squares" : Str))(c:¬m=("rule" : Str))(d:¬m=("memories" : Str))(e:¬m=("grove" : Str)):(jf5 gp mem pr l kc).lookup m=none:=by
 unfold jf5;rw[Ak,W4 a,Ak,W4 b,Ak,W4 c,VT _ _ d e]
theorem Ny:(jf5 gp mem pr l kc).lookup ("change" : Str)=none:=En _ _ _ _ _ A0 A0 A0 A0 A0
theorem OB:(jf5 gp mem pr l kc).lookup ("after" : Str)=none:=En _ _ _ _ _ A0 A0 A0 A0 A0
theorem OA:(jf5 gp mem pr l kc).lookup ("check_jump" : Str)=none:=En _ _ _ _ _ A0 A0 A0 A0 A0
theorem IL:(jf5 gp mem pr l kc).lookup ("reckoned" : Str)=none:=En _ _ _ _ _ A0 A0 A0 A0 A0
theorem Ua:(jf5 gp mem pr l kc).lookup ("fresh" : Str)=none:=En _ _ _ _ _ A0 A0 A0 A0 A0
theorem QL:(jf5 gp mem pr l kc).lookup ("four_halfway" : Str)=none:=En _ _ _ _ _ A0 A0 A0 A0 A0
theorem noJ_mid:(jf5 gp mem pr l kc).lookup ("middle_after" : Str)=none:=En _ _ _ _ _ A0 A0 A0 A0 A0
theorem VF:(jf5 gp mem pr l kc).lookup ("cell_after" : Str)=none:=En _ _ _ _ _ A0 A0 A0 A0 A0
theorem putN{f g:Str}{v x:V}{r:List (Str×V)}(h:¬g=f):AW f v ((g,x)::r)=(g,x)::AW f v r:=W4 h
theorem putE{f:Str}{v x:V}{r:List (Str×V)}:AW f v ((f,x)::r)=(f,v)::r:=W9 Z
theorem putZ{f:Str}{v:V}:AW f v []=[(f,v)]:=rfl
theorem NJ:jf5 gp mem pr l kc=[(("grove" : Str),V.ref gp),(("memories" : Str),V.ref mem),(("rule" : Str),V.ref pr),(("known_squares" : Str),V.ref l),(("known_cells" : Str),V.ref kc)]:=by
 unfold jf5 jf2
 repeat first|rw[putN A0]|rw[putE]|rw[putZ]
theorem ST(b c a:R_):AW "known_cells" (.ref a) (AW "known_squares" (.ref c) (AW "rule" (.ref b) (jf5 gp mem pr l kc)))=jf5 gp mem b c a:=by
 rw[NJ,NJ]
 repeat first|rw[putN A0]|rw[putE]|rw[putZ]
end
inductive Nv:HO->Prop
|tup {xs:List V}:Nv (.tup xs)
|ins {C dx:R_} {fs:List (Str×V)} (h1:1<=fs.length) (h2:fs.length<=3):Nv (.ins C dx fs)
theorem MG(f:Str)(v:V):∀fs:List (Str×V),1<=(AW f v fs).length
|[]=>C9 1
| (g,x)::r=>by
 unfold AW;split
 .rw[F7];lia
 .rw[F7];lia
theorem Dh.kp{a:Ad}{H e:Hp}{p:R_}{c:BE}(k:∀b o,H b=some o->Nv o->e b=some o)(h:Dh a H p c):Dh a e p c:=by
 cases h with
 |am h d=>exact .am (k _ _ h (.ins (MG _ _ _) (D4 (BM _ _ _) (R4 (D4 (BM _ _ _) (by show 0+1<=2;decide)))))) (k _ _ d .tup)
 |pl h d=>exact .pl (k _ _ h (.ins (MG _ _ _) (D4 (BM _ _ _) (by show 0+1<=3;decide)))) (k _ _ d .tup)
theorem BY.kp{a:Ad}{H d:Hp}{p:R_}{c:Bc}(k:∀b o,H b=some o->Nv o->d b=some o)(h:BY a H p c):BY a d p c:=by
 obtain⟨e,t,cs,f,g,i⟩:=h.ex;exact⟨e,t,cs,k _ _ f (.ins (MG _ _ _) (D4 (BM _ _ _) (R4 (D4 (BM _ _ _) (R4 (D4 (BM _ _ _) (by show 0+1<=1;decide))))))),k _ _ g .tup,Paired.imp (λ_ _ z=>z.kp k) i⟩
theorem BV.kp{a:Ad}{H c:Hp}{p:R_}{x:Str}{r:AA}(k:∀b o,H b=some o->Nv o->c b=some o)(h:BV a H p x r):BV a c p x r:=by
 obtain⟨d,t,cs,e,f,g⟩:=h.ex;exact⟨d,t,cs,k _ _ e (.ins (MG _ _ _) (D4 (BM _ _ _) (R4 (D4 (BM _ _ _) (by show 0+1<=2;decide))))),k _ _ f .tup,Paired.imp (λ_ _ z=>z.kp k) g⟩
noncomputable def mK(ms:List (Str×MA)):List (Key×V):=ms.map λe=>(Sum.inr e.1,V.ref e.2.tp)
theorem SN(t:Str):∀a:List (Str×MA),(∃m,(t,m)∈a/\BP (mK a) (Sum.inr t)=some (.ref m.tp))\/(BP (mK a) (Sum.inr t)=none/\∀e∈a,e.1≠t)
|[]=>.inr ⟨Z,λe d=>nomatch d⟩
|e::r=>by
 by_cases h:e.1=t
 .refine .inl ⟨e.2,?_,?_⟩
  .rw[<-h];exact D8
  .exact BS (p:=(Sum.inr e.1,V.ref e.2.tp)) (r:=mK r) (by rw[h])
 .have n:BP (mK (e::r)) (Sum.inr t)=BP (mK r) (Sum.inr t):=Bv (p:=(Sum.inr e.1,V.ref e.2.tp)) (r:=mK r) λz=>h (Sum.inr.inj z);rcases SN t r with ⟨m,b,c⟩|⟨b,c⟩
  .exact .inl ⟨m,D9 _ b,n.trans c⟩
  .refine .inr ⟨n.trans b,λx f=>?_⟩;rcases D1.mp f with z|z
   .rw[z];exact h
   .exact c x z
inductive UF(H H':Hp)(t:Str)(ms ms':List (Str×MA))(m:MA):Prop
|old (_:(t,m)∈ms) (_:ms'=ms):UF H H' t ms ms' m
|new (_:ms'=ms++[(t,m)]) (_:∀e∈ms,e.1≠t) (_:H m.tp=none/\H m.l=none/\H m.kc=none/\∀d∈m.ds,H d=none) (_:H' m.tp=some (.tup [.ref m.l,.ref m.kc])) (_:H' m.l=some (.lst (m.ds.map V.ref))) (_:H' m.kc=some (.dT [])) (_:∀d∈m.ds,H' d=some (.dK [])) (_:m.ds.length=47) (_:m.ds.Nodup):UF H H' t ms ms' m
section
variable{P:N_}{w:Q_}{K:O_}{mg:C_}{base:T_}{a:Ad}
inductive Wr(a:Ad)(vs:List V)(H:Hp)(Q:VK):Prop
|mk (p:R_) (t:Str) (r:AA) (_:vs=[.ref p]) (_:BV a H p t r) (_:Q (.str t) H):Wr a vs H Q
def Rt(a:Ad):Sp:=λvs H Q _=>Wr a vs H Q
theorem ok_show(F:Fun K "shown_rule" "shown_rule" GO f fd)(T:Top K mg a):AT P w K mg base CX0 1 f fd PF (Rt a):=by
 refine F.ok NZ D_9 λc A b s H vs Q E l h=>?_
 obtain⟨p,t,r,rfl,e,k⟩:=h;obtain⟨g,m,cs,d,i,j⟩:=e.ex;refine⟨_,(Af (Ax (AK (pv 0) Z))),?_⟩
 try dsimp only[cxK]
 exact xwf Z Z d T.cl_Rule T.na_Rule_text (Wa A0) k
inductive SpChg(a:Ad)(vs:List V)(H:Hp)(Q:VK):Prop
|mk (p dx mem pr:R_) (fs:List (Str×V)) (t:Str) (r:AA) (ms:List (Str×MA)) (_:vs=[.ref p,.ref pr]) (_:H p=some (.ins a.c_Jumps dx fs)) (_:fs.lookup ("memories" : Str)=some (.ref mem)) (_:fs.length<=10) (_:H mem=some (.dK (mK ms))) (_:ms.length<=1000) (_:∀e∈ms,H e.2.tp=some (.tup [.ref e.2.l,.ref e.2.kc])) (_:BV a H pr t r) (_:∀(H':Hp)(m:MA)(ms':List (Str×MA)),(∀b o,H b=some o->b≠p->b≠mem->H' b=some o)->H' p=some (.ins a.c_Jumps dx (AW "known_cells" (.ref m.kc) (AW "known_squares" (.ref m.l) (AW "rule" (.ref pr) fs))))->H' mem=some (.dK (mK ms'))->UF H H' t ms ms' m->Q .non H'):SpChg a vs H Q
def Ss(a:Ad):Sp:=λvs H Q _=>SpChg a vs H Q
theorem ok_chg(F:Fun K "change" "Jumps.change" DN f fd)(T:Top K mg a)(bV:Cal P w K mg base CX0 1 "shown_rule" PF (Rt a)):AT P w K mg base CX0 2 f fd DT (Ss a):=by
 refine F.ok Ip D_9 λav A au s H vs Q E hr h=>?_
 obtain⟨p,L,mem,C,fs,t,r,M,rfl,hp,D,aw,hm,few,tps,hR,k⟩:=h;refine⟨_,(Ae (Av (i:=2) Ip.nd Z O_9 (AB bV (rm hr) Z Ao (Aa (pv 1) Ab))) (Ae (AS (Pr (LR (DY hr) (pv 2) (AK (pv 0) Z))) (Af (FT (DY hr) (AK (pv 0) Z) (pv 2) (CD (Aa (BZ Z (Bn.of (So:=Ai DN) (No:=IP) (N:=["e"]) (k:=1) (cs:=[]) Z Z A0) (Ce Z T.b_range (BI BU (CS Z T.k_TOP_LEVEL) Ac Ab)) (λ_ _ _=>(AY (i:=0) A0 Z Z)) (λ_ _ _=>BB) (λ_ _ _=>JX)) (Aa IF Ab))) Z)) AD) (Ae (CC (pv 0) (pv 1) Z) (Ae (CC (pv 0) (Ah Ap (Pw (DY hr) (AK (pv 0) Z) (pv 2) R_9) Ac R_9) Z) (Af (CC (pv 0) (Ah Ap (Pw (DY hr) (AK (pv 0) Z) (pv 2) R_9) Ac R_9) Z)))))),?_⟩
 try dsimp only[cxK]
 have S:p≠mem:=Aq hp hm A2;refine xq1 Z ⟨C,t,r,Z,hR,?_⟩;apply Li (fun σ W=>σ=[some (.ref p),some (.ref C),some (.str t)]/\∃(m:MA)(I:List (Str×MA)),(∀b o,H b=some o->b≠mem->W b=some o)/\W mem=some (.dK (mK I))/\BP (mK I) (Sum.inr t)=some (.ref m.tp)/\W m.tp=some (.tup [.ref m.l,.ref m.kc])/\UF H W t M I m/\m.tp≠p/\(H m.tp=none->m.l≠p/\m.kc≠p/\∀d∈m.ds,d≠p))
 .intro U;refine xw2 Z Z (xq5 hp T.cl_Jumps T.na_Jumps_memories D ⟨mem,(xq1 Z ⟨FM.k (k:=Sum.inr t) hm,(xq1 Z ?_)⟩)⟩);rcases SN t M with ⟨m,m1,m2⟩|⟨no,nk⟩
  .rw[m2];refine Bl (U _ _ ⟨Z,m,M,λb o e _=>e,hm,m2,tps _ m1,.old m1 Z,Aq (tps _ m1) hp A2,λz=>?_⟩);rw[tps _ m1]at z;cases z
  .rw[no];refine CT ?_;refine xq2 Z Z (xq1 Z ⟨by decide,by decide,?_⟩);refine GH (n:=47) (λi Y X=>Az H X/\∃g:List Addr,Y=g.map V.ref/\g.length=i/\(∀d∈g,X d=some (.dK []))/\(∀d∈g,H d=none)/\g.Nodup) ⟨Az.refl H,[],Z,Z,λd c=>(nomatch c),λd c=>(nomatch c),.nil⟩ ?_ ?_
   .rintro i Y X hi ⟨sm,g,rfl,ln,c1,c2,nd⟩;refine⟨⟨[some (.int (0+(i:Int)))],Z,Z⟩,?_,EQ λd c=>⟨sm.trans (Al c),g++[d],by rw[C0];rfl,by rw[C6,ln];rfl,λx hx=>?_,λx hx=>?_,?_⟩⟩
    .rw[B8,ln];exact J6 hi A3
    .rcases D3.mp hx with z|z
     .exact Al c _ _ (c1 x z)
     .rw[C8.mp z];exact Ag
    .rcases D3.mp hx with z|z
     .exact c2 x z
     .rw[C8.mp z];exact Az.noneN sm c
    .rw[N5];refine⟨nd,by simp,λx hx y hy z=>?_⟩;rw[C8.mp hy]at z;rw[<-z,c1 x hx]at c;cases c
   .rintro Y X ⟨sm,g,rfl,ln,c1,c2,nd⟩ l hl;generalize cD:upd X l _=H3;obtain⟨s3,an⟩:=alc hl cD;intro B ad;generalize cP:upd H3 B _=H4;obtain⟨s4,am⟩:=alc ad cP;refine⟨S_2,λq ak=>?_⟩;show ∃_,_;generalize cE:upd H4 q _=H5;obtain⟨s5,aj⟩:=alc ak cE;have n1:H l=none:=Az.noneN sm hl;have n2:H B=none:=Az.noneN (sm.trans s3) ad;have n3:H q=none:=Az.noneN ((sm.trans s3).trans s4) ak;have ac:=((sm.trans s3).trans s4).trans s5;have ap:=ac _ _ hm;refine xwf Z Z (ac _ _ hp) T.cl_Jumps T.na_Jumps_memories D (xq1 Z ⟨mem,(xq1 Z ⟨LB.k (k:=Sum.inr t) ap ?_,?_⟩)⟩)
    .unfold mK;rw[B8];exact F3 few A3
    .rw[IE _ no];have e6:mK M++[(Sum.inr t,V.ref q)]=mK (M++[(t,⟨q,l,B,g⟩)]):=by unfold mK;rw[C0];rfl
     rw[e6];have k6:∀b o,H5 b=some o->b≠mem->upd H5 mem (.dK (mK (M++[(t,⟨q,l,B,g⟩)]))) b=some o:=λb o e n=>by rw[Ar n];exact e
     have ag:upd H5 mem (.dK (mK (M++[(t,⟨q,l,B,g⟩)]))) mem=some (.dK (mK (M++[(t,⟨q,l,B,g⟩)]))):=Ag;generalize upd H5 mem (.dK (mK (M++[(t,⟨q,l,B,g⟩)])))=H6 at k6 ag⊢;have nm:∀{x:R_},H x=none->x≠mem:=λz y=>by rw[y,hm]at z;cases z
     have np:∀{x:R_},H x=none->x≠p:=λz y=>by rw[y,hp]at z;cases z
     refine U _ _ ⟨Z,⟨q,l,B,g⟩,M++[(t,⟨q,l,B,g⟩)],λb o e n=>k6 _ _ (ac _ _ e) n,ag,?_,k6 _ _ aj (nm n3),.new Z nk ⟨n3,n1,n2,c2⟩ (k6 _ _ aj (nm n3)) (k6 _ _ (s5 _ _ (s4 _ _ an)) (nm n1)) (k6 _ _ (s5 _ _ am) (nm n2)) (λd c=>k6 _ _ (s5 _ _ (s4 _ _ (s3 _ _ (c1 d c)))) (nm (c2 d c))) ln nd,np n3,λ_=>⟨np n1,np n2,λd c=>np (c2 d c)⟩⟩;rw[<-e6];rw[OX no];exact BS Z
 rintro σ W ⟨rfl,m,I,k1,ae,vv,ar,chg,ab,al⟩;have ah:=k1 _ _ hp S;have lf:fs.length<1000:=by lia
 have put:∀{Hk:Hp}{fs':List (Str×V)}(u:List (Str×V)),Hk p=some (.ins a.c_Jumps L fs')->(∀b o,Hk b=some o->b≠p->upd Hk p (.ins a.c_Jumps L u) b=some o)/\upd Hk p (.ins a.c_Jumps L u) p=some (.ins a.c_Jumps L u):=λ{Hk fs'} u e=>⟨λb o e n=>by rw[Ar n];exact e,Ag⟩
 refine xw2 Z Z ⟨p,_,L,fs,Z,ah,T.cl_Jumps,T.na_Jumps_rule,lf,?_⟩;obtain⟨k2,O⟩:=put (AW "rule" (.ref C) fs) ah;generalize upd W p (.ins a.c_Jumps L (AW "rule" (.ref C) fs))=X at k2 O⊢;have l2:=BM ("rule" : Str) (.ref C) fs;have G:(AW "rule" (.ref C) fs).lookup ("memories" : Str)=some (.ref mem):=by rw[Ak,W4 A0];exact D
 have af:=k2 _ _ ae (W8 S);have ai:=k2 _ _ ar ab;refine xwf Z Z O T.cl_Jumps T.na_Jumps_memories G (xq1 Z ⟨mem,.ref m.tp,Z,vv▸FM.k (k:=Sum.inr t) af,(xq4 Z Z (SqT.of ai) (Am (j:=0) Z) (xq1 Z ⟨p,_,L,(xq1 Z ⟨O,T.cl_Jumps,T.na_Jumps_known_squares,by lia,?_⟩)⟩))⟩);obtain⟨k3,R⟩:=put (AW "known_squares" (.ref m.l) (AW "rule" (.ref C) fs)) O;generalize upd X p (.ins a.c_Jumps L (AW "known_squares" (.ref m.l) (AW "rule" (.ref C) fs)))=H3 at k3 R⊢;have l3:=BM ("known_squares" : Str) (.ref m.l) (AW "rule" (.ref C) fs);have aa:(AW "known_squares" (.ref m.l) (AW "rule" (.ref C) fs)).lookup ("memories" : Str)=some (.ref mem):=by rw[Ak,W4 A0];exact G
 have ao:=k3 _ _ af (W8 S);have as:=k3 _ _ ai ab;refine xwf Z Z R T.cl_Jumps T.na_Jumps_memories aa (xq1 Z ⟨mem,.ref m.tp,Z,vv▸FM.k (k:=Sum.inr t) ao,(xq4 Z Z (SqT.of as) (Am (j:=1) Z) (xq1 Z ⟨p,_,L,(xq1 Z ⟨R,T.cl_Jumps,T.na_Jumps_known_cells,by lia,?_⟩)⟩))⟩);obtain⟨k4,aq⟩:=put (AW "known_cells" (.ref m.kc) (AW "known_squares" (.ref m.l) (AW "rule" (.ref C) fs))) R;have v:∀b o,W b=some o->b≠p->upd H3 p (.ins a.c_Jumps L (AW "known_cells" (.ref m.kc) (AW "known_squares" (.ref m.l) (AW "rule" (.ref C) fs)))) b=some o:=λb o e n=>k4 _ _ (k3 _ _ (k2 _ _ e n) n) n;refine k _ m I (λb o e n1 n2=>v _ _ (k1 _ _ e n2) n1) aq (v _ _ ae (W8 S)) ?_;cases chg with
 |old h1 h2=>exact .old h1 h2
 |new h1 h2 h3 h4 h5 h6 h7 h8 h9 =>
  obtain⟨y1,y2,y3⟩:=al h3.1;exact .new h1 h2 h3 (v _ _ h4 ab) (v _ _ h5 y1) (v _ _ h6 y2) (λd c=>v _ _ (h7 d c) (y3 d c)) h8 h9
inductive To(a:Ad)(vs:List V)(H:Hp)(Q:VK):Prop
|mk (p dx gp pr:R_) (t:Str) (r:AA) (_:vs=[.ref p,.ref gp,.ref pr]) (_:H p=some (.ins a.c_Jumps dx [])) (_:BV a H pr t r) (_:∀(H':Hp)(mem:R_)(m:MA),(∀b o,H b=some o->b≠p->H' b=some o)->H mem=none->H' p=some (.ins a.c_Jumps dx (jf5 gp mem pr m.l m.kc))->H' mem=some (.dK (mK [(t,m)]))->(H m.tp=none/\H m.l=none/\H m.kc=none/\∀d∈m.ds,H d=none)->H' m.tp=some (.tup [.ref m.l,.ref m.kc])->H' m.l=some (.lst (m.ds.map V.ref))->H' m.kc=some (.dT [])->(∀d∈m.ds,H' d=some (.dK []))->m.ds.length=47->m.ds.Nodup->(∀d∈m.ds,d≠mem)->Q .non H'):To a vs H Q
def Pf(a:Ad):Sp:=λvs H Q _=>To a vs H Q
theorem VA(F:Fun K "__init__" "Jumps.__init__" GU f fd)(T:Top K mg a)(aS:BD P w K mg base CX0 2 a.c_Jumps "change" DT (Ss a)):AT P w K mg base CX0 3 f fd PP (Pf a):=by
 refine F.ok Oc D_9 λaa A R s H vs Q E hr h=>?_
 obtain⟨p,i,g,Y,t,r,rfl,W,hR,k⟩:=h;refine⟨_,(Ae (CC (pv 0) (pv 1) Z) (Ae (CC (pv 0) JX Z) (Af (Ba (Aw (pv 0) aS (rm hr) Ao (Aa (pv 2) Ab)))))),?_⟩
 try dsimp only[cxK]
 refine xw2 Z Z ⟨p,_,i,[],Z,W,T.cl_Jumps,T.na_Jumps_grove,B3,?_⟩;have X:∀b o,H b=some o->b≠p->upd H p (.ins a.c_Jumps i (AW "grove" (.ref g) [])) b=some o:=λb o e n=>by rw[Ar n];exact e
 have l:upd H p (.ins a.c_Jumps i (AW "grove" (.ref g) [])) p=some (.ins a.c_Jumps i (AW "grove" (.ref g) [])):=Ag;have D:∀b,upd H p (.ins a.c_Jumps i (AW "grove" (.ref g) [])) b=none->H b=none:=λb e=>by
  by_cases z:b=p
  .rw[z,l]at e;cases e
  .rw[Ar z]at e;exact e
 generalize upd H p (.ins a.c_Jumps i (AW "grove" (.ref g) []))=H1 at X l D⊢;intro mem c;generalize cH:upd H1 mem _=u;obtain⟨S,L⟩:=alc c cH;have O:mem≠p:=λz=>by rw[z,l]at c;cases c
 refine xq1 Z ⟨p,_,i,(xq1 Z ⟨S _ _ l,T.cl_Jumps,T.na_Jumps_memories,B5,?_⟩)⟩;have N:∀b o,u b=some o->b≠p->upd u p (.ins a.c_Jumps i (jf2 g mem)) b=some o:=λb o e n=>by rw[Ar n];exact e
 have q:upd u p (.ins a.c_Jumps i (jf2 g mem)) p=some (.ins a.c_Jumps i (jf2 g mem)):=Ag;have j:∀b,upd u p (.ins a.c_Jumps i (jf2 g mem)) b=none->H b=none:=λb e=>by
  by_cases z:b=p
  .rw[z,q]at e;cases e
  .rw[Ar z]at e;exact D _ (Az.noneN S e)
 rw[show AW ("memories" : Str) (V.ref mem) (AW ("grove" : Str) (V.ref g) [])=jf2 g mem from rfl];generalize upd u p (.ins a.c_Jumps i (jf2 g mem))=U at N q j⊢;have C:∀b o,H b=some o->b≠p->U b=some o:=λb o e n=>N _ _ (S _ _ (X _ _ e n)) n;have B:=N _ _ L O;have G:BV a U Y t r:=by
  refine hR.kp λb o e n=>C _ _ e λz=>?_;rw[z,W]at e;cases e;cases n with
  |ins v _=>cases v
 refine xwn Z Z q (VT _ _ A0 A0) Z ⟨p,i,mem,Y,jf2 g mem,t,r,[],Z,q,jf2_mem _ _,by rw[show(jf2 g mem).length=2 from rfl];decide,B,L5 _,λe he=>(nomatch he),G,λH' m ab fr M y chg=>?_⟩;cases chg with
 |old v _=>cases v
 |new v h2 x h4 h5 h6 h7 h8 h9 =>
  rw[v]at y;refine k H' mem m (λb o e n=>fr _ _ (C _ _ e n) n ?_) (D _ c) M y ⟨j _ x.1,j _ x.2.1,j _ x.2.2.1,λd I=>j _ (x.2.2.2 d I)⟩ h4 h5 h6 h7 h8 h9 λd I z=>?_
  .intro z;rw[z]at e;rw[D _ c]at e;cases e
  .have:=x.2.2.2 d I;rw[z,B]at this;cases this
end
noncomputable def qO(G:Gv)(n k:Nat):Nat:=match G[n]? with
|some q=>(q.parts.getD k 0).toNat
|none=>0
noncomputable def cel(G:Gv):Nat->Nat->Nat->Nat->Nat
|0,n,_,_=>n
|l+1,n,x,y=>cel G l (qO G n ((x/2^l)%2+2*((y/2^l)%2))) x y
noncomputable def stp(r:AA)(c:Nat->Nat->Int):Nat->Nat->Int:=λx y=>Co r (c x y) [c (x-1) (y-1),c x (y-1),c (x+1) (y-1),c (x-1) y,c (x+1) y,c (x-1) (y+1),c x (y+1),c (x+1) (y+1)]
noncomputable def Bh(r:AA):Nat->(Nat->Nat->Int)->Nat->Nat->Int
|0,c=>c
|n+1,c=>stp r (Bh r n c)
noncomputable def AM(G:Gv)(l n:Nat):Nat->Nat->Int:=λx y=>(cel G l n x y:Int)
def JR(r:AA)(G:Gv)(e n m:Nat):Prop:=∃l:Nat,An G n ((l+2:Nat):Int)/\e<=l/\An G m ((l+1:Nat):Int)/\∀x y,x<2^(l+1)->y<2^(l+1)->AM G (l+1) m x y=Bh r (2^e) (AM G (l+2) n) (x+2^l) (y+2^l)
theorem GOk.four{G:Gv}(ok:GOk G){n l:Nat}(h:An G n ((l+1:Nat):Int)):∃x y z w:Nat,G[n]?=some ⟨[(x:Int),(y:Int),(z:Int),(w:Int)],((l+1:Nat):Int)⟩/\An G x (l:Int)/\An G y (l:Int)/\An G z (l:Int)/\An G w (l:Int):=by
 obtain⟨q,e,a⟩:=h;have i:8<=n:=by
  refine Nat.le_of_not_lt λz=>?_;rw[ok.leaf n z]at e;cases e;have:(0:Int)=((l+1:Nat):Int):=a;lia
 obtain⟨x,y,z,w,p,⟨b,c,d,f⟩,_⟩:=ok.node n q e i;have g:q.lev-1=(l:Int):=by lia
 rw[g]at b c d f;refine⟨x,y,z,w,?_,b,c,d,f⟩;rw[e];cases q with
 |mk k j=>cases p;cases a;rfl
theorem GOk.cell{G:Gv}(ok:GOk G){n:Nat}(h:An G n 0):n<8:=by
 obtain⟨q,e,a⟩:=h;refine Nat.lt_of_not_le λz=>?_;obtain⟨_,_,_,_,_,_,b,_⟩:=ok.node n q e z;lia
theorem Cw{G:Gv}{n x y z w:Nat}{l:Int}(e:G[n]?=some ⟨[(x:Int),(y:Int),(z:Int),(w:Int)],l⟩):qO G n 0=x/\qO G n 1=y/\qO G n 2=z/\qO G n 3=w:=by
 unfold qO;rw[e];exact⟨Z,Z,Z,Z⟩
theorem Cu{G:Gv}(ok:GOk G){n l:Nat}(h:An G n ((l+1:Nat):Int)){k:Nat}(f:k<4):An G (qO G n k) (l:Int):=by
 obtain⟨x,y,z,w,e,a,b,c,d⟩:=ok.four h;obtain⟨g,i,j,m⟩:=Cw e
 match k,f with
 |0,_=>rw[g];exact a
 |1,_=>rw[i];exact b
 |2,_=>rw[j];exact c
 |3,_=>rw[m];exact d
theorem Rg{G a:Gv}{i:Nat}(ok:GOk G)(b:AR G a i):∀(l n:Nat),An G n (l:Int)->∀x y,cel a l n x y=cel G l n x y
|0,n,_,x,y=>rfl
|l+1,n,h,x,y=>by
 have e:∀k,qO a n k=qO G n k:=λk=>by
  obtain⟨q,e,_⟩:=h;unfold qO;rw[b.get e,e]
 show cel a l (qO a n _) x y=cel G l (qO G n _) x y;rw[e];exact Rg ok b l _ (Cu ok h A1) x y
theorem AQ{G a:Gv}{i:Nat}(ok:GOk G)(b:AR G a i){l n:Nat}(h:An G n (l:Int)):AM a l n=AM G l n:=by
 funext x y
 unfold AM;rw[Rg ok b l n h]
theorem JR.goes{r:AA}{G b:Gv}{i e n m:Nat}(ok:GOk G)(a:AR G b i)(h:JR r G e n m):JR r b e n m:=by
 obtain⟨l,c,f,d,g⟩:=h;refine⟨l,a.lev c,f,a.lev d,λx y j k=>?_⟩;rw[AQ ok a c,AQ ok a d];exact g x y j k
def Bs(G:Gv):Prop:=∀j:Nat,j<48->G[8+j]?=some ⟨[(bareN j:Int),(bareN j:Int),(bareN j:Int),(bareN j:Int)],(j:Int)+1⟩
theorem Bs.goes{G a:Gv}{i:Nat}(h:Bs G)(b:AR G a i):Bs a:=λj c=>b.get (h j c)
theorem Bs.zero{G:Gv}(h:Bs G):∀(l:Nat),l<=48->∀x y,cel G l (bareN l) x y=0
|0,_,x,y=>rfl
|l+1,hl,x,y=>by
 obtain⟨b,c,d,f⟩:=Cw (h l A1);have e:∀k,k<4->qO G (8+l) k=bareN l:=λk a=>by
  match k,a with
  |0,_=>exact b
  |1,_=>exact c
  |2,_=>exact d
  |3,_=>exact f
 show cel G l (qO G (8+l) _) x y=0;rw[e _ A1];exact h.zero l A1 x y
theorem Qs{r:AA}(h:Co r 0 Cb=0):∀k,Bh r k (λ_ _=>0)=λ_ _=>0
|0=>rfl
|k+1=>by
 show stp r (Bh r k _)=_;rw[Qs h k]
 funext x y
 exact h
theorem Bs.lev{G:Gv}(ok:GOk G)(h:Bs G):∀l:Nat,l<=48->An G (bareN l) (l:Int)
|0,_=>⟨_,ok.leaf 0 A3,Z⟩
|l+1,hl=>⟨_,h l A1,by show(l:Int)+1=((l+1:Nat):Int);lia⟩
theorem JR.bare{r:AA}{G:Gv}(ok:GOk G)(h:Bs G)(d:Co r 0 Cb=0){l e:Nat}(a:l+2<=48)(b:e<=l):JR r G e (bareN (l+2)) (bareN (l+1)):=by
 refine⟨l,h.lev ok _ a,b,h.lev ok _ A1,λx y _ _=>?_⟩;have z:∀k,k<=48->AM G k (bareN k)=λ_ _=>0:=λk c=>by
  funext x y
  unfold AM;rw[h.zero k c x y];rfl
 rw[z _ a,z _ A1,Qs d]
theorem Wk{r:AA}(h:Mh r){cell:Int}(f:DC cell)(a:I_):DC (Co r cell a):=by
 cases e:MC r cell a with
 |none=>rw[NU e];exact f
 |some i =>
  obtain⟨c,b,d⟩:=NT e;rw[d];exact(h.ok c (D6 b)).makes
theorem We:∀xs:List Int,xs.length=8->∃a b c d e f g h,xs=[a,b,c,d,e,f,g,h]
|[a,b,c,d,e,f,g,h],_=>⟨a,b,c,d,e,f,g,h,Z⟩
structure EM(H:Hp)(g:GA)(G:Gv)(N M:Nat)(r:AA)(m:MA):Prop where
tp:H m.tp=some (.tup [.ref m.l,.ref m.kc])
l:H m.l=some (.lst (m.ds.map V.ref))
ap:m.l≠g.lv/\m.l≠g.pt/\m.kc≠g.nm
len:m.ds.length=47
nd:m.ds.Nodup
sq:∀(e:Nat) d,m.ds[e]?=some d->∃kv,H d=some (.dK kv)/\kv.length<=N/\(∀p∈kv,∃i,p.1=Sum.inl i)/\∀(n:Nat) v,BP kv (Sum.inl (n:Int))=some v->∃k:Nat,v=.int (k:Int)/\JR r G e n k
ce:∃kc,H m.kc=some (.dT kc)/\kc.length<=M/\∀(ks:I_) v,BP kc (kOf ks)=some v->∃c ar,ks=c::ar/\v=.int (Co r c ar)
theorem EM.mono{H:Hp}{g:GA}{G:Gv}{N M i f:Nat}{r:AA}{m:MA}(h:EM H g G N M r m)(j:N<=i)(k:M<=f):EM H g G i f r m:=by
 refine⟨h.tp,h.l,h.ap,h.len,h.nd,λe d n=>?_,?_⟩
 .obtain⟨q,a,b,c,o⟩:=h.sq e d n;exact⟨q,a,D4 b j,c,o⟩
 .obtain⟨p,a,b,c⟩:=h.ce;exact⟨p,a,D4 b k,c⟩
theorem EM.kp{H p:Hp}{g:GA}{G j:Gv}{N M i:Nat}{r:AA}{m:MA}(h:EM H g G N M r m)(ok:GOk G)(w:AR G j i)(k:∀b o,H b=some o->b=m.tp\/b=m.l\/b∈m.ds\/b=m.kc->p b=some o):EM p g j N M r m:=by
 refine⟨k _ _ h.tp (.inl Z),k _ _ h.l (.inr (.inl Z)),h.ap,h.len,h.nd,λe d q=>?_,?_⟩
 .obtain⟨A,a,c,f,y⟩:=h.sq e d q;refine⟨A,k _ _ a (.inr (.inr (.inl (D6 q)))),c,f,λn v z=>?_⟩;obtain⟨x,t,u⟩:=y n v z;exact⟨x,t,u.goes ok w⟩
 .obtain⟨s,a,c,f⟩:=h.ce;exact⟨s,k _ _ a (.inr (.inr (.inr Z))),c,f⟩
structure JW(a:Ad)(H:Hp)(g:GA)(G:Gv)(N M:Nat)(p dx mem pr:R_)(r:AA)(m:MA):Prop where
gr:AE a H g G
ok:GOk G
bs:Bs G
br:H g.br=some (.lst ((DZ 48).map V.int))
nbr:g.br≠g.lv/\g.br≠g.pt
hp:H p=some (.ins a.c_Jumps dx (jf5 g.p mem pr m.l m.kc))
ru:BV a H pr (BO r) r
rok:Mh r
rest:Co r 0 Cb=0
me:EM H g G N M r m
theorem JW.same{a:Ad}{H c:Hp}{g:GA}{G:Gv}{N M:Nat}{p d mem f:R_}{r:AA}{m:MA}(s:Az H c)(h:JW a H g G N M p d mem f r m):JW a c g G N M p d mem f r m :=
 ⟨h.gr.same s,h.ok,h.bs,s _ _ h.br,h.nbr,s _ _ h.hp,h.ru.same s,h.rok,h.rest,h.me.kp h.ok (AR.refl h.ok) λb o e _=>s _ _ e⟩
theorem JW.mono{a:Ad}{H:Hp}{g:GA}{G:Gv}{N M c b:Nat}{p d mem e:R_}{r:AA}{m:MA}(h:JW a H g G N M p d mem e r m)(f:N<=c)(i:M<=b):JW a H g G c b p d mem e r m :=
 ⟨h.gr,h.ok,h.bs,h.br,h.nbr,h.hp,h.ru,h.rok,h.rest,h.me.mono f i⟩
theorem EM.fr{a:Ad}{H p:Hp}{g:GA}{G n:Gv}{N M i:Nat}{r:AA}{m:MA}(h:EM H g G N M r m)(d:AE a H g G)(ok:GOk G)(f:Fr g H p)(q:AR G n i):EM p g n N M r m:=by
 obtain⟨v,k,_⟩:=d.pt;refine h.kp ok q λb o e w=>?_;rcases w with z|z|z|z
 .have c:=h.tp;rw[<-z,e]at c;cases c;exact f _ _ e (Aq e d.lv A2) (Aq e k A2) (Aq e d.nm A2)
 .have c:=h.l;rw[z]at e⊢;rw[e]at c;cases c;exact f _ _ e h.ap.1 h.ap.2.1 (Aq e d.nm A2)
 .obtain⟨j,s⟩:=F6 z;obtain⟨u,c,_⟩:=h.sq j b s;rw[e]at c;cases c;exact f _ _ e (Aq e d.lv A2) (Aq e k A2) (Aq e d.nm A2)
 .obtain⟨t,c,_⟩:=h.ce;rw[z]at e⊢;rw[e]at c;cases c;exact f _ _ e (Aq e d.lv A2) (Aq e k A2) h.ap.2.2
theorem BV.fr{a:Ad}{H d:Hp}{g:GA}{G:Gv}{p:R_}{x:Str}{r:AA}(h:BV a H p x r)(c:AE a H g G)(f:Fr g H d):BV a d p x r:=by
 obtain⟨j,i,_⟩:=c.pt;exact h.kp λb o e n=>f _ _ e (Aq e c.lv (by intro z;rw[z]at n;cases n)) (Aq e i (by intro z;rw[z]at n;cases n)) (Aq e c.nm (by intro z;rw[z]at n;cases n))
theorem JW.fr{a:Ad}{H c:Hp}{g:GA}{G b:Gv}{N M i:Nat}{p j mem k:R_}{r:AA}{m:MA}(h:JW a H g G N M p j mem k r m)(f:Fr g H c)(e:AE a c g b)(d:AR G b i):JW a c g b N M p j mem k r m:=by
 obtain⟨n,l,_⟩:=h.gr.pt;refine⟨e,d.ok,h.bs.goes d,f _ _ h.br h.nbr.1 h.nbr.2 (Aq h.br h.gr.nm A2),h.nbr,f _ _ h.hp (Aq h.hp h.gr.lv A2) (Aq h.hp l A2) (Aq h.hp h.gr.nm A2),h.ru.fr h.gr f,h.rok,h.rest,h.me.fr h.gr h.ok f d⟩
def FrJ(g:GA)(m:MA)(H H':Hp):Prop:=∀b o,H b=some o->b≠g.lv->b≠g.pt->b≠g.nm->b≠m.kc->b∉m.ds->H' b=some o
theorem FrJ.trans{g:GA}{m:MA}{a c d:Hp}(h:FrJ g m a c)(k:FrJ g m c d):FrJ g m a d:=λb o e f i j l n=>k _ _ (h _ _ e f i j l n) f i j l n
theorem Fr.j{g:GA}{m:MA}{a c:Hp}(h:Fr g a c):FrJ g m a c:=λb o e d f i _ _=>h _ _ e d f i
theorem Az.j{g:GA}{m:MA}{a c:Hp}(h:Az a c):FrJ g m a c:=λb o e _ _ _ _ _=>h _ _ e
theorem JW.putC{a:Ad}{H:Hp}{g:GA}{G:Gv}{N M:Nat}{p s mem x:R_}{r:AA}{m:MA}{i:List (List Key×V)}(h:JW a H g G N M p s mem x r m)(len:i.length<=M+1)(j:∀(w:I_) v,BP i (kOf w)=some v->∃c k,w=c::k/\v=.int (Co r c k)):JW a (upd H m.kc (.dT i)) g G N (M+1) p s mem x r m:=by
 obtain⟨D,C,_⟩:=h.me.ce;have f:∀{b v},H b=some v->(∀u,v≠.dT u)->upd H m.kc (.dT i) b=some v:=λ{b v} e n=>by rw[Ar (Aq e C (n _))];exact e
 obtain⟨O,A,B⟩:=h.gr.pt;refine⟨⟨f h.gr.hp A6,f h.gr.lv A6,⟨O,f A A6,PairedM.imp (λt q z=>f z A6) B⟩,by rw[Ar (W8 h.me.ap.2.2)];exact h.gr.nm,h.gr.ne⟩,h.ok,h.bs,f h.br A6,h.nbr,f h.hp A6,h.ru.kp λb o e n=>f e λu z=>(by rw[z]at n;cases n),h.rok,h.rest,⟨f h.me.tp A6,f h.me.l A6,h.me.ap,h.me.len,h.me.nd,λe d y=>?_,⟨i,Ag,len,j⟩⟩⟩;obtain⟨E,F,I,K,L⟩:=h.me.sq e d y;exact⟨E,f F A6,I,K,L⟩
theorem JW.putS{a:Ad}{H:Hp}{g:GA}{G:Gv}{N M:Nat}{p B mem L:R_}{r:AA}{m:MA}{e:Nat}{d:R_}{u:List (Key×V)}{n k:Nat}(h:JW a H g G N M p B mem L r m)(D:m.ds[e]?=some d)(F:H d=some (.dK u))(jr:JR r G e n k):JW a (upd H d (.dK (EI u (Sum.inl (n:Int)) (.int (k:Int))))) g G (N+1) M p B mem L r m:=by
 have c:∀{b v},H b=some v->(∀I,v≠.dK I)->upd H d (.dK (EI u (Sum.inl (n:Int)) (.int (k:Int)))) b=some v:=λ{b v} e n=>by rw[Ar (Aq e F (n _))];exact e
 obtain⟨Y,T,U⟩:=h.gr.pt;obtain⟨W,Q,R,S⟩:=h.me.ce;refine⟨⟨c h.gr.hp A6,c h.gr.lv A6,⟨Y,c T A6,PairedM.imp (λt q z=>c z A6) U⟩,c h.gr.nm A6,h.gr.ne⟩,h.ok,h.bs,c h.br A6,h.nbr,c h.hp A6,h.ru.kp λb o e n=>c e λI z=>(by rw[z]at n;cases n),h.rok,h.rest,⟨c h.me.tp A6,c h.me.l A6,h.me.ap,h.me.len,h.me.nd,λC d' f=>?_,⟨W,c Q A6,R,S⟩⟩⟩;obtain⟨w,A,X,s,P⟩:=h.me.sq C d' f;by_cases z:C=e
 .rw[z,D]at f;cases f;rw[F]at A;cases A;subst z;refine⟨_,Ag,D4 (FX _ _ _) A1,λq i=>?_,λK v j=>?_⟩
  .unfold EI at i;split at i
   .obtain⟨O,E,rfl⟩:=D7.mp i;split
    .exact s O E
    .exact s O E
   .rcases D3.mp i with y|y
    .exact s q y
    .rw[C8.mp y];exact⟨_,Z⟩
  .rw[MT]at j;split at j
   .rename_i y;have:K=n:=by have:=Sum.inl.inj y;lia
    rw[this];cases j;exact⟨k,Z,jr⟩
   .exact P K v j
 .have x:d'≠d:=λy=>z (by
   rw[y]at f;exact(List.getElem?_inj (B9.mp f).1 h.me.nd).mp (f.trans D.symm))
  exact⟨w,by rw[Ar x];exact A,D4 X A1,s,P⟩
section
variable{P:N_}{w:Q_}{K:O_}{mg:C_}{base:T_}{a:Ad}
inductive WE(a:Ad)(vs:List V)(H:Hp)(Q:VK):Prop
|mk (p dx mem pr t:R_) (g:GA) (G:Gv) (N M:Nat) (r:AA) (m:MA) (c:Int) (ar:I_) (_:vs=[.ref p,.ref t]) (_:JW a H g G N M p dx mem pr r m) (_:H t=some (.tup ((c::ar).map V.int))) (_:ar.length=8) (_:∀x∈c::ar,DC x) (_:M<9000000) (_:∀H',(∀b o,H b=some o->b≠m.kc->H' b=some o)->JW a H' g G N (M+1) p dx mem pr r m->Q (.int (Co r c ar)) H'):WE a vs H Q
def Su(a:Ad):Sp:=λvs H Q _=>WE a vs H Q
theorem ok_cel(F:Fun K "cell_after" "Jumps.cell_after" CA f fd)(T:Top K mg a)(aN:BD P w K mg base CX0 4 a.c_Grove "state_of" IR (Sl a))(aO:BD P w K mg base CX0 3 a.c_Grove "leaf" PQ (MW a))(bI:Cal P w K mg base CX0 5 "becomes" JD (Sw a)):AT P w K mg base CX0 6 f fd Dt (Su a):=by
 refine F.ok Cp D_9 λae A ac s H vs Q E W h=>?_
 obtain⟨p,dx,mem,pr,t,g,G,N,M,r,m,c,d,rfl,q,ht,h8,Y,few,k⟩:=h;obtain⟨kc,c1,c2,c3⟩:=q.me.ce;have X:H t=some (.tup ((kOf (c::d)).map kV)):=by rw[VP];exact ht
 refine⟨_,(Ae (Av (i:=2) Cp.nd Z O_9 (Nn (DY W) (AK (pv 0) Z) (pv 1) ⟨Z,Z,Z,Z⟩)) (Ae (AS (AF Nr (pv 2) Jz (AI _)) (Ae (CW (i:=3) Z Cp.nd Z Z (Bn.of (So:=Ai CA) (No:=FF) (N:=["one","self"]) (k:=1) (cs:=[0]) Z Z A0) (Jx (pv 1)) (λ_ _ _=>(AY (i:=0) A0 Z Z)) (λ_ _ _=>BB) (λ_ _ _=>(Aw (Pu (K:=K) Z (pv 1) Z) aN (rm W) Ao (Aa (pv 0) Ab)))) (Ae (Av (i:=2) Cp.nd Z O_9 (Aw (AK (pv 0) Z) aO (rm W) Ao (Aa (AB bI (rm W) Z Ao (Aa (AK (pv 0) Z) (Aa (Ah Au (pv 3) Ac R_9) (Aa (GF Jd (pv 3) (DP Ac) po_none) Ab)))) Ab))) (Af (FT (DY W) (AK (pv 0) Z) (pv 1) (pv 2) Z)))) AD) (Af (Ax (pv 2))))),?_⟩
 try dsimp only[cxK]
 refine xwf Z Z q.hp T.cl_Jumps T.na_Jumps_known_cells (VS _ _ _ _ _) ⟨m.kc,Z,.inr ⟨_,.inl c1⟩,(xq1 Z ⟨_,FM.t (k:=kOf (c::d)) c1 X,?_⟩)⟩;cases ev:BP kc (kOf (c::d))with
 |some v =>
  obtain⟨c',ad,e1,e2⟩:=c3 _ v ev;cases e1;rw[e2];exact xq1 Z ⟨Z,(xq1 Z (Bl (xq1 Z (k H (λb o e _=>e) (q.mono (C9 _) (U3 _))))))⟩
 |none =>
  refine xq1 Z ⟨Z,(xq1 Z (CT ?_))⟩;refine xq1 Z ⟨t,Z,⟨_,SqT.of ht⟩,?_⟩;refine Lw (xs:=(c::d).map V.int) (λi l D=>H=D/\l=((c::d).take i).map V.int) ⟨Z,Z⟩ (λi l D _ z=>z.1▸SqT.of ht) ?_ ?_
  .rintro i v l D R ⟨rfl,rfl⟩;rw[C7]at R;obtain⟨x,ex,rfl⟩:=D5.mp R;obtain⟨x0,x8⟩:=Y x (D6 ex);obtain⟨n,rfl⟩:=M7 x0;refine⟨⟨[some (.int (n:Int))],Z,Z⟩,?_,EQ (xq1 Z (xq5 q.hp T.cl_Jumps T.na_Jumps_grove (DV _ _ _ _ _) (xq3 Z q.gr.hp (JE g) (xq1 Z ⟨g,G,n,_,Z,q.gr,q.ok.leaf n A1,Z,Z,?_⟩))))⟩
   .rw[B8,M6];exact F3 (S8 _ _) (by rw[F7,h8];decide)
   .rw[F9,ex,L6,C0];rfl
  .rintro l D ⟨rfl,rfl⟩ L hL;rw[B8,J7];generalize b9:upd H L _=H1;obtain⟨s1,S⟩:=alc hL b9;have u:=q.same s1;refine xwf Z Z u.hp T.cl_Jumps T.na_Jumps_grove (DV _ _ _ _ _) (xq3 Z u.gr.hp (MJ g) (xwf Z Z u.hp T.cl_Jumps T.na_Jumps_rule (jf5_ru _ _ _ _ _) (xwi Z Z Z (SqL.of S) (Am (j:=0) Z) ?_)));refine xq1 Z ⟨1,Z,L,(xq1 Z ⟨SqL.of S,λSL ab=>?_⟩)⟩;have O:NQ ((c::d).map V.int) (some 1) none=d.map V.int:=by
    obtain⟨x1,x2,x3,x4,x5,x6,x7,x8,rfl⟩:=We d h8;rfl
   rw[O];generalize cH:upd H1 SL _=D;obtain⟨s2,aa⟩:=alc ab cH;have B:=u.same s2;refine⟨pr,SL,_,r,c,d,Z,B.ru,B.rok.rok,aa,λH3 s3=>?_⟩;have U:=B.same s3;have C:=(s1.trans s2).trans s3;have I:=Wk q.rok (Y c D8) d;refine⟨g.p,_,Z,I.1,I.2,?_⟩;refine xq1 Z (xq1 Z (xq5 U.hp T.cl_Jumps T.na_Jumps_known_cells (VS _ _ _ _ _) (xq1 Z ⟨m.kc,(xq1 Z ⟨LB.t (k:=kOf (c::d)) (C _ _ c1) (C _ _ X) (F3 (show kc.length<=9000000 by lia) A3),?_⟩)⟩)));refine xq1 Z (k _ (λb o e n=>by rw[Ar n];exact C _ _ e) (U.putC (D4 (FX _ _ _) A1) λks v hv=>?_));rw[MT]at hv;split at hv
   .rename_i y;rw[MO y];cases hv;exact⟨c,d,Z,Z⟩
   .exact c3 ks v hv
end
def FrC(g:GA)(m:MA)(H H':Hp):Prop:=∀b o,H b=some o->b≠g.lv->b≠g.pt->b≠g.nm->b≠m.kc->H' b=some o
theorem FrC.trans{g:GA}{m:MA}{a c d:Hp}(h:FrC g m a c)(k:FrC g m c d):FrC g m a d:=λb o e f i j l=>k _ _ (h _ _ e f i j l) f i j l
theorem FrC.j{g:GA}{m:MA}{a c:Hp}(h:FrC g m a c):FrJ g m a c:=λb o e d f i k _=>h _ _ e d f i k
theorem Fr.c{g:GA}{m:MA}{a d:Hp}(h:Fr g a d):FrC g m a d:=λb o e f i j _=>h _ _ e f i j
theorem AR.mono{G a:Gv}{n m:Nat}(h:AR G a n)(e:n<=m):AR G a m:=⟨h.ok,h.pre,D4 h.few A1⟩
def spNo:Sp:=λ_ _ _ _=>False
theorem AT.no{P:N_}{w:Q_}{K:O_}{c:C_}{a:T_}{CX:CXT}{k:Nat}{f:R_}{b:E_}{ps:K_}:AT P w K c a CX k f b ps spNo :=
 ⟨λ_ _ _ _ h=>h.elim,λ_ _ _ _ _ _ _ _ _ _ _ _ _ h=>h.elim⟩
theorem bareJ{l:Nat}(h:l<=48):((DZ 48).map V.int)[l]?=some (.int (bareN l:Int)):=by
 unfold DZ;rw[C7,C7,O4 A1];rfl
section
variable{P:N_}{w:Q_}{K:O_}{mg:C_}{base:T_}{a:Ad}
theorem tretl {c:TA} {D:JJ} {σ:St} {H:Hp} (h:c σ H λxs b=>xs.length<=sizeLine/\∀p,b p=none->D.rt (.ref p) (upd b p (.lst xs))):tRet (tLst c) D σ H:=h
theorem FO {b:TE} {c:TA} {σ:St} {H:Hp} {Q:List V->Hp->Prop} (h:b σ H λx d=>c σ d λxs e=>Q (x::xs) e):CO b c σ H Q:=h
theorem ixt{K:O_}{σ:St}{i:Nat}{H:Hp}{t:R_}{xs:List V}{j:Int}{v:V}{Q:VK}(r:σ[i]?=some (some (.ref t)))(h:H t=some (.tup xs))(e:atI xs j=some v)(k:Q v H):tOp (Jj K) (GD i) (tC (V.int j)) σ H Q:=⟨_,r,t,xs,j,v,Z,Z,SqT.of h,e,k⟩
theorem ixp{K:O_}{H:Hp}{p t:R_}{b:H_}{n:Nat}{Q:VK}(h:H p=some (.lst (b.map V.ref)))(e:b[n]?=some t)(k:Q (.ref t) H):rIxL K (.ref p) (.int n) H Q:=⟨p,_,n,_,Z,Z,SqL.of h,Am (by rw[C7,e];rfl),k⟩
structure Ln(a:Ad)(g:GA)(H0:Hp)(G0:Gv)(j:Nat)(H:Hp)(G:Gv):Prop where
fr:Fr g H0 H
kt:∀{b:R_}{xs:List V},H0 b=some (.tup xs)->H b=some (.tup xs)
gr:AE a H g G
go:AR G0 G j
theorem lnk{a:Ad}{t H:Hp}{g:GA}{G0 G:Gv}{j:Nat}{u:R_}{x y z w:Nat}{l:Int}{Q:VK}(s:Ln a g t G0 j H G)(B:H u=none)(f:An G0 x l/\An G0 y l/\An G0 z l/\An G0 w l)(q:l<=47)(few:G0.length+j<9000000)
  (k:∀(n:Nat)(d:Gv)(h:Hp),Ln a g t G0 (j+1) h d->AR G d 1->d[n]?=some ⟨[(x:Int),(y:Int),(z:Int),(w:Int)],l+1⟩->Q (.int n) h):Sa a [.ref g.p,.ref u] (upd H u (.tup [.int x,.int y,.int z,.int w])) Q:=by
 generalize o:upd H u _=D;obtain⟨r,v⟩:=alc B o;have m:=s.gr.same r;have E:=s.go.few;refine⟨g,G,u,x,y,z,w,l,Z,m,s.go.ok,v,⟨s.go.lev f.1,s.go.lev f.2.1,s.go.lev f.2.2.1,s.go.lev f.2.2.2⟩,q,by lia,λn d h fr A c e=>k n d h ⟨s.fr.trans ((Az.fr r).trans fr),λ{b xs} e=>?_,A,s.go.trans c⟩ c e⟩;obtain⟨us,C,_⟩:=m.pt;have i:=r _ _ (s.kt e);exact fr _ _ i (Aq i m.lv A2) (Aq i C A2) (Aq i m.nm A2)
theorem ttup {c:TA} {σ:St} {H:Hp} {Q:VK} (h:c σ H λxs b=>xs.length<=sizeLine/\∀p,b p=none->Q (.ref p) (upd b p (.tup xs))):UQ c σ H Q:=h
theorem al9{P:Int->Prop}{a b c d e f g h i:Int}(k:P a)(l:P b)(m:P c)(n:P d)(o:P e)(p:P f)(q:P g)(r:P h)(s:P i):∀x∈[a,b,c,d,e,f,g,h,i],P x:=by
 intro x j;simp only[D1,J9,Z7]at j;rcases j with rfl|rfl|rfl|rfl|rfl|rfl|rfl|rfl|rfl<;>assumption
structure Lc(g:GA)(m:MA)(H0 H:Hp):Prop where
fr:FrC g m H0 H
kt:∀{b:R_}{xs:List V},H0 b=some (.tup xs)->H b=some (.tup xs)
theorem celT{a:Ad}{t H:Hp}{g:GA}{G:Gv}{N M:Nat}{p j mem q u:R_}{r:AA}{m:MA}{c:Int}{d:I_}{Q:VK}(v:JW a H g G N M p j mem q r m)(y:Lc g m t H)(C:H u=none)(f:∀x∈c::d,DC x)(B:d.length=8)(A:M<9000000)
  (h:∀(k:Nat)(Y:Hp),Co r c d=k->k<8->Lc g m t Y->JW a Y g G N (M+1) p j mem q r m->Q (.int k) Y):WE a [.ref p,.ref u] (upd H u (.tup ((c::d).map V.int))) Q:=by
 generalize l:upd H u _=X;obtain⟨s,D⟩:=alc C l;have i:=v.same s;refine⟨p,j,mem,q,u,g,G,N,M,r,m,c,d,Z,i,D,B,f,A,λY fr n=>?_⟩;obtain⟨F,L⟩:=Wk v.rok (f c (.head ..)) d;obtain⟨k,e⟩:=M7 F;rw[e];refine h k Y e A1 ⟨y.fr.trans λb o e _ _ _ E=>fr _ _ (s _ _ e) E,λ{b xs} e=>?_⟩ n;obtain⟨I,z,_⟩:=i.me.ce;have e:=s _ _ (y.kt e);exact fr _ _ e (Aq e z A2)
theorem cel9{K:O_}{a:Ad}{b H:Hp}{g:GA}{G:Gv}{N M:Nat}{p F mem pr:R_}{r:AA}{m:MA}{σ:St}{Q:VK}{L O R S T U X i8 i9:Nat}{t1 t2 t3 t4 t5 t6 t7 t8 t9:R_}{f h i j l n o q s:List V}{j1 j2 j3 j4 j5 j6 j7 j8 j9 t u v y z A B C D:Int}(I:JW a H g G N M p F mem pr r m)(c:Lc g m b H)(h1:b t1=some (.tup f))(h2:b t2=some (.tup h))(h3:b t3=some (.tup i))(h4:b t4=some (.tup j))(h5:b t5=some (.tup l))(h6:b t6=some (.tup n))(h7:b t7=some (.tup o))(h8:b t8=some (.tup q))(h9:b t9=some (.tup s))(E:∀x∈[t,u,v,y,z,A,B,C,D],DC x)(hM:M<9000000)
  (k:∀(k:Nat)(Y:Hp),Co r t [u,v,y,z,A,B,C,D]=k->k<8->Lc g m b Y->JW a Y g G N (M+1) p F mem pr r m->Q (.int k) Y) (e:σ[0]?=some (some (.ref p))/\(σ[L]?=some (some (.ref t1))/\atI f j1=some (.int t))/\(σ[O]?=some (some (.ref t2))/\atI h j2=some (.int u))/\(σ[R]?=some (some (.ref t3))/\atI i j3=some (.int v))/\(σ[S]?=some (some (.ref t4))/\atI j j4=some (.int y))/\(σ[T]?=some (some (.ref t5))/\atI l j5=some (.int z))/\(σ[U]?=some (some (.ref t6))/\atI n j6=some (.int A))/\(σ[X]?=some (some (.ref t7))/\atI o j7=some (.int B))/\(σ[i8]?=some (some (.ref t8))/\atI q j8=some (.int C))/\(σ[i9]?=some (some (.ref t9))/\atI s j9=some (.int D)):=by exact⟨Z,⟨Z,Z⟩,⟨Z,Z⟩,⟨Z,Z⟩,⟨Z,Z⟩,⟨Z,Z⟩,⟨Z,Z⟩,⟨Z,Z⟩,⟨Z,Z⟩,⟨Z,Z⟩⟩) :
  Sf a.c_Jumps "cell_after" (Su a) [] E0 (GD 0) (CO (UQ (CO (tOp (Jj K) (GD L) (tC (V.int j1))) (CO (tOp (Jj K) (GD O) (tC (V.int j2))) (CO (tOp (Jj K) (GD R) (tC (V.int j3))) (CO (tOp (Jj K) (GD S) (tC (V.int j4))) (CO (tOp (Jj K) (GD T) (tC (V.int j5))) (CO (tOp (Jj K) (GD U) (tC (V.int j6))) (CO (tOp (Jj K) (GD X) (tC (V.int j7))) (CO (tOp (Jj K) (GD i8) (tC (V.int j8))) (CO (tOp (Jj K) (GD i9) (tC (V.int j9))) OZ)))))))))) OZ) σ H Q:=by
 apply AL;intro G_ d;obtain⟨r0,⟨r1,e1⟩,⟨r2,e2⟩,⟨r3,e3⟩,⟨r4,e4⟩,⟨r5,e5⟩,⟨r6,e6⟩,⟨r7,e7⟩,⟨r8,e8⟩,⟨r9,e9⟩⟩:=e;apply d;clear d G_;exact⟨_,r0,(xq3 Z I.hp (VF _ _ _ _ _) (ixt r1 (c.kt h1) e1 (ixt r2 (c.kt h2) e2 (ixt r3 (c.kt h3) e3 (ixt r4 (c.kt h4) e4 (ixt r5 (c.kt h5) e5 (ixt r6 (c.kt h6) e6 (ixt r7 (c.kt h7) e7 (ixt r8 (c.kt h8) e8 (ixt r9 (c.kt h9) e9 ⟨(by show 9<=sizeLine;decide),λ_ hu=>celT I c hu E Z hM k⟩))))))))))⟩
inductive Ww(a:Ad)(vs:List V)(H:Hp)(Q:VK):Prop
|mk (p dx mem pr:R_) (g:GA) (G:Gv) (N M:Nat) (r:AA) (m:MA) (n:Nat) (_:vs=[.ref p,.int n]) (_:JW a H g G N M p dx mem pr r m) (_:An G n ((1+1:Nat):Int)) (_:M<8500000) (_:G.length<8000000) (_:∀(k:Nat)(G':Gv)(H':Hp),FrC g m H H'->JW a H' g G' N (M+4) p dx mem pr r m->AR G G' 1->JR r G' 0 n k->Q (.int k) H'):Ww a vs H Q
def Pd(a:Ad):Sp:=λvs H Q _=>Ww a vs H Q
theorem ok_mid2(F:Fun K "middle_after" "Jumps.middle_after" CU f fd)(T:Top K mg a)(a9:BD P w K mg base CX0 2 a.c_Grove "linked" Br (EZ a))(aM:BD P w K mg base CX0 6 a.c_Jumps "cell_after" Dt (Su a)):AT P w K mg base CX0 7 f fd IR (Pd a):=by
 refine F.ok Bo (λvs H Q E h=>?_) (λbh A av s H vs Q E U h=>?_)
 .apply AL;intro O y;obtain⟨p,dx,mem,pr,g,G,N,M,r,m,n,rfl,_⟩:=h;apply y;clear y O;rfl
 .apply AL;intro O y;obtain⟨p,dx,mem,pr,g,G,N,M,r,m,n,rfl,d,hl,a5,few,k⟩:=h;obtain⟨qa,qb,qc,qd,en,la,lb,lc,ld⟩:=d.ok.four hl;obtain⟨a0,a1,a2,a3,ea,aq,V,W,B⟩:=d.ok.four (l:=0) la;obtain⟨b0,b1,b2,b3,eb,X,ar,C,Y⟩:=d.ok.four (l:=0) lb;obtain⟨c0,c1,c2,c3,ec,aa,D,as,ab⟩:=d.ok.four (l:=0) lc;obtain⟨d0,d1,d2,d3,ed,I,ac,ad,au⟩:=d.ok.four (l:=0) ld;obtain⟨ts,R,S⟩:=d.gr.pt;obtain⟨t,et,ht⟩:=PairedM.get S en;obtain⟨ta,ai,j⟩:=PairedM.get S ea;obtain⟨tb,aj,o⟩:=PairedM.get S eb;obtain⟨tc,ak,q⟩:=PairedM.get S ec;obtain⟨td,al,v⟩:=PairedM.get S ed;apply y;clear y O;refine⟨_,(Ae (Av (i:=2) Bo.nd Z O_9 (Ah Au (AK (AK (pv 0) Z) Z) (pv 1) R_9)) (Ae (Av (i:=3) Bo.nd Z O_9 (Ah Au (AK (AK (pv 0) Z) Z) (Ah Ap (pv 2) Ac R_9) R_9)) (Ae (Av (i:=4) Bo.nd Z O_9 (Ah Au (AK (AK (pv 0) Z) Z) (Ah Ap (pv 2) Ac R_9) R_9)) (Ae (Av (i:=5) Bo.nd Z O_9 (Ah Au (AK (AK (pv 0) Z) Z) (Ah Ap (pv 2) Ac R_9) R_9)) (Ae (Av (i:=6) Bo.nd Z O_9 (Ah Au (AK (AK (pv 0) Z) Z) (Ah Ap (pv 2) Ac R_9) R_9)) (Af (Ax (Aw (AK (pv 0) Z) a9 (rm U) Ao (BC (Aa (Aw (pv 0) aM (rm U) Ao (BC (Aa (Ah Ap (pv 3) Ac R_9) (Aa (Ah Ap (pv 3) Ac R_9) (Aa (Ah Ap (pv 3) Ac R_9) (Aa (Ah Ap (pv 4) Ac R_9) (Aa (Ah Ap (pv 3) Ac R_9) (Aa (Ah Ap (pv 4) Ac R_9) (Aa (Ah Ap (pv 5) Ac R_9) (Aa (Ah Ap (pv 5) Ac R_9) (Aa (Ah Ap (pv 6) Ac R_9) Ab))))))))) Ab)) (Aa (Aw (pv 0) aM (rm U) Ao (BC (Aa (Ah Ap (pv 4) Ac R_9) (Aa (Ah Ap (pv 3) Ac R_9) (Aa (Ah Ap (pv 4) Ac R_9) (Aa (Ah Ap (pv 4) Ac R_9) (Aa (Ah Ap (pv 3) Ac R_9) (Aa (Ah Ap (pv 4) Ac R_9) (Aa (Ah Ap (pv 5) Ac R_9) (Aa (Ah Ap (pv 6) Ac R_9) (Aa (Ah Ap (pv 6) Ac R_9) Ab))))))))) Ab)) (Aa (Aw (pv 0) aM (rm U) Ao (BC (Aa (Ah Ap (pv 5) Ac R_9) (Aa (Ah Ap (pv 3) Ac R_9) (Aa (Ah Ap (pv 3) Ac R_9) (Aa (Ah Ap (pv 4) Ac R_9) (Aa (Ah Ap (pv 5) Ac R_9) (Aa (Ah Ap (pv 6) Ac R_9) (Aa (Ah Ap (pv 5) Ac R_9) (Aa (Ah Ap (pv 5) Ac R_9) (Aa (Ah Ap (pv 6) Ac R_9) Ab))))))))) Ab)) (Aa (Aw (pv 0) aM (rm U) Ao (BC (Aa (Ah Ap (pv 6) Ac R_9) (Aa (Ah Ap (pv 3) Ac R_9) (Aa (Ah Ap (pv 4) Ac R_9) (Aa (Ah Ap (pv 4) Ac R_9) (Aa (Ah Ap (pv 5) Ac R_9) (Aa (Ah Ap (pv 6) Ac R_9) (Aa (Ah Ap (pv 5) Ac R_9) (Aa (Ah Ap (pv 6) Ac R_9) (Aa (Ah Ap (pv 6) Ac R_9) Ab))))))))) Ab)) Ab)))) Ab))))))))),?_⟩
  try dsimp only[cxK]
  refine AO ?_;intro a6 bc k0 z aw;refine xwf Z Z d.hp T.cl_Jumps T.na_Jumps_grove (DV _ _ _ _ _) (xq5 d.gr.hp T.cl_Grove T.na_Grove_parts (Eo g) (xq1 Z (ixp R et ?_)));refine z ?_;refine AO ?_;intro a7 bd k1 z ax;refine xwf Z Z d.hp T.cl_Jumps T.na_Jumps_grove (DV _ _ _ _ _) (xq5 d.gr.hp T.cl_Grove T.na_Grove_parts (Eo g) (ixt Z ht Z (ixp R ai ?_)));refine z ?_;refine AO ?_;intro a8 be k2 z ay;refine xwf Z Z d.hp T.cl_Jumps T.na_Jumps_grove (DV _ _ _ _ _) (xq5 d.gr.hp T.cl_Grove T.na_Grove_parts (Eo g) (ixt Z ht Z (ixp R aj ?_)));refine z ?_;refine AO ?_;intro ba bf k3 z az;refine xwf Z Z d.hp T.cl_Jumps T.na_Jumps_grove (DV _ _ _ _ _) (xq5 d.gr.hp T.cl_Grove T.na_Grove_parts (Eo g) (ixt Z ht Z (ixp R ak ?_)));refine z ?_;refine AO ?_;intro bb bg k4 z a4;refine xwf Z Z d.hp T.cl_Jumps T.na_Jumps_grove (DV _ _ _ _ _) (xq5 d.gr.hp T.cl_Grove T.na_Grove_parts (Eo g) (ixt Z ht Z (ixp R al ?_)));refine z ?_;have b:∀{x:Nat},An G x ((0:Nat):Int)->DC (x:Int):=λ{x} h=>by
   have:=d.ok.cell h;exact⟨by lia,by lia⟩
  have c_:Lc g m H H:=⟨λ_ _ e _ _ _ _=>e,λe=>e⟩
  refine xwf Z Z d.hp T.cl_Jumps T.na_Jumps_grove (DV _ _ _ _ _) (xq3 Z d.gr.hp (Dw g) ?_);refine FO (ttup (FO (cel9 d c_ j j j o j o q q v (al9 (b B) (b aq) (b V) (b X) (b W) (b C) (b aa) (b D) (b I)) A1 λk0 Y0 ae am x0 j0=>?_)));refine FO (cel9 j0 x0 o j o o j o q v v (al9 (b C) (b V) (b X) (b ar) (b B) (b Y) (b D) (b I) (b ac)) A1 λk1 Y1 af an x1 j1=>?_);refine FO (cel9 j1 x1 q j j o q v q q v (al9 (b D) (b W) (b B) (b C) (b aa) (b I) (b as) (b ab) (b ad)) A1 λk2 Y2 ag ao x2 j2=>?_);refine FO (cel9 j2 x2 v j o o q v q v v (al9 (b I) (b B) (b C) (b Y) (b D) (b ac) (b ab) (b ad) (b au)) A1 λk3 Y3 ah ap x3 j3=>?_);have lf:∀{k:Nat},k<8->An G k ((0:Nat):Int):=λ{k} h=>⟨_,d.ok.leaf k h,Z⟩
  refine⟨S_4,λu hu=>lnk (⟨.refl _ _,λe=>e,j3.gr,.refl d.ok⟩:Ln a g Y3 G 0 Y3 G) hu ⟨lf am,lf an,lf ao,lf ap⟩ A3 A1 λx G' H' s L e=>?_⟩;refine k x G' H' (x3.fr.trans (Fr.c s.fr)) (j3.fr s.fr s.gr L) L ⟨0,L.lev hl,C9 0,⟨_,e,Z⟩,?_⟩;apply AL;intro O y;obtain⟨rfl,rfl,rfl,rfl⟩:=Cw (L.get ea);obtain⟨rfl,rfl,rfl,rfl⟩:=Cw (L.get eb);obtain⟨rfl,rfl,rfl,rfl⟩:=Cw (L.get ec);obtain⟨rfl,rfl,rfl,rfl⟩:=Cw (L.get ed);obtain⟨rfl,rfl,rfl,rfl⟩:=Cw (L.get en);obtain⟨rfl,rfl,rfl,rfl⟩:=Cw e;apply y;clear y O;intro x' y' hx hy
  match x',hx,y',hy with
  |0,_,0,_=>exact ae.symm
  |1,_,0,_=>exact af.symm
  |0,_,1,_=>exact ag.symm
  |1,_,1,_=>exact ah.symm
inductive SpCj(a:Ad)(vs:List V)(H:Hp)(Q:VK):Prop
|mk (p dx gp mem pr l kc:R_) (g:GA) (G:Gv) (n e:Nat) (q:Sq) (_:vs=[.ref p,.int n,.int e]) (_:H p=some (.ins a.c_Jumps dx (jf5 g.p mem pr l kc))) (_:AE a H g G) (_:G[n]?=some q) (_:2+(e:Int)<=q.lev) (_:Q .non H):SpCj a vs H Q
def spCj(a:Ad):Sp:=λvs H Q _=>SpCj a vs H Q
theorem ok_cj(F:Fun K "check_jump" "Jumps.check_jump" Ds f fd)(T:Top K mg a)(r:BD P w K mg base CX0 3 a.c_Grove "level_of" IR (Ox a))(t:Cal P w K mg base CX0 1 "is_whole" RE TH):AT P w K mg base CX0 4 f fd On (spCj a):=by
 refine F.ok EN (λvs H Q E h=>?_) (λu A d s H vs Q E o h=>?_)
 .apply AL;intro c b;obtain⟨p,v,y,mem,B,l,z,g,G,n,e,q,rfl,_⟩:=h;apply b;clear b c;rfl
 .apply AL;intro c b;obtain⟨p,v,y,mem,B,l,z,g,G,n,e,q,rfl,m,j,x,C,k⟩:=h;apply b;clear b c;refine⟨_,(Ae (Av (i:=3) EN.nd Z O_9 (Aw (AK (pv 0) Z) r (rm o) Ao (Aa (pv 1) Ab))) (Ae (AS (AF Lb (pv 3) (CS Z T.k_LEAST_JUMPED) (AI _)) (Af BT) AD) (Af (AS (PW.pt (Ir (CB (Cv (AB t (rm o) Z Ao (Aa (pv 2) Ab)))) (Ft (CB (JU Ld Ld Ac (pv 2) (AG BU (pv 3) (CS Z T.k_LEAST_JUMPED))))))) (Af BT) AD)))),?_⟩
  try dsimp only[cxK]
  refine xwf Z Z m T.cl_Jumps T.na_Jumps_grove (DV _ _ _ _ _) (xq3 Z j.hp (FD g) (xq1 Z ⟨g,G,n,q,Z,j,x,?_⟩));refine xwb Z Z Z (xq1 Z ?_);rw[W3 (by lia:¬q.lev<2)];refine Bl ?_;refine⟨_,Z,_,Z,true,Z,Bl ⟨_,Z,_,_,Z,Z,_,Z,?_⟩⟩;rw[W1 (by lia:(0:Int)<=(e:Int))];refine CT (xwb Z Z Z (xq2 Z Z (xq1 Z ?_)));rw[W1 (by lia:(e:Int)<=q.lev-2)];exact Bl k
end
end J
namespace J
open PySem L2
theorem Tk(G:Gv):∀(l n x y i j:Nat),cel G l n (x+2^l*i) (y+2^l*j)=cel G l n x y
|0,n,x,y,i,j=>rfl
|l+1,n,x,y,i,j=>by
 show cel G l (qO G n (((x+2^(l+1)*i)/2^l)%2+2*(((y+2^(l+1)*j)/2^l)%2))) (x+2^(l+1)*i) (y+2^(l+1)*j)=cel G l (qO G n ((x/2^l)%2+2*((y/2^l)%2))) x y;have p:0<2^l:=Nat.pow_pos A3;have e:∀i:Nat,2^(l+1)*i=2^l*(2*i):=λi=>by rw[L7,U7]
 rw[e i,e j,P8 _ _ p,P8 _ _ p,S2,S2];exact Tk G l _ x y (2*i) (2*j)
theorem Ja(G:Gv)(l n:Nat){x y i j:Nat}(c:x<2^l)(d:y<2^l)(a:i<2)(b:j<2):AM G (l+1) n (x+2^l*i) (y+2^l*j)=AM G l (qO G n (i+2*j)) x y:=by
 unfold AM;show((cel G l (qO G n (((x+2^l*i)/2^l)%2+2*(((y+2^l*j)/2^l)%2))) (x+2^l*i) (y+2^l*j):Nat):Int)=_;have p:0<2^l:=Nat.pow_pos A3;rw[P8 _ _ p,P8 _ _ p,Nat.div_eq_of_lt c,Nat.div_eq_of_lt d,M5,M5,Nat.mod_eq_of_lt a,Nat.mod_eq_of_lt b,Tk]
theorem MU(r:AA)(c:Nat->Nat->Int)(n:Nat):∀m,Bh r (m+n) c=Bh r m (Bh r n c)
|0=>by rw[M5];rfl
|m+1=>by
 rw[show m+1+n=(m+n)+1 by lia];show stp r (Bh r (m+n) c)=stp r (Bh r m (Bh r n c));rw[MU r c n m]
theorem Qt(r:AA){c d:Nat->Nat->Int}{X Y:Nat}:∀(k x y:Nat),k<=x->k<=y->(∀u v,x-k<=u->u<=x+k->y-k<=v->v<=y+k->c u v=d (u+X) (v+Y))->Bh r k c x y=Bh r k d (x+X) (y+Y)
|0,x,y,_,_,h=>h x y A1 A1 A1 A1
|k+1,x,y,hx,hy,h=>by
 have e:∀u v,x-1<=u->u<=x+1->y-1<=v->v<=y+1->Bh r k c u v=Bh r k d (u+X) (v+Y):=λu v f g i j=>Qt r k u v A1 A1 λa b l m n o=>h a b A1 A1 A1 A1;show Co r (Bh r k c x y) [Bh r k c (x-1) (y-1),Bh r k c x (y-1),Bh r k c (x+1) (y-1),Bh r k c (x-1) y,Bh r k c (x+1) y,Bh r k c (x-1) (y+1),Bh r k c x (y+1),Bh r k c (x+1) (y+1)]=Co r (Bh r k d (x+X) (y+Y)) [Bh r k d (x+X-1) (y+Y-1),Bh r k d (x+X) (y+Y-1),Bh r k d (x+X+1) (y+Y-1),Bh r k d (x+X-1) (y+Y),Bh r k d (x+X+1) (y+Y),Bh r k d (x+X-1) (y+Y+1),Bh r k d (x+X) (y+Y+1),Bh r k d (x+X+1) (y+Y+1)];rw[e x y A1 A1 A1 A1,e (x-1) (y-1) A1 A1 A1 A1,e x (y-1) A1 A1 A1 A1,e (x+1) (y-1) A1 A1 A1 A1,e (x-1) y A1 A1 A1 A1,e (x+1) y A1 A1 A1 A1,e (x-1) (y+1) A1 A1 A1 A1,e x (y+1) A1 A1 A1 A1,e (x+1) (y+1) A1 A1 A1 A1];rw[show x-1+X=x+X-1 by lia,show y-1+Y=y+Y-1 by lia,show x+1+X=x+X+1 by lia,show y+1+Y=y+Y+1 by lia]
def Vw(G:Gv)(c:Nat->Nat->Int)(l m X Y:Nat):Prop:=∀x y,x<2^l->y<2^l->AM G l m x y=c (x+X) (y+Y)
theorem Vw.q{G:Gv}{c:Nat->Nat->Int}{l m X Y i j:Nat}(h:Vw G c (l+1) m X Y)(a:i<2)(b:j<2):Vw G c l (qO G m (i+2*j)) (X+2^l*i) (Y+2^l*j):=λx y d e=>by
 rw[<-Ja G l m d e a b,h _ _ ?_ ?_]
 .rw[show x+2^l*i+X=x+(X+2^l*i) by lia,show y+2^l*j+Y=y+(Y+2^l*j) by lia]
 .rw[L7];have:2^l*i<=2^l*1:=N1 _ A1;lia
 .rw[L7];have:2^l*j<=2^l*1:=N1 _ A1;lia
theorem Vw.of{G:Gv}{c:Nat->Nat->Int}{l m X Y:Nat}(d:Vw G c l (qO G m 0) X Y)(e:Vw G c l (qO G m 1) (X+2^l) Y)(f:Vw G c l (qO G m 2) X (Y+2^l))(g:Vw G c l (qO G m 3) (X+2^l) (Y+2^l)):Vw G c (l+1) m X Y:=λx y h k=>by
 rw[L7]at h k;by_cases b:x<2^l
 .by_cases a:y<2^l
  .have:=Ja G l m b a (i:=0) (j:=0) A3 A3;rw[show x+2^l*0=x by lia,show y+2^l*0=y by lia]at this;rw[this];exact d x y b a
  .have:=Ja G l m b (y:=y-2^l) A1 (i:=0) (j:=1) A3 A3;rw[show x+2^l*0=x by lia,show y-2^l+2^l*1=y by lia]at this;rw[this,f x (y-2^l) b A1,show y-2^l+(Y+2^l)=y+Y by lia]
 .by_cases a:y<2^l
  .have:=Ja G l m (x:=x-2^l) A1 a (i:=1) (j:=0) A3 A3;rw[show y+2^l*0=y by lia,show x-2^l+2^l*1=x by lia]at this;rw[this,e (x-2^l) y A1 a,show x-2^l+(X+2^l)=x+X by lia]
  .have:=Ja G l m (x:=x-2^l) (y:=y-2^l) A1 A1 (i:=1) (j:=1) A3 A3;rw[show x-2^l+2^l*1=x by lia,show y-2^l+2^l*1=y by lia]at this;rw[this,g (x-2^l) (y-2^l) A1 A1,show x-2^l+(X+2^l)=x+X by lia,show y-2^l+(Y+2^l)=y+Y by lia]
theorem Vw.jump{G:Gv}{r:AA}{c:Nat->Nat->Int}{l e m k X Y:Nat}(h:Vw G c (l+2) m X Y)(a:e<=l)(j:∀x y,x<2^(l+1)->y<2^(l+1)->AM G (l+1) k x y=Bh r (2^e) (AM G (l+2) m) (x+2^l) (y+2^l)):Vw G (Bh r (2^e) c) (l+1) k (X+2^l) (Y+2^l):=λx y b d=>by
 have p:2^e<=2^l:=Nat.pow_le_pow_right A3 a;have o:2^(l+1)=2^l*2:=L7 ..;have q:2^(l+2)=2^l*2*2:=by rw[L7,L7]
 rw[j x y b d,Qt r (X:=X) (Y:=Y) (2^e) (x+2^l) (y+2^l) A1 A1 λu v f g i n=>h u v A1 A1];rw[show x+2^l+X=x+(X+2^l) by lia,show y+2^l+Y=y+(Y+2^l) by lia]
seal L2.PA L2.PE L2.PS L2.PSs L2.PT L2.PW
theorem Vw.at'{G:Gv}{c:Nat->Nat->Int}{l m X Y X' Y':Nat}(h:Vw G c l m X Y)(a:X=X')(b:Y=Y'):Vw G c l m X' Y':=by
 subst a;subst b;exact h
theorem Vw.goes{G a:Gv}{c:Nat->Nat->Int}{l m X Y i:Nat}(h:Vw G c l m X Y)(ok:GOk G)(b:AR G a i)(f:An G m (l:Int)):Vw a c l m X Y:=λx y d e=>by
 rw[AQ ok b f];exact h x y d e
section
variable{P:N_}{w:Q_}{K:O_}{mg:C_}{base:T_}{a:Ad}
inductive Wv(a:Ad)(vs:List V)(H:Hp)(Q:VK):Prop
|mk (g:GA) (G:Gv) (n l:Nat) (_:vs=[.ref g.p,.int n]) (_:AE a H g G) (_:GOk G) (_:An G n ((l+1+1:Nat):Int)) (_:l<=46) (_:G.length<8000000) (_:∀(L:R_)(ks:J_)(G':Gv)(H':Hp),Fr g H H'->AE a H' g G'->AR G G' 5->H' L=some (.lst (ks.map λ(k:Nat)=>V.int (k:Int)))->ks.length=9->(∀i j,i<3->j<3->∃k,ks[i+3*j]?=some k/\An G' k ((l+1:Nat):Int)/\Vw G' (AM G (l+2) n) (l+1) k (2^l*i) (2^l*j))->Q (.ref L) H'):Wv a vs H Q
def LF(a:Ad):Sp:=λvs H Q _=>Wv a vs H Q
theorem VJ{K:O_}{a:Ad}{b H:Hp}{g:GA}{G0 G:Gv}{j:Nat}{σ:St}{q t u v:Nat}{E F I L:R_}{d f h i:List V}{A B C D:Int}{x y z w:Nat}{l:Int}{Q:VK}(s:Ln a g b G0 j H G)(T:b E=some (.tup d))(U:b F=some (.tup f))(X:b I=some (.tup h))(Y:b L=some (.tup i))(lv:An G0 x l/\An G0 y l/\An G0 z l/\An G0 w l)(few:l<=47/\G0.length+j<9000000)
  (k:∀(n:Nat)(m:Gv)(o:Hp),Ln a g b G0 (j+1) o m->AR G m 1->m[n]?=some ⟨[(x:Int),(y:Int),(z:Int),(w:Int)],l+1⟩->Q (.int n) o) (e:(σ[0]?=some (some (.ref g.p))/\σ[q]?=some (some (.ref E))/\σ[t]?=some (some (.ref F))/\σ[u]?=some (some (.ref I))/\σ[v]?=some (some (.ref L)))/\atI d A=some (.int x)/\atI f B=some (.int y)/\atI h C=some (.int z)/\atI i D=some (.int w):=by exact⟨⟨Z,Z,Z,Z,Z⟩,Z,Z,Z,Z⟩):Sf a.c_Grove "linked" (EZ a) [] E0 (GD 0) (CO (UQ (CO (tOp (Jj K) (GD q) (tC (V.int A))) (CO (tOp (Jj K) (GD t) (tC (V.int B))) (CO (tOp (Jj K) (GD u) (tC (V.int C))) (CO (tOp (Jj K) (GD v) (tC (V.int D))) OZ))))) OZ) σ H Q:=by
 apply AL;intro M c;obtain⟨⟨r,r1,r2,r3,r4⟩,N,O,R,S⟩:=e;apply c;clear c M;exact⟨_,r,(xq3 Z s.gr.hp (Dw g) (ixt r1 (s.kt T) N (ixt r2 (s.kt U) O (ixt r3 (s.kt X) R (ixt r4 (s.kt Y) S ⟨S_4,λ_ hu=>lnk s hu lv few.1 few.2 k⟩)))))⟩
theorem vw4{G:Gv}{c:Nat->Nat->Int}{l m x y z w X Y:Nat}{j:Int}(e:G[m]?=some ⟨[(x:Int),(y:Int),(z:Int),(w:Int)],j⟩)(f:Vw G c l x (2^l*X) (2^l*Y))(g:Vw G c l y (2^l*(X+1)) (2^l*Y))(h:Vw G c l z (2^l*X) (2^l*(Y+1)))(i:Vw G c l w (2^l*(X+1)) (2^l*(Y+1))):Vw G c (l+1) m (2^l*X) (2^l*Y):=by
 apply AL;intro d b;obtain⟨rfl,rfl,rfl,rfl⟩:=Cw e;apply b;clear b d;exact .of f g h i
theorem vwQ{G:Gv}{c:Nat->Nat->Int}{l m x y z w X Y:Nat}{f:Int}(e:G[m]?=some ⟨[(x:Int),(y:Int),(z:Int),(w:Int)],f⟩)(v:Vw G c (l+1) m (2^l*X) (2^l*Y)):Vw G c l x (2^l*X) (2^l*Y)/\Vw G c l y (2^l*(X+1)) (2^l*Y)/\Vw G c l z (2^l*X) (2^l*(Y+1))/\Vw G c l w (2^l*(X+1)) (2^l*(Y+1)):=by
 apply AL;intro d b;obtain⟨rfl,rfl,rfl,rfl⟩:=Cw e;apply b;clear b d;exact⟨v.q (i:=0) (j:=0) A3 A3,(v.q (i:=1) (j:=0) A3 A3).at' A1 Z,(v.q (i:=0) (j:=1) A3 A3).at' Z A1,(v.q (i:=1) (j:=1) A3 A3).at' A1 A1⟩
theorem ok_nine(F:Fun K "nine_parts" "nine_parts" GQ f fd)(T:Top K mg a)(W:BD P w K mg base CX0 2 a.c_Grove "linked" Br (EZ a)):AT P w K mg base CX0 3 f fd Dd (LF a):=by
 refine F.ok CJ (λvs H Q E h=>?_) (λbh A an s H vs Q E hr h=>?_)
 .apply AL;intro z b;obtain⟨g,G,n,l,rfl,_⟩:=h;apply b;clear b z;rfl
 .apply AL;intro z b;obtain⟨g,G,n,l,rfl,C,ok,hl,bj,few,k⟩:=h;obtain⟨qa,qb,qc,qd,en,la,lb,lc,ld⟩:=ok.four hl;obtain⟨a0,a1,a2,a3,ea,bl,af,ag,D⟩:=ok.four la;obtain⟨b0,b1,b2,b3,eb,ah,bm,I,ai⟩:=ok.four lb;obtain⟨c0,c1,c2,c3,ec,aj,M,bn,ak⟩:=ok.four lc;obtain⟨d0,d1,d2,d3,ed,N,al,am,bo⟩:=ok.four ld;obtain⟨ts,Y,h4⟩:=C.pt;obtain⟨t,et,v⟩:=PairedM.get h4 en;obtain⟨ta,aa,d⟩:=PairedM.get h4 ea;obtain⟨tb,ab,m⟩:=PairedM.get h4 eb;obtain⟨tc,ac,p⟩:=PairedM.get h4 ec;obtain⟨td,ad,q⟩:=PairedM.get h4 ed;apply b;clear b z;have s0:Ln a g H G 0 H G:=⟨.refl _ _,λe=>e,C,.refl ok⟩
  refine⟨_,(Ae (Av (i:=2) CJ.nd Z O_9 (Ah Au (AK (pv 0) Z) (pv 1) R_9)) (Ae (Av (i:=3) CJ.nd Z O_9 (Ah Au (AK (pv 0) Z) (Ah Ap (pv 2) Ac R_9) R_9)) (Ae (Av (i:=4) CJ.nd Z O_9 (Ah Au (AK (pv 0) Z) (Ah Ap (pv 2) Ac R_9) R_9)) (Ae (Av (i:=5) CJ.nd Z O_9 (Ah Au (AK (pv 0) Z) (Ah Ap (pv 2) Ac R_9) R_9)) (Ae (Av (i:=6) CJ.nd Z O_9 (Ah Au (AK (pv 0) Z) (Ah Ap (pv 2) Ac R_9) R_9)) (Af (Ax (Bq (Aa (Ah Ap (pv 2) Ac R_9) (Aa (Aw (pv 0) W (rm hr) Ao (BC (Aa (Ah Ap (pv 3) Ac R_9) (Aa (Ah Ap (pv 4) Ac R_9) (Aa (Ah Ap (pv 3) Ac R_9) (Aa (Ah Ap (pv 4) Ac R_9) Ab)))) Ab)) (Aa (Ah Ap (pv 2) Ac R_9) (Aa (Aw (pv 0) W (rm hr) Ao (BC (Aa (Ah Ap (pv 3) Ac R_9) (Aa (Ah Ap (pv 3) Ac R_9) (Aa (Ah Ap (pv 5) Ac R_9) (Aa (Ah Ap (pv 5) Ac R_9) Ab)))) Ab)) (Aa (Aw (pv 0) W (rm hr) Ao (BC (Aa (Ah Ap (pv 3) Ac R_9) (Aa (Ah Ap (pv 4) Ac R_9) (Aa (Ah Ap (pv 5) Ac R_9) (Aa (Ah Ap (pv 6) Ac R_9) Ab)))) Ab)) (Aa (Aw (pv 0) W (rm hr) Ao (BC (Aa (Ah Ap (pv 4) Ac R_9) (Aa (Ah Ap (pv 4) Ac R_9) (Aa (Ah Ap (pv 6) Ac R_9) (Aa (Ah Ap (pv 6) Ac R_9) Ab)))) Ab)) (Aa (Ah Ap (pv 2) Ac R_9) (Aa (Aw (pv 0) W (rm hr) Ao (BC (Aa (Ah Ap (pv 5) Ac R_9) (Aa (Ah Ap (pv 6) Ac R_9) (Aa (Ah Ap (pv 5) Ac R_9) (Aa (Ah Ap (pv 6) Ac R_9) Ab)))) Ab)) (Aa (Ah Ap (pv 2) Ac R_9) Ab))))))))))))))))),?_⟩
  try dsimp only[cxK]
  refine AO ?_;intro a6 bc k0 u ax;refine xwf Z Z C.hp T.cl_Grove T.na_Grove_parts (Eo g) (xq1 Z (ixp Y et ?_));refine u ?_;refine AO ?_;intro a7 bd k1 u ay;refine xwf Z Z C.hp T.cl_Grove T.na_Grove_parts (Eo g) (ixt Z v Z (ixp Y aa ?_));refine u ?_;refine AO ?_;intro a8 be k2 u az;refine xwf Z Z C.hp T.cl_Grove T.na_Grove_parts (Eo g) (ixt Z v Z (ixp Y ab ?_));refine u ?_;refine AO ?_;intro ba bf k3 u a4;refine xwf Z Z C.hp T.cl_Grove T.na_Grove_parts (Eo g) (ixt Z v Z (ixp Y ac ?_));refine u ?_;refine AO ?_;intro bb bg k4 u a5;refine xwf Z Z C.hp T.cl_Grove T.na_Grove_parts (Eo g) (ixt Z v Z (ixp Y ad ?_));refine u ?_;refine tretl (FO (ixt Z (s0.kt v) Z (FO (VJ s0 d m d m ⟨af,ah,D,I⟩ ⟨by lia,by lia⟩ λm1 G1 H1 s1 bi e1=>?_))));refine FO (ixt Z (s1.kt v) Z (FO (VJ s1 d d p p ⟨ag,D,aj,M⟩ ⟨by lia,by lia⟩ λm3 G3 H3 s3 ae e3=>?_)));refine FO (VJ s3 d m p q ⟨D,I,M,N⟩ ⟨by lia,by lia⟩ λm4 G4 H4 s4 X e4=>?_);refine FO (VJ s4 m m q q ⟨I,ai,N,al⟩ ⟨by lia,by lia⟩ λm5 G5 H5 s5 B e5=>?_);refine FO (ixt Z (s5.kt v) Z (FO (VJ s5 p q p q ⟨M,N,ak,am⟩ ⟨by lia,by lia⟩ λm7 G7 H7 s7 r e7=>?_)));refine FO (ixt Z (s7.kt v) Z ⟨(by show 9<=sizeLine;decide),λL hL=>?_⟩);have c:=s7.go;have sL:=Al (o:=.lst (([qa,m1,qb,m3,m4,m5,qc,m7,qd]:J_).map λ(k:Nat)=>V.int (k:Int))) hL;refine k L [qa,m1,qb,m3,m4,m5,qc,m7,qd] G7 _ (s7.fr.trans (Az.fr sL)) (s7.gr.same sL) c Ag Z ?_;have v0:Vw G (AM G (l+2) n) (l+1+1) n (2^(l+1)*0) (2^(l+1)*0):=λx y _ _=>Z;have p1:2^(l+1)=2^l*2:=L7 ..;apply AL;intro z b;obtain⟨va,vb,vc,vd⟩:=vwQ (c.get en) (v0.goes ok c hl);apply b;clear b z;have va:=va.at' (X':=2^l*0) (Y':=2^l*0) A1 A1;have vb:=vb.at' (X':=2^l*2) (Y':=2^l*0) A1 A1;have vc:=vc.at' (X':=2^l*0) (Y':=2^l*2) A1 A1;have vd:=vd.at' (X':=2^l*2) (Y':=2^l*2) A1 A1;apply AL;intro z b;obtain⟨bp,ao,ap,O⟩:=vwQ (c.get ea) va;obtain⟨aq,bq,R,ar⟩:=vwQ (c.get eb) vb;obtain⟨as,S,br,au⟩:=vwQ (c.get ec) vc;obtain⟨U,av,aw,bt⟩:=vwQ (c.get ed) vd;apply b;clear b z;have g5:=r.get e5;have g4:=r.get (B.get e4);have g3:=r.get (B.get (X.get e3));have g1:=r.get (B.get (X.get (ae.get e1)));intro i j hi hj
  match i,hi,j,hj with
  |0,_,0,_=>exact⟨qa,Z,c.lev la,va⟩
  |1,_,0,_=>exact⟨m1,Z,⟨_,g1,Z⟩,vw4 g1 ao aq O R⟩
  |2,_,0,_=>exact⟨qb,Z,c.lev lb,vb⟩
  |0,_,1,_=>exact⟨m3,Z,⟨_,g3,Z⟩,vw4 g3 ap O as S⟩
  |1,_,1,_=>exact⟨m4,Z,⟨_,g4,Z⟩,vw4 g4 O R S U⟩
  |2,_,1,_=>exact⟨m5,Z,⟨_,g5,Z⟩,vw4 g5 R ar U av⟩
  |0,_,2,_=>exact⟨qc,Z,c.lev lc,vc⟩
  |1,_,2,_=>exact⟨m7,Z,⟨_,e7,Z⟩,vw4 e7 S U au aw⟩
  |2,_,2,_=>exact⟨qd,Z,c.lev ld,vd⟩
inductive Tv(vs:List V)(H:Hp)(Q:VK):Prop
|mk (L:R_) (k0 k1 k2 k3 k4 k5 k6 k7 k8:Nat) (_:vs=[.ref L]) (_:H L=some (.lst [.int k0,.int k1,.int k2,.int k3,.int k4,.int k5,.int k6,.int k7,.int k8])) (_:∀(M t0 t1 t2 t3:R_)(H':Hp),Az H H'->H' M=some (.lst [.ref t0,.ref t1,.ref t2,.ref t3])->H' t0=some (.tup [.int k0,.int k1,.int k3,.int k4])->H' t1=some (.tup [.int k1,.int k2,.int k4,.int k5])->H' t2=some (.tup [.int k3,.int k4,.int k6,.int k7])->H' t3=some (.tup [.int k4,.int k5,.int k7,.int k8])->Q (.ref M) H'):Tv vs H Q
def JL:Sp:=λvs H Q _=>Tv vs H Q
theorem VC(F:Fun K "fours_of" "fours_of" Jv f fd)(T:Top K mg a):AT P w K mg base CX0 1 f fd RG JL:=by
 refine F.ok QA (λvs H Q E h=>?_) (λaa A Y s H vs Q E hr h=>?_)
 .apply AL;intro S c;obtain⟨L,x,i,y,l,b,m,z,n,B,rfl,_⟩:=h;apply c;clear c S;rfl
 .apply AL;intro S c;obtain⟨L,x,i,y,l,b,m,z,n,B,rfl,q,k⟩:=h;apply c;clear c S;refine⟨_,(Af (Ax (Bq (BC (Aa (Ah Au (pv 0) Ac R_9) (Aa (Ah Au (pv 0) Ac R_9) (Aa (Ah Au (pv 0) Ac R_9) (Aa (Ah Au (pv 0) Ac R_9) Ab)))) (BC (Aa (Ah Au (pv 0) Ac R_9) (Aa (Ah Au (pv 0) Ac R_9) (Aa (Ah Au (pv 0) Ac R_9) (Aa (Ah Au (pv 0) Ac R_9) Ab)))) (BC (Aa (Ah Au (pv 0) Ac R_9) (Aa (Ah Au (pv 0) Ac R_9) (Aa (Ah Au (pv 0) Ac R_9) (Aa (Ah Au (pv 0) Ac R_9) Ab)))) (BC (Aa (Ah Au (pv 0) Ac R_9) (Aa (Ah Au (pv 0) Ac R_9) (Aa (Ah Au (pv 0) Ac R_9) (Aa (Ah Au (pv 0) Ac R_9) Ab)))) Ab))))))),?_⟩
  try dsimp only[cxK]
  refine xwi Z Z Z (SqL.of q) (Am (j:=0) Z) (xwi Z Z Z (SqL.of q) (Am (j:=1) Z) (xwi Z Z Z (SqL.of q) (Am (j:=3) Z) (xwi Z Z Z (SqL.of q) (Am (j:=4) Z) ⟨S_4,λG U=>?_⟩)));have s0:=Al (o:=.tup [.int (x:Int),.int (i:Int),.int (l:Int),.int (b:Int)]) U;have h0:upd H G (.tup [.int (x:Int),.int (i:Int),.int (l:Int),.int (b:Int)]) G=some (.tup [.int (x:Int),.int (i:Int),.int (l:Int),.int (b:Int)]):=Ag;generalize r:upd H G (.tup [.int (x:Int),.int (i:Int),.int (l:Int),.int (b:Int)])=X0 at s0 h0;have d:=s0 _ _ q
  first|rw[r]|(show ∃_,_;rw[r])|skip
  refine xwi Z Z Z (SqL.of d) (Am (j:=1) Z) (xwi Z Z Z (SqL.of d) (Am (j:=2) Z) (xwi Z Z Z (SqL.of d) (Am (j:=4) Z) (xwi Z Z Z (SqL.of d) (Am (j:=5) Z) ⟨S_4,λI V=>?_⟩)));have R:=Al (o:=.tup [.int (i:Int),.int (y:Int),.int (b:Int),.int (m:Int)]) V;have h1:upd X0 I (.tup [.int (i:Int),.int (y:Int),.int (b:Int),.int (m:Int)]) I=some (.tup [.int (i:Int),.int (y:Int),.int (b:Int),.int (m:Int)]):=Ag;generalize t:upd X0 I (.tup [.int (i:Int),.int (y:Int),.int (b:Int),.int (m:Int)])=X1 at R h1;have e:=R _ _ d
  first|rw[t]|(show ∃_,_;rw[t])|skip
  refine xwi Z Z Z (SqL.of e) (Am (j:=3) Z) (xwi Z Z Z (SqL.of e) (Am (j:=4) Z) (xwi Z Z Z (SqL.of e) (Am (j:=6) Z) (xwi Z Z Z (SqL.of e) (Am (j:=7) Z) ⟨S_4,λN W=>?_⟩)));have C:=Al (o:=.tup [.int (l:Int),.int (b:Int),.int (z:Int),.int (n:Int)]) W;have h2:upd X1 N (.tup [.int (l:Int),.int (b:Int),.int (z:Int),.int (n:Int)]) N=some (.tup [.int (l:Int),.int (b:Int),.int (z:Int),.int (n:Int)]):=Ag;generalize u:upd X1 N (.tup [.int (l:Int),.int (b:Int),.int (z:Int),.int (n:Int)])=X2 at C h2;have g:=C _ _ e
  first|rw[u]|(show ∃_,_;rw[u])|skip
  refine xwi Z Z Z (SqL.of g) (Am (j:=4) Z) (xwi Z Z Z (SqL.of g) (Am (j:=5) Z) (xwi Z Z Z (SqL.of g) (Am (j:=7) Z) (xwi Z Z Z (SqL.of g) (Am (j:=8) Z) ⟨S_4,λO X=>?_⟩)));have p:=Al (o:=.tup [.int (b:Int),.int (m:Int),.int (n:Int),.int (B:Int)]) X;have h3:upd X2 O (.tup [.int (b:Int),.int (m:Int),.int (n:Int),.int (B:Int)]) O=some (.tup [.int (b:Int),.int (m:Int),.int (n:Int),.int (B:Int)]):=Ag;generalize v:upd X2 O (.tup [.int (b:Int),.int (m:Int),.int (n:Int),.int (B:Int)])=X3 at p h3;have ab:=p _ _ g
  first|rw[v]|(show ∃_,_;rw[v])|skip
  refine⟨S_4,λM hM=>?_⟩;have D:=Al (o:=.lst [.ref G,.ref I,.ref N,.ref O]) hM;exact k M G I N O _ ((((s0.trans R).trans C).trans p).trans D) Ag (D _ _ (p _ _ (C _ _ (R _ _ h0)))) (D _ _ (p _ _ (C _ _ h1))) (D _ _ (p _ _ h2)) (D _ _ h3)
inductive SpMet(a:Ad)(vs:List V)(H:Hp)(Q:VK):Prop
|mk (g:GA) (G:Gv) (t:R_) (f0 f1 f2 f3 l:Nat) (_:vs=[.ref g.p,.ref t]) (_:AE a H g G) (_:GOk G) (_:H t=some (.tup [.int f0,.int f1,.int f2,.int f3])) (_:An G f0 ((l+1:Nat):Int)/\An G f1 ((l+1:Nat):Int)/\An G f2 ((l+1:Nat):Int)/\An G f3 ((l+1:Nat):Int)) (_:l<=47) (_:G.length<9000000) (_:∀(k:Nat)(G':Gv)(H':Hp),Fr g H H'->AE a H' g G'->AR G G' 1->G'[k]?=some ⟨[((qO G f0 3:Nat):Int),((qO G f1 2:Nat):Int),((qO G f2 1:Nat):Int),((qO G f3 0:Nat):Int)],(l:Int)+1⟩->Q (.int k) H'):SpMet a vs H Q
def Sm(a:Ad):Sp:=λvs H Q _=>SpMet a vs H Q
theorem ok_met(F:Fun K "met_in_the_middle" "met_in_the_middle" Dg f fd)(T:Top K mg a)(a9:BD P w K mg base CX0 2 a.c_Grove "linked" Br (EZ a)):AT P w K mg base CX0 3 f fd Cr (Sm a):=by
 refine F.ok Ez (λvs H Q E h=>?_) (λac A W s H vs Q E hr h=>?_)
 .apply AL;intro y b;obtain⟨g,G,t,f0,f1,f2,f3,l,rfl,_⟩:=h;apply b;clear b y;rfl
 .apply AL;intro y b;obtain⟨g,G,t,f0,f1,f2,f3,l,rfl,v,ok,x,⟨l0,l1,l2,l3⟩,ad,few,k⟩:=h;obtain⟨ts,q,r⟩:=v.pt;obtain⟨aq,ar,as,c,e0,ae,af,ag,R⟩:=ok.four l0;obtain⟨u0,z,L⟩:=PairedM.get r e0;obtain⟨a3,a4,a5,X⟩:=Cw e0;obtain⟨au,av,d,aw,e1,ah,ai,S,aj⟩:=ok.four l1;obtain⟨u1,B,M⟩:=PairedM.get r e1;obtain⟨a6,a7,Y,a8⟩:=Cw e1;obtain⟨ax,m,ay,az,e2,ak,U,al,am⟩:=ok.four l2;obtain⟨u2,C,N⟩:=PairedM.get r e2;obtain⟨ba,aa,bb,bc⟩:=Cw e2;obtain⟨p,a0,a1,a2,e3,V,an,ao,ap⟩:=ok.four l3;obtain⟨u3,D,O⟩:=PairedM.get r e3;obtain⟨ab,bd,be,bf⟩:=Cw e3;apply b;clear b y;rw[X,Y,aa,ab]at k;refine⟨_,(Ae (Av (i:=2) Ez.nd Z O_9 (AK (pv 0) Z)) (Af (Ax (Aw (pv 0) a9 (rm hr) Ao (BC (Aa (Ah Ap (Ah Au (pv 2) (Ah Ap (pv 1) Ac R_9) R_9) Ac R_9) (Aa (Ah Ap (Ah Au (pv 2) (Ah Ap (pv 1) Ac R_9) R_9) Ac R_9) (Aa (Ah Ap (Ah Au (pv 2) (Ah Ap (pv 1) Ac R_9) R_9) Ac R_9) (Aa (Ah Ap (Ah Au (pv 2) (Ah Ap (pv 1) Ac R_9) R_9) Ac R_9) Ab)))) Ab))))),?_⟩
  try dsimp only[cxK]
  refine xwf Z Z v.hp T.cl_Grove T.na_Grove_parts (Eo g) ?_;refine xwn Z Z v.hp (Dw g) Z (xwi Z Z Z (SqT.of x) (Am (j:=0) Z) (xq4 Z Z (SqL.of q) (Am (by rw[C7,z];rfl)) (xq4 Z Z (SqT.of L) (Am (j:=3) Z) (xwj Z Z Z Z (SqT.of x) (Am (j:=1) Z) (xq4 Z Z (SqL.of q) (Am (by rw[C7,B];rfl)) (xq4 Z Z (SqT.of M) (Am (j:=2) Z) (xwj Z Z Z Z (SqT.of x) (Am (j:=2) Z) (xq4 Z Z (SqL.of q) (Am (by rw[C7,C];rfl)) (xq4 Z Z (SqT.of N) (Am (j:=1) Z) (xwj Z Z Z Z (SqT.of x) (Am (j:=3) Z) (xq4 Z Z (SqL.of q) (Am (by rw[C7,D];rfl)) (xq4 Z Z (SqT.of O) (Am (j:=0) Z) ⟨S_4,λu hu=>?_⟩))))))))))));have s1:=Al (o:=.tup [.int (c:Int),.int (d:Int),.int (m:Int),.int (p:Int)]) hu;exact⟨g,G,u,c,d,m,p,(l:Int),Z,v.same s1,ok,Ag,⟨R,S,U,V⟩,by lia,few,λn G' H' fr I go e=>k n G' H' ((Az.fr s1).trans fr) I go e⟩
end
end J
namespace J
open PySem L2
def Sv(o:HO):Prop:=Nv o\/∃xs:List V,o=.lst xs/\xs.length<=50
def KpS(H H':Hp):Prop:=∀b o,H b=some o->Sv o->H' b=some o
theorem Sv.lst{xs:List V}(h:xs.length<=50):Sv (.lst xs):=.inr ⟨xs,Z,h⟩
theorem Bs.long{G:Gv}(h:Bs G):56<=G.length:=(B9.mp (h 47 A3)).1
theorem Sv.nl{b x:R_}{H:Hp}{o:HO}{xs:List V}(s:Sv o)(e:H b=some o)(a:H x=some (.lst xs))(d:50<xs.length):b≠x:=λz=>by
 rw[z,a]at e;cases e;rcases s with s|⟨ys,c,f⟩
 .cases s
 .cases c;lia
theorem Sv.nt{b x:R_}{H:Hp}{o:HO}{k:List (List Key×V)}(s:Sv o)(e:H b=some o)(a:H x=some (.dT k)):b≠x:=λz=>by
 rw[z,a]at e;cases e;rcases s with s|⟨ys,c,d⟩
 .cases s
 .cases c
theorem Sv.nk{b x:R_}{H:Hp}{o:HO}{k:List (Key×V)}(s:Sv o)(e:H b=some o)(a:H x=some (.dK k)):b≠x:=λz=>by
 rw[z,a]at e;cases e;rcases s with s|⟨ys,c,d⟩
 .cases s
 .cases c
theorem Fr.kps{a:Ad}{H d:Hp}{g:GA}{G:Gv}(f:Fr g H d)(c:AE a H g G)(j:56<=G.length):KpS H d:=by
 intro b o e s;obtain⟨k,h,i⟩:=c.pt;have lt:k.length=G.length:=Y4 i;exact f _ _ e (s.nl e c.lv (by rw[B8];lia)) (s.nl e h (by rw[B8];lia)) (s.nt e c.nm)
theorem FrJ.kps{a:Ad}{H d:Hp}{g:GA}{G:Gv}{N M:Nat}{r:AA}{m:MA}(f:FrJ g m H d)(c:AE a H g G)(q:56<=G.length)(h:EM H g G N M r m):KpS H d:=by
 intro b o e s;obtain⟨t,l,n⟩:=c.pt;obtain⟨u,i,_⟩:=h.ce;have lt:t.length=G.length:=Y4 n;refine f _ _ e (s.nl e c.lv (by rw[B8];lia)) (s.nl e l (by rw[B8];lia)) (s.nt e c.nm) (s.nt e i) λz=>?_;obtain⟨j,p⟩:=F6 z;obtain⟨v,k,_⟩:=h.sq j b p;exact s.nk e k Z
theorem Lu{G:Gv}(ok:GOk G):∀(l:Nat){n m:Nat},An G n (l:Int)->An G m (l:Int)->(∀x y,x<2^l->y<2^l->AM G l n x y=AM G l m x y)->n=m
|0,n,m,_,_,h=>K1 (h 0 0 A3 A3)
|l+1,n,m,hn,hm,h=>by
 have part:∀i j,i<2->j<2->qO G n (i+2*j)=qO G m (i+2*j):=λi j g k=>by
  refine Lu ok l (Cu ok hn A1) (Cu ok hm A1) λx y o p=>?_;rw[<-Ja G l n o p g k,<-Ja G l m o p g k];have C:2^l*i<=2^l*1:=N1 _ A1;have D:2^l*j<=2^l*1:=N1 _ A1;exact h _ _ (by rw[L7];lia) (by rw[L7];lia)
 obtain⟨x,y,z,w,e,_⟩:=ok.four hn;obtain⟨v,A,B,u,f,_⟩:=ok.four hm;obtain⟨a0,a1,a2,a3⟩:=Cw e;obtain⟨q,r,s,t⟩:=Cw f;have a:=part 0 0 A3 A3;have b:=part 1 0 A3 A3;have c:=part 0 1 A3 A3;have d:=part 1 1 A3 A3;have a:x=v:=a0.symm.trans (a.trans q);have b:y=A:=a1.symm.trans (b.trans r);have c:z=B:=a2.symm.trans (c.trans s);have d:w=u:=a3.symm.trans (d.trans t);refine ok.one e f ?_;rw[a,b,c,d]
abbrev Sht:=Nat->Nat->Int
abbrev KTy:=Nat->Nat->Sht->Prop
def UE(l:Nat)(φ ψ:Sht):Prop:=∀x y,x<2^(l+2)->y<2^(l+2)->φ x y=ψ x y
noncomputable def s47(f:L_):Nat:=((List.range 47).map f).sum
theorem Sh(f:L_)(e:Nat):∀l:List Nat,l.Nodup->(l.map λi=>if i=e then f i+1 else f i).sum=(l.map f).sum+if e∈l then 1 else 0
|[],_=>by simp
|a::l,h=>by
 rw[N8]at h;rw[J1,J1,P1,P1,Sh f e l h.2];by_cases z:a=e
 .subst z;rw[W9 rfl,W4 h.1,W9 D8];lia
 .rw[W4 z];by_cases y:e∈l
  .rw[W9 y,W9 (D9 _ y)];lia
  .rw[W4 y,W4 (λq=>by rcases D1.mp q with rfl|q;exact z rfl;exact y q)];lia
theorem SD(f:L_){e:Nat}(h:e<47):s47 (λi=>if i=e then f i+1 else f i)=s47 f+1:=by
 unfold s47;rw[Sh f e _ List.nodup_range,W9 (J8.mpr h)]
theorem Qa{α β:Type}(R:α->β->Prop)(inj:∀x g y,R x y->R g y->x=g):∀(l:List β)(a:List α),a.Nodup->(∀k∈a,∃y∈l,R k y)->a.length<=l.length
|[],a,_,h=>by
 cases a with
 |nil=>exact C9 _
 |cons k a=>obtain⟨y,j,_⟩:=h k D8;cases j
|y::l,a,nd,h=>by
 classical
 have m:=Qa R inj l (a.filter λk=>decide (¬R k y)) (nd.sublist List.filter_sublist) λk c=>by
  rw[Q9,decide_eq_true_iff]at c;obtain⟨z,d,f⟩:=h k c.1;rcases D1.mp d with rfl|d
  .exact absurd f c.2
  .exact⟨z,d,f⟩
 have few:∀a:List α,a.Nodup->a.length<=(a.filter λk=>decide (¬R k y)).length+1:=by
  intro a;induction a with
  |nil=>intro _;exact L5 _
  |cons k a e =>
   intro b;rw[N8]at b;by_cases z:R k y
   .have:a.filter (λk=>decide (¬R k y))=a:=List.filter_eq_self.mpr λx i=>W1 λq=>b.1 (by rw[inj k x y z q];exact i);rw[List.filter_cons_of_neg (by simp[z]),this,F7];exact C9 _
   .rw[List.filter_cons_of_pos (by simp[z]),F7,F7];have:=e b.2;lia
 have:=few a nd;rw[F7];lia
structure GC(Κ:KTy)(N:Nat):Prop where
ls:∃M:Nat->Nat,s47 M<=N/\∀e,∃Ls:List (Nat×Sht),Ls.length<=M e/\∀l φ,Κ l e φ->∃ψ,(l,ψ)∈Ls/\UE l φ ψ
ext:∀{l e φ ψ},Κ l e φ->UE l φ ψ->Κ l e ψ
theorem Si(f:L_):∀(l:J_){e:Nat},e∈l->f e<=(l.map f).sum
|a::l,e,h=>by
 rw[J1,P1];rcases D1.mp h with rfl|h
 .exact Q1 _ _
 .exact D4 (Si f l h) (Nat.le_add_left _ _)
theorem Qr{f g:L_}:∀{l:J_},(∀e∈l,f e<=g e)->(l.map f).sum<=(l.map g).sum
|[],_=>C9 _
|a::l,h=>by
 have:=Qr (l:=l) λe b=>h e (D9 _ b);have:=h a D8;rw[J1,P1,J1,P1];lia
structure Cn(H:Hp)(G:Gv)(m:MA)(Κ:KTy)(b:Nat)(f:L_):Prop where
sq:∀(e:Nat) d,m.ds[e]?=some d->∃kv,H d=some (.dK kv)/\kv.length=f e/\(kv.map (·.1)).Nodup/\∀k∈kv.map (·.1),∃n l:Nat,k=Sum.inl (n:Int)/\An G n ((l+2:Nat):Int)/\Κ l e (AM G (l+2) n)
gl:G.length<=b+10*s47 f
ce:∃kc,H m.kc=some (.dT kc)/\kc.length<=b+10*s47 f
theorem Cn.few'{H:Hp}{G:Gv}{m:MA}{Κ:KTy}{b:Nat}{f M:L_}(h:Cn H G m Κ b f)(ok:GOk G)(fin:∀e,∃a:List (Nat×Sht),a.length<=M e/\∀l φ,Κ l e φ->∃ψ,(l,ψ)∈a/\UE l φ ψ)(len:m.ds.length=47){e:Nat}(s:e<47):f e<=M e:=by
 have c:e<m.ds.length:=by rw[len];exact s
 obtain⟨u,_,o,p,r⟩:=h.sq e (m.ds[e]'c) (F0 _);obtain⟨a,v,w⟩:=fin e;refine D4 ?_ v;rw[<-o,<-B8 (f:=(·.1)) (as:=u)];refine Qa (λ(k:Key)(q:Nat×Sht)=>∃n:Nat,k=Sum.inl (n:Int)/\An G n ((q.1+2:Nat):Int)/\UE q.1 (AM G (q.1+2) n) q.2) ?_ a _ p λk t=>?_
 .rintro x C ⟨l,ψ⟩ ⟨n,rfl,a1,a2⟩ ⟨B,rfl,i,j⟩;rw[Lu ok _ a1 i λx y d g=>(a2 x y d g).trans (j x y d g).symm]
 .obtain⟨n,l,rfl,a1,a2⟩:=r k t;obtain⟨ψ,z,A⟩:=w l _ a2;exact⟨_,z,n,Z,a1,A⟩
theorem Cn.sum{H:Hp}{G:Gv}{m:MA}{Κ:KTy}{b N:Nat}{f:L_}(h:Cn H G m Κ b f)(ok:GOk G)(fin:GC Κ N)(len:m.ds.length=47):s47 f<=N:=by
 obtain⟨M,a,c⟩:=fin.ls;exact D4 (Qr λe d=>h.few' ok c len (J8.mp d)) a
theorem Cn.few{H:Hp}{G:Gv}{m:MA}{Κ:KTy}{b N:Nat}{f:L_}(h:Cn H G m Κ b f)(ok:GOk G)(fin:GC Κ N)(len:m.ds.length=47){e:Nat}(a:e<47):f e<=N:=D4 (Si f _ (J8.mpr a)) (h.sum ok fin len)
theorem Cn.mono{H:Hp}{G:Gv}{m:MA}{Κ:KTy}{b b':Nat}{f:L_}(h:Cn H G m Κ b f)(e:b<=b'):Cn H G m Κ b' f:=by
 obtain⟨c,a,d⟩:=h.ce;have:=h.gl;exact⟨h.sq,by lia,c,a,by lia⟩
theorem Cn.kp{H g:Hp}{G r:Gv}{m:MA}{Κ:KTy}{b i:Nat}{f:L_}(h:Cn H G m Κ b f)(ok:GOk G)(j:AR G r i)(z:∀d∈m.ds,∀o,H d=some o->g d=some o)(A:∀c,H m.kc=some (.dT c)->∃a,g m.kc=some (.dT a)/\a.length<=c.length+i):Cn g r m Κ (b+i) f:=by
 refine⟨λe d t=>?_,?_,?_⟩
 .obtain⟨B,p,u,q,v⟩:=h.sq e d t;refine⟨B,z d (D6 t) _ p,u,q,λk y=>?_⟩;obtain⟨n,l,w,s,x⟩:=v k y;exact⟨n,l,w,j.lev s,by rw[AQ ok j s];exact x⟩
 .have:=h.gl;have:=j.few;lia
 .obtain⟨c,p,u⟩:=h.ce;obtain⟨a,q,v⟩:=A c p;exact⟨a,q,by lia⟩
structure JZ(a:Ad)(H:Hp)(g:GA)(G:Gv)(Κ:KTy)(N b:Nat)(p dx mem pr:R_)(r:AA)(m:MA):Prop where
jw:JW a H g G N (b+10*N) p dx mem pr r m
cn:∃f,Cn H G m Κ b f
section
variable{a:Ad}{H H':Hp}{g:GA}{G G':Gv}{Κ:KTy}{N b i:Nat}{p dx mem pr:R_}{r:AA}{m:MA}
theorem JZ.sz(h:JZ a H g G Κ N b p dx mem pr r m)(fin:GC Κ N):G.length<=b+10*N:=by
 obtain⟨f,c⟩:=h.cn;have:=c.gl;have:=c.sum h.jw.ok fin h.jw.me.len;lia
theorem JZ.mono{b':Nat}(h:JZ a H g G Κ N b p dx mem pr r m)(e:b<=b'):JZ a H g G Κ N b' p dx mem pr r m:=by
 obtain⟨f,c⟩:=h.cn;exact⟨h.jw.mono (C9 _) A1,f,c.mono e⟩
theorem JZ.same(h:JZ a H g G Κ N b p dx mem pr r m)(s:Az H H'):JZ a H' g G Κ N b p dx mem pr r m:=by
 obtain⟨f,c⟩:=h.cn;exact⟨JW.same s h.jw,f,c.kp (i:=0) h.jw.ok (AR.refl h.jw.ok) (λd _ o e=>s _ _ e) λj e=>⟨j,s _ _ e,C9 _⟩⟩
theorem JZ.fr(h:JZ a H g G Κ N b p dx mem pr r m)(f:Fr g H H')(k:AE a H' g G')(n:AR G G' i):JZ a H' g G' Κ N (b+i) p dx mem pr r m:=by
 obtain⟨s,c⟩:=h.cn;obtain⟨x,q,_⟩:=h.jw.gr.pt;refine⟨(h.jw.fr f k n).mono (C9 _) A1,s,c.kp h.jw.ok n (λd t o e=>?_) λv e=>⟨v,?_,by lia⟩⟩
 .obtain⟨j,u⟩:=F6 t;obtain⟨w,l,_⟩:=c.sq j d u;rw[e]at l;cases l;exact f _ _ e (Aq e h.jw.gr.lv A2) (Aq e q A2) (Aq e h.jw.gr.nm A2)
 .exact f _ _ e (Aq e h.jw.gr.lv A2) (Aq e q A2) h.jw.me.ap.2.2
def No(H:Hp)(m:MA)(e n:Nat):Prop:=∀d kv,m.ds[e]?=some d->H d=some (.dK kv)->BP kv (Sum.inl (n:Int))=none
def Up(l:Nat)(G:Gv)(H H':Hp)(m:MA):Prop:=∀e n l':Nat,An G n ((l'+2:Nat):Int)->l<=l'->No H m e n->No H' m e n
theorem Up.refl(l:Nat)(G:Gv)(H:Hp)(m:MA):Up l G H H m:=λ_ _ _ _ _ h=>h
theorem Up.trans{l:Nat}{c d f:Hp}(h:Up l G c d m)(k:Up l G' d f m)(o:AR G G' i):Up l G c f m:=λe n j a1 a2 a3=>k e n j (o.lev a1) a2 (h e n j a1 a2 a3)
theorem Up.mono{l c:Nat}(h:Up l G H H' m)(e:l<=c):Up c G H H' m:=λd n f a1 a2 a3=>h d n f a1 (D4 e a2) a3
theorem Up.of(l:Nat){N M:Nat}(q:EM H g G N M r m)(k:∀d∈m.ds,∀o,H d=some o->H' d=some o):Up l G H H' m:=λe n u _ _ h d t c j=>by
 obtain⟨s,f,_⟩:=q.sq e d c;have:=k d (D6 c) _ f;rw[j]at this;cases this;exact h d _ c f
theorem JZ.upS(l:Nat)(h:JZ a H g G Κ N b p dx mem pr r m)(s:Az H H'):Up l G H H' m:=Up.of l h.jw.me λd _ o e=>s _ _ e
theorem JZ.upF(l:Nat)(h:JZ a H g G Κ N b p dx mem pr r m)(f:Fr g H H'):Up l G H H' m:=Up.of l h.jw.me λd n o e=>by
 obtain⟨t,k,_⟩:=h.jw.gr.pt;obtain⟨j,q⟩:=F6 n;obtain⟨s,c,_⟩:=h.jw.me.sq j d q;rw[e]at c;cases c;exact f _ _ e (Aq e h.jw.gr.lv A2) (Aq e k A2) (Aq e h.jw.gr.nm A2)
theorem JW.tc{M:Nat}{c:List (List Key×V)}(h:JW a H g G N M p dx mem pr r m)(e:H m.kc=some (.dT c)):JW a H g G N c.length p dx mem pr r m:=by
 obtain⟨j,d,_,f⟩:=h.me.ce;rw[e]at d;cases d;exact⟨h.gr,h.ok,h.bs,h.br,h.nbr,h.hp,h.ru,h.rok,h.rest,⟨h.me.tp,h.me.l,h.me.ap,h.me.len,h.me.nd,h.me.sq,_,e,C9 _,f⟩⟩
theorem JZ.mid{f:L_}{t:List (List Key×V)}(h:JZ a H g G Κ N b p dx mem pr r m)(c:Cn H G m Κ b f)(s:H m.kc=some (.dT t))(fr:FrC g m H H')(k:JW a H' g G' N (t.length+4) p dx mem pr r m)(B:AR G G' 1):JZ a H' g G' Κ N (b+4) p dx mem pr r m/\∀l,Up l G H H' m:=by
 obtain⟨I,C,_⟩:=h.jw.gr.pt;have y:∀d∈m.ds,∀o,H d=some o->H' d=some o:=λd D o e=>by
  obtain⟨j,k⟩:=F6 D;obtain⟨F,x,_⟩:=h.jw.me.sq j d k;rw[e]at x;cases x;exact fr _ _ e (Aq e h.jw.gr.lv A2) (Aq e C A2) (Aq e h.jw.gr.nm A2) (Aq e s A2)
 obtain⟨q,v,z,A⟩:=k.me.ce;obtain⟨u,w,E,_⟩:=h.jw.me.ce;rw[s]at w;cases w;have n:=k.me;refine⟨⟨⟨k.gr,k.ok,k.bs,k.br,k.nbr,k.hp,k.ru,k.rok,k.rest,⟨n.tp,n.l,n.ap,n.len,n.nd,n.sq,q,v,by lia,A⟩⟩,f,c.kp (i:=4) h.jw.ok (B.mono A3) y λu e=>⟨q,v,by rw[s]at e;cases e;exact z⟩⟩,λl=>Up.of l h.jw.me y⟩
theorem JZ.put{e n k l:Nat}{d:R_}{t:List (Key×V)}(h:JZ a H g G Κ N (b+10) p dx mem pr r m)(fin:GC Κ N)(B:m.ds[e]?=some d)(F:H d=some (.dK t))(no:BP t (Sum.inl (n:Int))=none)(R:An G n ((l+2:Nat):Int))(hk:Κ l e (AM G (l+2) n))(jr:JR r G e n k):JZ a (upd H d (.dK (EI t (Sum.inl (n:Int)) (.int (k:Int))))) g G Κ N b p dx mem pr r m/\Up (l+1) G H (upd H d (.dK (EI t (Sum.inl (n:Int)) (.int (k:Int))))) m:=by
 obtain⟨f,c⟩:=h.cn;have D:e<47:=by rw[<-h.jw.me.len];exact(B9.mp B).1
 have o:=h.jw.putS B F jr;obtain⟨ab,T,q2,q3,q4⟩:=c.sq e d B;rw[F]at T;cases T;have S:=IE (.int (k:Int)) no;rw[S]at o⊢;have nn:(Sum.inl (n:Int):Key)∉t.map (·.1):=λz=>by
  obtain⟨q,hq,Y⟩:=D7.mp z;have:(t.find? λt=>decide (t.1=(Sum.inl (n:Int):Key)))=none:=by
   unfold BP at no;cases y:t.find? λt=>decide (t.1=(Sum.inl (n:Int):Key))with
   |none=>rfl
   |some w=>rw[y]at no;cases no
  have:=P3.mp this q hq;exact this (W1 Y)
 obtain⟨kc,P,c2⟩:=c.ce;have gl:=c.gl;have oth:∀{d':R_}{s:Nat},m.ds[s]?=some d'->s≠e->d'≠d:=λ{d' s} j z y=>z (by
  rw[y]at j;exact(List.getElem?_inj (B9.mp j).1 h.jw.me.nd).mp (j.trans B.symm))
 have v:Cn (upd H d (.dK (t++[(Sum.inl (n:Int),.int (k:Int))]))) G m Κ b (λi=>if i=e then f i+1 else f i):=by
  refine⟨λs d' j=>?_,by rw[SD f D];lia,kc,?_,by rw[SD f D];lia⟩
  .by_cases z:s=e
   .subst z;rw[B]at j;cases j;refine⟨_,Ag,by rw[W9 rfl,C6,q2];rfl,?_,λk' E=>?_⟩
    .rw[C0,N5];refine⟨q3,by simp,λx hx y hy=>?_⟩;rw[C8.mp hy];exact λz=>nn ((show x=Sum.inl (n:Int)from z)▸hx)
    .rw[C0]at E;rcases D3.mp E with y|y
     .exact q4 k' y
     .rw[C8.mp y];exact⟨n,l,Z,R,hk⟩
   .obtain⟨C,L,M,I,O⟩:=c.sq s d' j;exact⟨C,by rw[Ar (oth j z)];exact L,by rw[W4 z];exact M,I,O⟩
  .rw[Ar (Aq P F A2)];exact P
 refine⟨⟨?_,_,v⟩,λs n' l' a1 a2 a3 d' C j A=>?_⟩
 .have fw:∀{s:Nat},s<47->(if s=e then f s+1 else f s)<=N:=λ{s} he=>v.few h.jw.ok fin h.jw.me.len he;have sm:=v.sum h.jw.ok fin h.jw.me.len;obtain⟨K,Q,d2⟩:=v.ce;have u:=o.me;obtain⟨aa,U,r2,r3⟩:=u.ce;rw[Q]at U;cases U;refine⟨o.gr,o.ok,o.bs,o.br,o.nbr,o.hp,o.ru,o.rok,o.rest,⟨u.tp,u.l,u.ap,u.len,u.nd,λs d' j=>?_,K,Q,by lia,r3⟩⟩;obtain⟨kw,W,u2,u3,u4⟩:=u.sq s d' j;obtain⟨ac,X,v2,_⟩:=v.sq s d' j;rw[W]at X;cases X;exact⟨kw,W,by rw[v2];exact fw (by rw[<-h.jw.me.len];exact(B9.mp j).1),u3,u4⟩
 .by_cases z:s=e
  .subst z;rw[B]at j;cases j;rw[Ag]at A;cases A;rw[<-S,MT];have ne:n'≠n:=λy=>by
    subst y;have:((l'+2:Nat):Int)=((l+2:Nat):Int):=by
     obtain⟨q,L,M⟩:=a1;obtain⟨q',I,O⟩:=R;rw[L]at I;cases I;exact M.symm.trans O
    lia
   rw[W4 (λy=>ne (by have:=Sum.inl.inj y;lia))];exact a3 d t B F
  .rw[Ar (oth j z)]at A;exact a3 d' C j A
end
seal L2.PA L2.PE L2.PS L2.PSs L2.PT L2.PW
structure ClK(r:AA)(Κ:KTy):Prop where
nine1:∀{l e φ},Κ (l+1) e φ->e<=l->∀i j,i<3->j<3->Κ l e λx y=>φ (x+2^(l+1)*i) (y+2^(l+1)*j)
nine2:∀{l φ},Κ (l+1) (l+1) φ->∀i j,i<3->j<3->Κ l l λx y=>φ (x+2^(l+1)*i) (y+2^(l+1)*j)
four:∀{l φ},Κ (l+1) (l+1) φ->∀i j,i<2->j<2->Κ l l λx y=>Bh r (2^l) φ (x+(2^(l+1)*i+2^l)) (y+(2^(l+1)*j+2^l))
theorem An.one{G:Gv}{n:Nat}{i j:Int}(h:An G n i)(k:An G n j):i=j:=by
 obtain⟨q,b,c⟩:=h;obtain⟨p,a,d⟩:=k;rw[b]at a;cases a;exact c.symm.trans d
theorem JR.view{r:AA}{G:Gv}{c:Nat->Nat->Int}{e n m l X Y:Nat}(h:JR r G e n m)(o:An G n ((l+2:Nat):Int))(v:Vw G c (l+2) n X Y):An G m ((l+1:Nat):Int)/\e<=l/\Vw G (Bh r (2^e) c) (l+1) m (X+2^l) (Y+2^l):=by
 apply AL;intro d a;obtain⟨k,g,b,i,j⟩:=h;apply a;clear a d;have f:k=l:=by
  have:=g.one o;lia
 subst f;exact⟨i,b,v.jump b j⟩
theorem Vw.jr{r:AA}{G:Gv}{e n m l:Nat}(c:An G n ((l+1+2:Nat):Int))(a:e<=l+1)(b:An G m ((l+1+1:Nat):Int))(v:Vw G (Bh r (2^e) (AM G (l+1+2) n)) (l+1+1) m (2^(l+1)) (2^(l+1))):JR r G e n m:=⟨l+1,c,a,b,v⟩
theorem VH{G d:Gv}{c:Nat->Nat->Int}{l f g h k z X Y i:Nat}(ok:GOk G)(b:AR G d i)(n:An G f ((l+1:Nat):Int))(o:An G g ((l+1:Nat):Int))(p:An G h ((l+1:Nat):Int))(r:An G k ((l+1:Nat):Int))(w:Vw G c (l+1) f X Y)(x:Vw G c (l+1) g (X+2^(l+1)) Y)(y:Vw G c (l+1) h X (Y+2^(l+1)))(A:Vw G c (l+1) k (X+2^(l+1)) (Y+2^(l+1)))(e:d[z]?=some ⟨[((qO G f 3:Nat):Int),((qO G g 2:Nat):Int),((qO G h 1:Nat):Int),((qO G k 0:Nat):Int)],(l:Int)+1⟩):Vw d c (l+1) z (X+2^l) (Y+2^l):=by
 have F:2^(l+1)=2^l*2:=L7 ..;apply AL;intro m a;obtain⟨B,C,D,E⟩:=Cw e;apply a;clear a m;have s:=(w.q (i:=1) (j:=1) A3 A3).goes ok b (Cu ok n A3);have t:=(x.q (i:=0) (j:=1) A3 A3).goes ok b (Cu ok o A3);have u:=(y.q (i:=1) (j:=0) A3 A3).goes ok b (Cu ok p A3);have v:=(A.q (i:=0) (j:=0) A3 A3).goes ok b (Cu ok r A3);refine Vw.of ?_ ?_ ?_ ?_
 .rw[B];exact s.at' A1 A1
 .rw[C];exact t.at' A1 A1
 .rw[D];exact u.at' A1 A1
 .rw[E];exact v.at' A1 A1
theorem GG{G d:Gv}{c:Nat->Nat->Int}{l f g h j z X Y i:Nat}{L:Int}(ok:GOk G)(b:AR G d i)(m:An G f (l:Int))(n:An G g (l:Int))(o:An G h (l:Int))(p:An G j (l:Int))(q:Vw G c l f X Y)(r:Vw G c l g (X+2^l) Y)(s:Vw G c l h X (Y+2^l))(t:Vw G c l j (X+2^l) (Y+2^l))(e:d[z]?=some ⟨[(f:Int),(g:Int),(h:Int),(j:Int)],L⟩):Vw d c (l+1) z X Y:=by
 apply AL;intro k a;obtain⟨u,v,w,x⟩:=Cw e;apply a;clear a k;refine Vw.of ?_ ?_ ?_ ?_
 .rw[u];exact q.goes ok b m
 .rw[v];exact r.goes ok b n
 .rw[w];exact s.goes ok b o
 .rw[x];exact t.goes ok b p
theorem PD:∀xs:List Nat,xs.length=9->∃a b c d e f g h i,xs=[a,b,c,d,e,f,g,h,i]
|[a,b,c,d,e,f,g,h,i],_=>⟨a,b,c,d,e,f,g,h,i,Z⟩
theorem IW:∀xs:List Nat,xs.length=4->∃a b c d,xs=[a,b,c,d]
|[a,b,c,d],_=>⟨a,b,c,d,Z⟩
noncomputable def toV(k:Nat):V:=.int (k:Int)
def Nine(G:Gv)(c:Nat->Nat->Int)(l X:Nat)(ys:J_):Prop:=∀i j,i<3->j<3->∃y,ys[i+3*j]?=some y/\An G y (l:Int)/\Vw G c l y (2^l*i+X) (2^l*j+X)
theorem LT {r:AA} {b d:Gv} {c:Nat->Nat->Int} {l e x:Nat} {m ys:J_} (ok:GOk b) (f:AR b d x) (h:∀i j,i<3->j<3->∃k,m[i+3*j]?=some k/\An b k ((l+1+1:Nat):Int)/\Vw b c (l+1+1) k (2^(l+1)*i) (2^(l+1)*j)) (v:Paired (λk y=>JR r d e k y) m ys):Nine d (Bh r (2^e) c) (l+1) (2^l) ys:=λi j t u=>by
 apply AL;intro n a;obtain⟨k,o,g,p⟩:=h i j t u;obtain⟨y,q,s⟩:=Paired.get v o;obtain⟨w,_,z⟩:=s.view (f.lev g) (p.goes ok f g);apply a;clear a n;exact⟨y,q,w,z⟩
theorem Nz{G:Gv}{c:Nat->Nat->Int}{l X:Nat}{H:Hp}{x n y o g p z q A:Nat}{r s u v:R_}(m:Nine G c l X [x,n,y,o,g,p,z,q,A])(B:H r=some (.tup [.int x,.int n,.int o,.int g]))(C:H s=some (.tup [.int n,.int y,.int g,.int p]))(D:H u=some (.tup [.int o,.int g,.int z,.int q]))(E:H v=some (.tup [.int g,.int p,.int q,.int A]))(t:Nat)(w:R_)(a:[r,s,u,v][t]?=some w) :
  ∃b d e f:Nat,H w=some (.tup [.int b,.int d,.int e,.int f])/\(An G b (l:Int)/\An G d (l:Int)/\An G e (l:Int)/\An G f (l:Int))/\Vw G c l b (2^l*(t%2)+X) (2^l*(t/2)+X)/\Vw G c l d (2^l*(t%2)+X+2^l) (2^l*(t/2)+X)/\Vw G c l e (2^l*(t%2)+X) (2^l*(t/2)+X+2^l)/\Vw G c l f (2^l*(t%2)+X+2^l) (2^l*(t/2)+X+2^l):=by
 have M:t<4:=(B9.mp a).1;have R:=O9 (2^l) (t%2);have S:=O9 (2^l) (t/2);obtain⟨b,h,F,N⟩:=m (t%2) (t/2) A1 A1;obtain⟨d,i,I,O⟩:=m (t%2+1) (t/2) A1 A1;obtain⟨e,j,K,P⟩:=m (t%2) (t/2+1) A1 A1;obtain⟨f,k,L,Q⟩:=m (t%2+1) (t/2+1) A1 A1;refine⟨b,d,e,f,?_,⟨F,I,K,L⟩,N,O.at' A1 Z,P.at' Z A1,Q.at' A1 A1⟩
 match t,M,a with
 |0,_,a=>cases h;cases i;cases j;cases k;cases a;exact B
 |1,_,a=>cases h;cases i;cases j;cases k;cases a;exact C
 |2,_,a=>cases h;cases i;cases j;cases k;cases a;exact D
 |3,_,a=>cases h;cases i;cases j;cases k;cases a;exact E
theorem MS{α:Type}{P:Nat->α->Prop}{b:List α}{z:α}{i:Nat}(c:b.length=i)(h:∀t a,b[t]?=some a->P t a)(d:P i z):∀t a,(b++[z])[t]?=some a->P t a:=λt a e=>by
 by_cases f:t<i
 .rw[J3 A1]at e;exact h t a e
 .have:t=i:=by
   have:=(B9.mp e).1;rw[C6,c]at this;have:t<i+1:=this;lia
  subst this;rw[F1 A1,c,O8]at e;cases e;exact d
section
variable{P:N_}{w:Q_}{K:O_}{mg:C_}{base:T_}{a:Ad}
inductive Wu(a:Ad)(L:Nat)(vs:List V)(H:Hp)(Q:VK):Prop
|mk (p dx mem pr:R_) (g:GA) (G:Gv) (Κ:KTy) (N b:Nat) (r:AA) (m:MA) (n l e:Nat) (_:vs=[.ref p,.int n,.int e]) (_:JZ a H g G Κ N b p dx mem pr r m) (_:GC Κ N) (_:ClK r Κ) (_:An G n ((l+2:Nat):Int)) (_:l<L) (_:e<=l) (_:Κ l e (AM G (l+2) n)) (_:b+10*N+10*(l+1)<8000000) (_:∀(k:Nat)(G':Gv)(H':Hp)(i:Nat),FrJ g m H H'->JZ a H' g G' Κ N b p dx mem pr r m->AR G G' i->JR r G' e n k->Up (l+1) G H H' m->Q (.int k) H'):Wu a L vs H Q
def EC(a:Ad)(L:Nat):Sp:=λvs H Q _=>Wu a L vs H Q
inductive WC(a:Ad)(L:Nat)(vs:List V)(H:Hp)(Q:VK):Prop
|mk (p dx mem pr:R_) (g:GA) (G:Gv) (Κ:KTy) (N b:Nat) (r:AA) (m:MA) (n l e:Nat) (_:vs=[.ref p,.int n,.int e]) (_:JZ a H g G Κ N b p dx mem pr r m) (_:GC Κ N) (_:ClK r Κ) (_:An G n ((l+2:Nat):Int)) (_:l<L) (_:e<=l) (_:Κ l e (AM G (l+2) n)) (_:b+10*N+10*(l+1)<8000000) (_:∀(k:Nat)(G':Gv)(H':Hp)(i:Nat),FrJ g m H H'->JZ a H' g G' Κ N (b+10) p dx mem pr r m->AR G G' i->JR r G' e n k->Up l G H H' m->Q (.int k) H'):WC a L vs H Q
def Ru(a:Ad)(L:Nat):Sp:=λvs H Q _=>WC a L vs H Q
inductive Tp(a:Ad)(L:Nat)(vs:List V)(H:Hp)(Q:VK):Prop
|mk (p dx mem pr:R_) (g:GA) (G:Gv) (Κ:KTy) (N b:Nat) (r:AA) (m:MA) (n l:Nat) (_:vs=[.ref p,.int n,.int ((l+1:Nat):Int)]) (_:JZ a H g G Κ N b p dx mem pr r m) (_:GC Κ N) (_:ClK r Κ) (_:An G n ((l+1+2:Nat):Int)) (_:l<L) (_:Κ (l+1) (l+1) (AM G (l+1+2) n)) (_:b+10*N+10*(l+2)<8000000) (_:∀(A:R_)(f0 f1 f2 f3:Nat)(G':Gv)(H':Hp)(i:Nat),FrJ g m H H'->JZ a H' g G' Κ N (b+9) p dx mem pr r m->AR G G' i->Up (l+1) G H H' m->H' A=some (.lst [toV f0,toV f1,toV f2,toV f3])->(An G' f0 ((l+2:Nat):Int)/\An G' f1 ((l+2:Nat):Int)/\An G' f2 ((l+2:Nat):Int)/\An G' f3 ((l+2:Nat):Int))->(Vw G' (Bh r (2^l) (AM G (l+1+2) n)) (l+2) f0 (2^l) (2^l)/\Vw G' (Bh r (2^l) (AM G (l+1+2) n)) (l+2) f1 (2^l+2^(l+1)) (2^l)/\Vw G' (Bh r (2^l) (AM G (l+1+2) n)) (l+2) f2 (2^l) (2^l+2^(l+1))/\Vw G' (Bh r (2^l) (AM G (l+1+2) n)) (l+2) f3 (2^l+2^(l+1)) (2^l+2^(l+1)))->Q (.ref A) H'):Tp a L vs H Q
def JK(a:Ad)(L:Nat):Sp:=λvs H Q _=>Tp a L vs H Q
theorem QG{L d:Nat}(F:Fun K "four_halfway" "Jumps.four_halfway" Bw f fd)(T:Top K mg a)(d3:3<=d)(aF:Cal P w K mg base CX0 3 "nine_parts" Dd (LF a))(aT:Cal P w K mg base CX0 1 "fours_of" RG JL)(a9:BD P w K mg base CX0 2 a.c_Grove "linked" Br (EZ a))(aC:BD P w K mg base CX0 d a.c_Jumps "reckoned" On (EC a L)):AT P w K mg base CX0 (d+1) f fd On (JK a L):=by
 refine F.ok DX (λvs H Q E h=>?_) (λba A a6 s H vs Q E hr h=>?_)
 .apply AL;intro C c;obtain⟨p,dx,mem,pr,g,G,Κ,N,b,r,m,n,l,rfl,_⟩:=h;apply c;clear c C;rfl
 .apply AL;intro C c;obtain⟨p,dx,mem,pr,g,G,Κ,N,b,r,m,n,l,rfl,hz,fin,cl,hl,hL,a3,few,k⟩:=h;have hj:=hz.jw;have sz:=hz.sz fin;apply c;clear c C;refine⟨_,(Ae (CW (i:=3) Z DX.nd Z Z (Bn.of (So:=Ai Bw) (No:=CY) (N:=["part","self","e"]) (k:=1) (cs:=[0,2]) Z Z A0) (Bu (AB aF (rm hr) Z Ao (Aa (AK (pv 0) Z) (Aa (pv 1) Ab)))) (λ_ _ _=>(AY (i:=0) A0 Z Z)) (λ_ _ _=>BB) (λ_ _ _=>(Aw (pv 1) aC (rm hr) Ao (Aa (pv 0) (BI BU (pv 2) Ac Ab))))) (Af (Ax (BZ Z (Bn.of (So:=Ai Bw) (No:=CY) (N:=["four","self"]) (k:=1) (cs:=[0]) Z Z A0) (Bu (AB aT (rm hr) Z Ao (Aa (pv 3) Ab))) (λ_ _ _=>(AY (i:=0) A0 Z Z)) (λ_ _ _=>BB) (λ_ _ _=>(Aw (Pu (K:=K) Z (pv 1) Z) a9 (rm hr) Ao (Aa (pv 0) Ab))))))),?_⟩
  try dsimp only[cxK]
  obtain⟨q9,ap,bb⟩:=id hl;have bd:l<=45:=by have:=(hj.ok.lev ap).2;lia
  refine xwf Z Z hj.hp T.cl_Jumps T.na_Jumps_grove (DV _ _ _ _ _) (xq1 Z ⟨g,G,n,l+1,Z,hj.gr,hj.ok,hl,by lia,by lia,λA9 ks G3 H3 ac aw I am l9 nine=>?_⟩);have af:=hz.fr ac aw I;have M:=af.jw;have be:=af.sz fin
  skip
  have ao:∀(t k:Nat),ks[t]?=some k->An G3 k ((l+2:Nat):Int):=λt k e=>by
   have ht:=(B9.mp e).1;obtain⟨k',e1,e2,_⟩:=nine (t%3) (t/3) A1 A1;rw[show t%3+3*(t/3)=t by lia,e]at e1;cases e1;exact e2
  have a5:∀(t k:Nat),ks[t]?=some k->Κ l l (AM G3 (l+2) k):=λt k e=>by
   have ht:=(B9.mp e).1;obtain⟨k',e1,_,v⟩:=nine (t%3) (t/3) A1 A1;rw[show t%3+3*(t/3)=t by lia,e]at e1;cases e1;exact fin.ext (cl.nine2 a3 (t%3) (t/3) A1 A1) λx y hx hy=>(v x y hx hy).symm
  refine⟨A9,Z,⟨_,SqL.of am⟩,?_⟩;refine Ck (xs:=ks.map λ(k:Nat)=>V.int (k:Int)) (λi u H5=>∃(Y:Gv)(ys:J_)(c5:Nat),u=ys.map toV/\ys.length=i/\FrJ g m H3 H5/\JZ a H5 g Y Κ N (b+5) p dx mem pr r m/\AR G3 Y c5/\Up (l+1) G3 H3 H5 m/\Paired (λk y=>JR r Y l k y) (ks.take i) ys) ⟨G3,[],0,Z,Z,λb o e _ _ _ _ _=>e,af,AR.refl M.ok,Up.refl _ _ _ _,.nil⟩ (λi u H5 _ z=>by obtain⟨_,_,_,_,_,fr,_⟩:=z;exact SqL.of ((fr.kps M.gr M.bs.long M.me) _ _ am (.lst (by rw[B8];lia)))) ?_ ?_
  .rintro i v u H5 ev aj;apply AL;intro C c;obtain⟨Y,ys,c5,rfl,ly,ad,R,q,ah,aa⟩:=aj;apply c;clear c C;rw[C7]at ev;obtain⟨k5,ek,rfl⟩:=D5.mp ev;have i9:i<9:=by have:=(B9.mp ek).1;lia
   have ae:=R.jw
   skip
   refine⟨⟨[some (.int (k5:Int))],Z,Z⟩,by rw[B8,ly];exact N4 i9 A3,EQ (xwn Z Z ae.hp (IL _ _ _ _ _) Z (xwb Z Z Z ⟨p,dx,mem,pr,g,Y,Κ,N,b+5,r,m,k5,l,l,(show [V.ref p,V.int (k5:Int),V.int (((l+1:Nat):Int)-1)]=[V.ref p,V.int (k5:Int),V.int (l:Int)] by rw[show((l+1:Nat):Int)-1=(l:Int) by lia]),R,fin,cl,q.lev (ao i k5 ek),hL,C9 l,(by rw[AQ M.ok q (ao i k5 ek)];exact a5 i k5 ek),by lia,λy G6 H6 c6 ar X al a4 a8=>⟨G6,ys++[y],_,by rw[C0];rfl,by rw[C6,ly];rfl,ad.trans ar,X,q.trans al,ah.trans a8 q,?_⟩⟩))⟩;rw[F9,ek,L6];exact Z5 (Paired.imp (λk y z=>z.goes ae.ok al) aa) a4
  rintro u H5 ai A5 au;apply AL;intro C c;obtain⟨Y,ys,c5,rfl,ly,ad,R,q,ah,aa⟩:=ai;have ae:=R.jw;apply c;clear c C;rw[B8,l9]at ly;rw[B8,J7]at aa;have nj:=LT M.ok q nine aa;apply AL;intro C c;obtain⟨y0,y1,y2,y3,y4,y5,y6,y7,y8,rfl⟩:=PD ys ly;apply c;clear c C
  skip
  generalize cE:upd H5 A5 _=H6;obtain⟨s5,an⟩:=alc au cE;have X:=R.same s5;have bc:=X.jw;have aq:FrJ g m H H6:=(Fr.j ac).trans (ad.trans (Az.j s5));refine xq1 Z ⟨A5,y0,y1,y2,y3,y4,y5,y6,y7,y8,Z,an,λMM t0 t1 t2 t3 H7 s7 hM ay az a0 a1=>?_⟩;have ag:=X.same s7;have W:=ag.jw;refine⟨MM,Z,⟨_,SqL.of hM⟩,?_⟩;have p1:2^(l+1)=2^l*2:=L7 ..;have four:=Nz nj ay az a0 a1;have ab:=W.ok;refine Ck (xs:=[t0,t1,t2,t3].map V.ref) (λi u H8=>∃(G8:Gv)(zs:J_),u=zs.map toV/\zs.length=i/\Fr g H7 H8/\JZ a H8 g G8 Κ N (b+5+i) p dx mem pr r m/\AR Y G8 i/\∀(t z:Nat),zs[t]?=some z->An G8 z ((l+2:Nat):Int)/\Vw G8 (Bh r (2^l) (AM G (l+1+2) n)) (l+1+1) z (2^(l+1)*(t%2)+2^l) (2^(l+1)*(t/2)+2^l)) ⟨Y,[],Z,Z,Fr.refl g H7,ag,AR.refl ab,λt z e=>(nomatch e)⟩ (λi u H8 _ z=>by obtain⟨_,_,_,_,fr,_⟩:=z;exact SqL.of ((fr.kps W.gr W.bs.long) _ _ hM (.lst (by show 4<=50;decide)))) ?_ ?_
  .rintro i v u H8 ev aj;apply AL;intro C c;obtain⟨G8,zs,rfl,lz,S,D,B,vz⟩:=aj;have O:=D.jw;have a7:=D.sz fin;apply c;clear c C;rw[C7]at ev;obtain⟨tt,et,rfl⟩:=D5.mp ev;have i4:i<4:=(B9.mp et).1;apply AL;intro C c;obtain⟨f0,f1,f2,f3,a2,⟨m0,m1,m2,m3⟩,w0,w1,w2,w3⟩:=four i tt et;apply c;clear c C
   skip
   refine⟨⟨[some (.ref tt)],Z,Z⟩,by rw[B8,lz];exact N4 i4 A3,EQ (xwf Z Z O.hp T.cl_Jumps T.na_Jumps_grove (DV _ _ _ _ _) (xq3 Z O.gr.hp (Dw g) (xq1 Z ⟨g,G8,tt,f0,f1,f2,f3,((l+1:Nat):Int),Z,O.gr,O.ok,(S.kps W.gr W.bs.long) _ _ a2 (.inl .tup),⟨B.lev m0,B.lev m1,B.lev m2,B.lev m3⟩,by lia,by lia,λz G9 H9 ak ax U e9=>⟨G9,zs++[z],by rw[C0];rfl,by rw[C6,lz];rfl,S.trans ak,D.fr ak ax U,B.trans U,?_⟩⟩)))⟩;refine MS lz (λt z' e=>?_) ?_
   .obtain⟨q1,q2⟩:=vz t z' e;exact⟨U.lev q1,q2.goes O.ok U q1⟩
   .exact⟨⟨_,e9,by show((l+1:Nat):Int)+1=((l+2:Nat):Int);lia⟩,GG ab (B.trans U) m0 m1 m2 m3 w0 w1 w2 w3 e9⟩
  rintro u H8 ai A8 av;apply AL;intro C c;obtain⟨G8,zs,rfl,lz,S,D,B,vz⟩:=ai;have O:=D.jw;have a7:=D.sz fin;apply c;clear c C;apply AL;intro C c;obtain⟨z0,z1,z2,z3,rfl⟩:=IW zs lz;apply c;clear c C;have s8:Az H8 (upd H8 A8 (.lst ([z0,z1,z2,z3].map toV))):=Al av;have as:AR Y G8 4:=B;obtain⟨q0,x0⟩:=vz 0 z0 Z;obtain⟨q1,x1⟩:=vz 1 z1 Z;obtain⟨q2,x2⟩:=vz 2 z2 Z;obtain⟨q3,x3⟩:=vz 3 z3 Z;refine k A8 z0 z1 z2 z3 G8 _ _ (aq.trans ((Az.j s7).trans ((Fr.j S).trans (Az.j s8)))) (D.same s8) ((I.trans q).trans as) (((((hz.upF (l+1) ac).trans ah I).trans (R.upS _ s5) (I.trans q)).trans (X.upS _ s7) (I.trans q)).trans ((ag.upF _ S).trans (D.upS _ s8) B) (I.trans q)) Ag ⟨q0,q1,q2,q3⟩ ⟨x0.at' A1 A1,x1.at' A1 A1,x2.at' A1 A1,x3.at' A1 A1⟩
theorem ok_freA{L d:Nat}(F:Fun K "fresh" "Jumps.fresh" Cm f fd)(T:Top K mg a)(d7:7<=d)(aG:BD P w K mg base CX0 7 a.c_Jumps "middle_after" IR (Pd a))(a9:BD P w K mg base CX0 2 a.c_Grove "linked" Br (EZ a))(aF:Cal P w K mg base CX0 3 "nine_parts" Dd (LF a))(aT:Cal P w K mg base CX0 1 "fours_of" RG JL)(aH:Cal P w K mg base CX0 3 "met_in_the_middle" Cr (Sm a))(aC:BD P w K mg base CX0 d a.c_Jumps "reckoned" On (EC a L))(aP:BD P w K mg base CX0 (d+1) a.c_Jumps "four_halfway" On (JK a L)):AT P w K mg base CX0 (d+2) f fd On (Ru a (L+1)):=by
 refine F.ok DI (λvs H Q E h=>?_) (λb6 A b1 s H vs Q E hr h=>?_)
 .apply AL;intro R c;obtain⟨p,dx,mem,pr,g,G,Κ,N,b,r,m,n,l,e,rfl,_⟩:=h;apply c;clear c R;rfl
 .apply AL;intro R c;obtain⟨p,dx,mem,pr,g,G,Κ,N,b,r,m,n,l,e,rfl,hz,fin,cl,hl,hL,he,a3,few,k⟩:=h;have U:=hz.jw;have sz:=hz.sz fin;obtain⟨q,eq,el⟩:=id hl;apply c;clear c R;have b8:=(U.ok.lev eq).2;have bz:l<=46:=by lia
  refine⟨_,(Ae (Av (i:=3) DI.nd Z (Or.inr Z) (AK (pv 0) Z)) (Ae (Av (i:=4) DI.nd Z O_9 (Ah Au (AK (pv 3) Z) (pv 1) R_9)) (Ae (AS (AF Ci (pv 1) (Ah Au (AK (pv 3) Z) (pv 4) R_9) (AI _)) (Af (Ax (Ah Au (AK (pv 3) Z) (AG BU (pv 4) Ac) R_9))) AD) (Ae (AS (AF Ci (pv 4) (CS Z T.k_LEAST_JUMPED) (AI _)) (Af (Ax (Aw (pv 0) aG (rm hr) Ao (Aa (pv 1) Ab)))) AD) (Ae (AS (AF Lb (pv 2) (AG BU (pv 4) (CS Z T.k_LEAST_JUMPED)) (AI _)) (Ae (CW (i:=5) Z DI.nd Z Z (Bn.of (So:=Ai Cm) (No:=Ey) (N:=["part","self","e"]) (k:=1) (cs:=[0,2]) Z Z A0) (Bu (AB aF (rm hr) Z Ao (Aa (pv 3) (Aa (pv 1) Ab)))) (λ_ _ _=>(AY (i:=0) A0 Z Z)) (λ_ _ _=>BB) (λ_ _ _=>(Aw (pv 1) aC (rm hr) Ao (Aa (pv 0) (Aa (pv 2) Ab))))) (Af (Ax (Aw (pv 3) a9 (rm hr) Ao (Aa (Bp CN Z T.b_tuple Z8 (Aa (BZ Z (Bn.of (So:=Ai Cm) (No:=Ey) (N:=["four","grove"]) (k:=1) (cs:=[3]) Z Z A0) (Bu (AB aT (rm hr) Z Ao (Aa (pv 5) Ab))) (λ_ _ _=>(AY (i:=0) A0 Z Z)) (λ_ _ _=>BB) (λ_ _ _=>(AB aH (rm hr) Z Ao (Aa (pv 1) (Aa (pv 0) Ab))))) Ab)) Ab))))) AD) (Af (Ax (Aw (pv 3) a9 (rm hr) Ao (Aa (Bp CN Z T.b_tuple Z8 (Aa (BZ Z (Bn.of (So:=Ai Cm) (No:=Ey) (N:=["four","self","e"]) (k:=1) (cs:=[0,2]) Z Z A0) (Bu (Aw (pv 0) aP (rm hr) Ao (Aa (pv 1) (Aa (pv 2) Ab)))) (λ_ _ _=>(AY (i:=0) A0 Z Z)) (λ_ _ _=>BB) (λ_ _ _=>(Aw (pv 1) aC (rm hr) Ao (Aa (pv 0) (BI BU (pv 2) Ac Ab))))) Ab)) Ab))))))))),?_⟩
  try dsimp only[cxK]
  refine xwf Z Z U.hp T.cl_Jumps T.na_Jumps_grove (DV _ _ _ _ _) ?_;refine xq1 Z ⟨g.p,_,g.dx,_,_,Z,U.gr.hp,T.cl_Grove,T.na_Grove_levels,Gy g,_,Z,g.lv,_,(n:Int),.int ((l+2:Nat):Int),Z,Z,SqL.of U.gr.lv,Am (by rw[C7,eq,<-el];rfl),?_⟩;refine xq1 Z (xq1 Z ⟨g.p,_,g.dx,_,_,Z,U.gr.hp,T.cl_Grove,T.na_Grove_bares,Qg g,_,Z,g.br,_,((l+2:Nat):Int),.int (bareN (l+2):Int),Z,Z,SqL.of U.br,Am (bareJ A1),Z,_,Z,?_⟩);refine FG (λhc=>?_) (λhc=>?_)
  .have ei:n=bareN (l+2):=by
    have:=Z0 hc;injection this with this
    exact K1 this
   refine xwf Z Z U.gr.hp T.cl_Grove T.na_Grove_bares (Qg g) (xwb Z Z Z (xq4 Z Z (SqL.of U.br) (by rw[show((l+2:Nat):Int)-1=((l+1:Nat):Int) by lia];exact Am (bareJ A1)) ?_));refine k (bareN (l+1)) G H 0 (λb o e _ _ _ _ _=>e) (hz.mono A1) (AR.refl U.ok) ?_ (Up.refl _ _ _ _);rw[ei];exact JR.bare U.ok U.bs U.rest A1 he
  refine xq1 Z ⟨Z,(xq1 Z ?_)⟩;cases l with
  |zero =>
   refine(show ∀{b:Bool}{A B:Prop},b=true->A->(if b=true then A else B)from λh x=>by rw[h];exact CT x) (W1 Z) ?_;have e0:e=0:=by lia
   subst e0;obtain⟨ff,cn⟩:=hz.cn;obtain⟨kc,c1,c2⟩:=cn.ce;have sm:=cn.sum U.ok fin U.me.len;refine xwn Z Z U.hp (noJ_mid _ _ _ _ _) Z ⟨p,dx,mem,pr,g,G,N,kc.length,r,m,n,Z,U.tc c1,hl,by lia,by lia,λk' G' H' fr bm go jr=>?_⟩;obtain⟨z1,z2⟩:=hz.mid cn c1 fr bm go;exact k k' G' H' 1 fr.j (z1.mono A1) go jr (z2 _)
  |succ l =>
   refine(show ∀{b:Bool}{A B:Prop},b=false->B->(if b=true then A else B)from λh x=>by rw[h];exact Bl x) (W3 (by intro z;injection z with z;have z:((l+1+2:Nat):Int)=2:=z;lia)) ?_;have hL:l<L:=by lia
   have p1:2^(l+1)=2^l*2:=L7 ..;refine xw2 Z Z (xq2 Z Z (xq2 Z Z (xq1 Z ?_)));refine FG (λhc=>?_) (λhc=>?_)
   .have aq:e<=l:=by
     have hc:=Z0 hc;have hc:(e:Int)<((l+1+2:Nat):Int)-2:=hc;lia
    obtain⟨q9,bd,b7⟩:=id hl;have bz:l<=45:=by have:=(U.ok.lev bd).2;lia
    refine xw2 Z Z ⟨g,G,n,l+1,Z,U.gr,U.ok,hl,by lia,by lia,λA9 ks G3 H3 ay bj ag a7 l9 nine=>?_⟩;have a2:=hz.fr ay bj ag;have ah:=a2.jw;have b9:=a2.sz fin
    skip
    have bb:∀(t k:Nat),ks[t]?=some k->An G3 k ((l+2:Nat):Int):=λt k e=>by
     have ht:=(B9.mp e).1;obtain⟨k',e1,e2,_⟩:=nine (t%3) (t/3) A1 A1;rw[show t%3+3*(t/3)=t by lia,e]at e1;cases e1;exact e2
    have bx:∀(t k:Nat),ks[t]?=some k->Κ l e (AM G3 (l+2) k):=λt k e=>by
     have ht:=(B9.mp e).1;obtain⟨k',e1,_,v⟩:=nine (t%3) (t/3) A1 A1;rw[show t%3+3*(t/3)=t by lia,e]at e1;cases e1;exact fin.ext (cl.nine1 a3 aq (t%3) (t/3) A1 A1) λx y hx hy=>(v x y hx hy).symm
    refine⟨A9,Z,⟨_,SqL.of a7⟩,?_⟩;refine Ck (xs:=ks.map λ(k:Nat)=>V.int (k:Int)) (λi I H5=>∃(G5:Gv)(ys:J_)(c5:Nat),I=ys.map toV/\ys.length=i/\FrJ g m H3 H5/\JZ a H5 g G5 Κ N (b+5) p dx mem pr r m/\AR G3 G5 c5/\Up (l+1) G3 H3 H5 m/\Paired (λk y=>JR r G5 e k y) (ks.take i) ys) ⟨G3,[],0,Z,Z,λb o e _ _ _ _ _=>e,a2,AR.refl ah.ok,Up.refl _ _ _ _,.nil⟩ (λi I H5 _ z=>by obtain⟨_,_,_,_,_,fr,_⟩:=z;exact SqL.of ((fr.kps ah.gr ah.bs.long ah.me) _ _ a7 (.lst (by rw[B8];lia)))) ?_ ?_
    .rintro i v I H5 ev ap;apply AL;intro R c;obtain⟨G5,ys,c5,rfl,ly,az,ai,O,a4,as⟩:=ap;apply c;clear c R;rw[C7]at ev;obtain⟨k5,ek,rfl⟩:=D5.mp ev;have i9:i<9:=by have:=(B9.mp ek).1;lia
     have a1:=ai.jw
     skip
     refine⟨⟨[some (.int (k5:Int))],Z,Z⟩,by rw[B8,ly];exact N4 i9 A3,EQ (xwn Z Z a1.hp (IL _ _ _ _ _) Z (xq1 Z ⟨p,dx,mem,pr,g,G5,Κ,N,b+5,r,m,k5,l,e,Z,ai,fin,cl,O.lev (bb i k5 ek),hL,aq,(by rw[AQ ah.ok O (bb i k5 ek)];exact bx i k5 ek),by lia,λy G6 H6 c6 bg an a6 bv b2=>⟨G6,ys++[y],_,by rw[C0];rfl,by rw[C6,ly];rfl,az.trans bg,an,O.trans a6,a4.trans b2 O,?_⟩⟩))⟩;rw[F9,ek,L6];exact Z5 (Paired.imp (λk y z=>z.goes a1.ok a6) as) bv
    rintro I H5 ao A5 bi;apply AL;intro R c;obtain⟨G5,ys,c5,rfl,ly,az,ai,O,a4,as⟩:=ao;have a1:=ai.jw;apply c;clear c R;rw[B8,l9]at ly;rw[B8,J7]at as;have nj:=LT ah.ok O nine as;apply AL;intro R c;obtain⟨y0,y1,y2,y3,y4,y5,y6,y7,y8,rfl⟩:=PD ys ly;apply c;clear c R
    skip
    generalize cE:upd H5 A5 _=H6;obtain⟨s5,a8⟩:=alc bi cE;have an:=ai.same s5;have bn:=an.jw;have be:FrJ g m H H6:=(Fr.j ay).trans (az.trans (Az.j s5));refine xwm Z Z bn.gr.hp (Dw g) ?_;refine xq1 Z ⟨A5,y0,y1,y2,y3,y4,y5,y6,y7,y8,Z,a8,λMM t0 t1 t2 t3 H7 s7 hM bo bp bq bt=>?_⟩;have aj:=an.same s7;have X:=aj.jw;refine⟨MM,Z,⟨_,SqL.of hM⟩,?_⟩;have four:=Nz nj bo bp bq bt;have aa:=X.ok;refine Ck (xs:=[t0,t1,t2,t3].map V.ref) (λi I H8=>∃(W:Gv)(zs:J_),I=zs.map toV/\zs.length=i/\Fr g H7 H8/\JZ a H8 g W Κ N (b+5+i) p dx mem pr r m/\AR G5 W i/\∀(t z:Nat),zs[t]?=some z->An W z ((l+1:Nat):Int)/\Vw W (Bh r (2^e) (AM G (l+1+2) n)) (l+1) z (2^(l+1)*(t%2)+2^(l+1)) (2^(l+1)*(t/2)+2^(l+1))) ⟨G5,[],Z,Z,Fr.refl g H7,aj,AR.refl aa,λt z e=>(nomatch e)⟩ (λi I H8 _ z=>by obtain⟨_,_,_,_,fr,_⟩:=z;exact SqL.of ((fr.kps X.gr X.bs.long) _ _ hM (.lst (by show 4<=50;decide)))) ?_ ?_
    .rintro i v I H8 ev ap;apply AL;intro R c;obtain⟨W,zs,rfl,lz,ab,D,C,vz⟩:=ap;have ac:=D.jw;have au:=D.sz fin;apply c;clear c R;rw[C7]at ev;obtain⟨tt,et,rfl⟩:=D5.mp ev;have i4:i<4:=(B9.mp et).1;apply AL;intro R c;obtain⟨f0,f1,f2,f3,bu,⟨m0,m1,m2,m3⟩,w0,w1,w2,w3⟩:=four i tt et;apply c;clear c R
     skip
     have qg:∀{f:Nat}(j:Nat),An G5 f ((l+1:Nat):Int)->qO W f j=qO G5 f j:=λ{f} j h=>by
      obtain⟨q,e,_⟩:=h;unfold qO;rw[C.get e,e]
     refine⟨⟨[some (.ref tt)],Z,Z⟩,by rw[B8,lz];exact N4 i4 A3,EQ (xw2 Z Z ⟨g,W,tt,f0,f1,f2,f3,l,Z,ac.gr,ac.ok,(ab.kps X.gr X.bs.long) _ _ bu (.inl .tup),⟨C.lev m0,C.lev m1,C.lev m2,C.lev m3⟩,by lia,by lia,λz G9 H9 ar bl S e9=>⟨G9,zs++[z],by rw[C0];rfl,by rw[C6,lz];rfl,ab.trans ar,D.fr ar bl S,C.trans S,?_⟩⟩)⟩;rw[qg 3 m0,qg 2 m1,qg 1 m2,qg 0 m3]at e9;refine MS lz (λt z' e=>?_) ?_
     .obtain⟨q1,q2⟩:=vz t z' e;exact⟨S.lev q1,q2.goes ac.ok S q1⟩
     .exact⟨⟨_,e9,by show(l:Int)+1=((l+1:Nat):Int);lia⟩,(VH aa (C.trans S) m0 m1 m2 m3 w0 w1 w2 w3 e9).at' A1 A1⟩
    rintro I H8 ao A8 a0;apply AL;intro R c;obtain⟨W,zs,rfl,lz,ab,D,C,vz⟩:=ao;have ac:=D.jw;have au:=D.sz fin;apply c;clear c R;apply AL;intro R c;obtain⟨z0,z1,z2,z3,rfl⟩:=IW zs lz;apply c;clear c R;have bh:AR G5 W 4:=C;have D:JZ a H8 g W Κ N (b+5+4) p dx mem pr r m:=D;have au:=D.sz fin;have Y:=(ag.trans O).trans bh;have ax:FrJ g m H H8:=be.trans ((Az.j s7).trans (Fr.j ab));generalize cV:upd H8 A8 _=H9;obtain⟨s8,am⟩:=alc a0 cV;refine⟨A8,(xq1 Z (.inl ⟨SqL.of am,λu hu=>?_⟩))⟩;have ad:=D.same s8;have af:=ad.jw;obtain⟨q0,x0⟩:=vz 0 z0 Z;obtain⟨q1,x1⟩:=vz 1 z1 Z;obtain⟨q2,x2⟩:=vz 2 z2 Z;obtain⟨q3,x3⟩:=vz 3 z3 Z
    skip
    refine lnk (⟨.refl _ _,λe=>e,af.gr,.refl af.ok⟩:Ln a g H9 W 0 H9 W) hu ⟨q0,q1,q2,q3⟩ A1 A1 λz av aw ae M ak=>?_;refine k z av aw _ (ax.trans ((Az.j s8).trans (Fr.j ae.fr))) ((ad.fr ae.fr ae.gr M).mono A1) (Y.trans M) ?_ (((((hz.upF (l+1) ay).trans a4 ag).trans (ai.upS _ s5) (ag.trans O)).trans (an.upS _ s7) (ag.trans O)).trans (((aj.upF _ ab).trans (D.upS _ s8) C).trans (ad.upF _ ae.fr) C) (ag.trans O));have al:=Y.trans M;refine Vw.jr (al.lev hl) he ⟨_,ak,by show((l+1:Nat):Int)+1=((l+1+1:Nat):Int);lia⟩ ?_;rw[AQ U.ok al hl];exact GG af.ok M q0 q1 q2 q3 (x0.at' A1 A1) (x1.at' A1 A1) (x2.at' A1 A1) (x3.at' A1 A1) ak
   .have aq:e=l+1:=by
     have hc:¬(e:Int)<((l+1+2:Nat):Int)-2:=λz=>hc (W1 z);lia
    subst aq;refine xwm Z Z U.gr.hp (Dw g) ?_;refine xwn Z Z U.hp (QL _ _ _ _ _) Z (xq1 Z ⟨p,dx,mem,pr,g,G,Κ,N,b,r,m,n,l,Z,hz,fin,cl,hl,hL,a3,by lia,λA7 f0 f1 f2 f3 G5 H7 i5 bf aj O b3 ba b0 b5=>?_⟩);apply AL;intro R c;obtain⟨m0,m1,m2,m3⟩:=b0;obtain⟨w0,w1,w2,w3⟩:=b5;apply c;clear c R
    skip
    refine⟨A7,Z,⟨_,SqL.of ba⟩,?_⟩;have X:=aj.jw;have aa:=X.ok;have four:∀(t f:Nat),[f0,f1,f2,f3][t]?=some f->An G5 f ((l+2:Nat):Int)/\Vw G5 (Bh r (2^l) (AM G (l+1+2) n)) (l+2) f (2^(l+1)*(t%2)+2^l) (2^(l+1)*(t/2)+2^l):=λt f et=>by
     match t,et with
     |0,et=>cases et;exact⟨m0,w0.at' A1 A1⟩
     |1,et=>cases et;exact⟨m1,w1.at' A1 A1⟩
     |2,et=>cases et;exact⟨m2,w2.at' A1 A1⟩
     |3,et=>cases et;exact⟨m3,w3.at' A1 A1⟩
     |j+4,et=>cases et
    have bc:Bh r (2^l) (Bh r (2^l) (AM G (l+1+2) n))=Bh r (2^(l+1)) (AM G (l+1+2) n):=by
     rw[<-MU,p1,Nat.mul_two]
    refine Ck (xs:=[f0,f1,f2,f3].map toV) (λi I H8=>∃(W:Gv)(zs:J_)(c8:Nat),I=zs.map toV/\zs.length=i/\FrJ g m H7 H8/\JZ a H8 g W Κ N (b+9) p dx mem pr r m/\AR G5 W c8/\Up (l+1) G5 H7 H8 m/\∀(t z:Nat),zs[t]?=some z->An W z ((l+1:Nat):Int)/\Vw W (Bh r (2^(l+1)) (AM G (l+1+2) n)) (l+1) z (2^(l+1)*(t%2)+2^(l+1)) (2^(l+1)*(t/2)+2^(l+1))) ⟨G5,[],0,Z,Z,λb o e _ _ _ _ _=>e,aj,AR.refl aa,Up.refl _ _ _ _,λt z e=>(nomatch e)⟩ (λi I H8 _ z=>by obtain⟨_,_,_,_,_,fr,_⟩:=z;exact SqL.of ((fr.kps X.gr X.bs.long X.me) _ _ ba (.lst (by show 4<=50;decide)))) ?_ ?_
    .rintro i v I H8 ev ap;apply AL;intro R c;obtain⟨W,zs,c8,rfl,lz,ab,D,C,a5,vz⟩:=ap;have ac:=D.jw;have au:=D.sz fin;apply c;clear c R;rw[C7]at ev;obtain⟨ff,et,rfl⟩:=D5.mp ev;have i4:i<4:=(B9.mp et).1;obtain⟨mf,wf⟩:=four i ff et
     skip
     refine⟨⟨[some (toV ff)],Z,Z⟩,by rw[B8,lz];exact N4 i4 A3,EQ (xwn Z Z ac.hp (IL _ _ _ _ _) Z (xwb Z Z Z ⟨p,dx,mem,pr,g,W,Κ,N,b+9,r,m,ff,l,l,(show [V.ref p,V.int (ff:Int),V.int (((l+1:Nat):Int)-1)]=[V.ref p,V.int (ff:Int),V.int (l:Int)] by rw[show((l+1:Nat):Int)-1=(l:Int) by lia]),D,fin,cl,C.lev mf,hL,C9 l,(by rw[AQ aa C mf];exact fin.ext (cl.four a3 (i%2) (i/2) A1 A1) λx y hx hy=>(wf x y hx hy).symm),by lia,λz G9 H9 c9 ar ad S bw b4=>⟨G9,zs++[z],_,by rw[C0];rfl,by rw[C6,lz];rfl,ab.trans ar,ad,C.trans S,a5.trans b4 C,?_⟩⟩))⟩;refine MS lz (λt z' e=>?_) ?_
     .obtain⟨q1,q2⟩:=vz t z' e;exact⟨S.lev q1,q2.goes ac.ok S q1⟩
     .obtain⟨r1,_,r3⟩:=bw.view ((C.trans S).lev mf) (wf.goes aa (C.trans S) mf);rw[bc]at r3;exact⟨r1,r3.at' A1 A1⟩
    rintro I H8 ao A8 a0;apply AL;intro R c;obtain⟨W,zs,c8,rfl,lz,ab,D,C,a5,vz⟩:=ao;have ac:=D.jw;have au:=D.sz fin;apply c;clear c R;apply AL;intro R c;obtain⟨z0,z1,z2,z3,rfl⟩:=IW zs lz;apply c;clear c R;have Y:=O.trans C;have ax:FrJ g m H H8:=bf.trans ab;generalize cV:upd H8 A8 _=H9;obtain⟨s8,am⟩:=alc a0 cV;refine⟨A8,(xq1 Z (.inl ⟨SqL.of am,λu hu=>?_⟩))⟩;have ad:=D.same s8;have af:=ad.jw;obtain⟨q0,x0⟩:=vz 0 z0 Z;obtain⟨q1,x1⟩:=vz 1 z1 Z;obtain⟨q2,x2⟩:=vz 2 z2 Z;obtain⟨q3,x3⟩:=vz 3 z3 Z
    skip
    refine lnk (⟨.refl _ _,λe=>e,af.gr,.refl af.ok⟩:Ln a g H9 W 0 H9 W) hu ⟨q0,q1,q2,q3⟩ A1 A1 λz av aw ae M ak=>?_;refine k z av aw _ (ax.trans ((Az.j s8).trans (Fr.j ae.fr))) ((ad.fr ae.fr ae.gr M).mono A1) (Y.trans M) ?_ ((b3.trans a5 O).trans ((D.upS _ s8).trans (ad.upF _ ae.fr) (AR.refl ac.ok)) Y);have al:=Y.trans M;refine Vw.jr (al.lev hl) he ⟨_,ak,by show((l+1:Nat):Int)+1=((l+1+1:Nat):Int);lia⟩ ?_;rw[AQ U.ok al hl];exact GG af.ok M q0 q1 q2 q3 (x0.at' A1 A1) (x1.at' A1 A1) (x2.at' A1 A1) (x3.at' A1 A1) ak
theorem ok_recB{L d:Nat}(F:Fun K "reckoned" "Jumps.reckoned" Dc f fd)(T:Top K mg a)(cO:BD P w K mg base CX0 d a.c_Jumps "fresh" On (Ru a L)):AT P w K mg base CX0 (d+1) f fd On (EC a L):=by
 refine F.ok DH (λvs H Q E h=>?_) (λae A ac s H vs Q E hr h=>?_)
 .apply AL;intro j c;obtain⟨p,dx,mem,pr,g,G,Κ,N,b,r,m,n,l,e,rfl,_⟩:=h;apply c;clear c j;rfl
 .apply AL;intro j c;obtain⟨p,dx,mem,pr,g,G,Κ,N,b,r,m,n,l,e,rfl,hz,fin,cl,W,hL,he,X,few,k⟩:=h;have u:=hz.jw;have sz:=hz.sz fin;apply c;clear c j;obtain⟨q,eq,el⟩:=id W;have aj:=(u.ok.lev eq).2;have aa:e<m.ds.length:=by rw[u.me.len];lia
  obtain⟨d,C⟩:∃d,m.ds[e]?=some d:=⟨m.ds[e]'aa,F0 _⟩
  apply AL;intro j c;obtain⟨kv,hd,dl,dk,dv⟩:=u.me.sq e d C;apply c;clear c j;refine⟨_,(Ae (Av (i:=3) DH.nd Z O_9 (Nn (DY hr) (Ah Au (AK (pv 0) Z) (pv 2) R_9) (pv 1) ⟨Z,Z,Z,Z⟩)) (Ae (AS (AF Nr (pv 3) Jz (AI _)) (Ae (Av (i:=3) DH.nd Z O_9 (Aw (pv 0) cO (rm hr) Ao (Aa (pv 1) (Aa (pv 2) Ab)))) (Af (FT (DY hr) (Ah Au (AK (pv 0) Z) (pv 2) R_9) (pv 1) (pv 3) Z))) AD) (Af (Ax (pv 3))))),?_⟩
  try dsimp only[cxK]
  have R:atI (m.ds.map V.ref) (e:Int)=some (.ref d):=Am (by rw[C7,C];rfl);refine xwf Z Z u.hp T.cl_Jumps T.na_Jumps_known_squares (VR _ _ _ _ _) (xwi Z Z Z (SqL.of u.me.l) R ⟨d,Z,.inl ⟨_,.inl hd⟩,(xq1 Z ⟨_,FM.k (k:=Sum.inl (n:Int)) hd,?_⟩)⟩);apply Li (fun σ O=>∃(x:Nat)(B:Gv),σ=[some (.ref p),some (.int (n:Int)),some (.int (e:Int)),some (.int (x:Int))]/\FrJ g m H O/\JZ a O g B Κ N b p dx mem pr r m/\(∃i,AR G B i)/\JR r B e n x/\Up (l+1) G H O m)
  .intro y;refine xq1 Z ⟨Z,(xq1 Z ?_)⟩;cases ev:BP kv (Sum.inl (n:Int))with
   |some v =>
    obtain⟨x,rfl,jr⟩:=dv n v ev;exact Bl (y _ _ ⟨x,G,Z,λb o e _ _ _ _ _=>e,hz,⟨0,AR.refl u.ok⟩,jr,Up.refl _ _ _ _⟩)
   |none =>
    refine CT ?_;refine xwn Z Z u.hp (Ua _ _ _ _ _) Z (xq1 Z ⟨p,dx,mem,pr,g,G,Κ,N,b,r,m,n,l,e,Z,hz,fin,cl,W,hL,he,X,few,λx B H' i' fr t M jr up=>?_⟩);apply AL;intro j c;have I:=t.jw;obtain⟨Y,D,ag,af,ah⟩:=I.me.sq e d C;apply c;clear c j;refine xw2 Z Z (xq5 I.hp T.cl_Jumps T.na_Jumps_known_squares (VR _ _ _ _ _) (xwi Z Z Z (SqL.of I.me.l) R (xq1 Z ⟨d,(xq1 Z ⟨LB.k (k:=Sum.inl (n:Int)) D (F3 (show Y.length<=9000000 by lia) A3),?_⟩)⟩)));have ab:=up e n l W (C9 l) (λd2 ai S U=>by rw[C]at S;cases S;rw[hd]at U;cases U;exact ev) d Y C D;obtain⟨z1,z2⟩:=t.put fin C D ab (M.lev W) (by rw[AQ u.ok M W];exact X) jr;exact y _ _ ⟨x,B,Z,λb o e n1 n2 n3 n4 n5=>by rw[Ar (λz=>n5 (by rw[z];exact D6 C))];exact fr _ _ e n1 n2 n3 n4 n5,z1,⟨i',M⟩,jr,(up.mono (U3 l)).trans z2 M⟩
  rintro σ O ad;apply AL;intro j c;obtain⟨x,B,rfl,fr,t,⟨i',M⟩,jr,up⟩:=ad;apply c;clear c j;exact xq1 Z (k x B O i' fr t M jr up)
theorem Pz{f M I:R_}{x q o:E_}(F:Fun K "reckoned" "Jumps.reckoned" Dc f x)(A:Fun K "four_halfway" "Jumps.four_halfway" Bw M q)(z:Fun K "fresh" "Jumps.fresh" Cm I o)(T:Top K mg a)(B:Qn K a.c_Jumps "reckoned" f)(y:DB K x On [])(j:Qn K a.c_Jumps "four_halfway" M)(d:DB K q On [])(i:Qn K a.c_Jumps "fresh" I)(c:DB K o On [])(C:BD P w K mg base CX0 7 a.c_Jumps "middle_after" IR (Pd a))(t:BD P w K mg base CX0 2 a.c_Grove "linked" Br (EZ a))(u:Cal P w K mg base CX0 3 "nine_parts" Dd (LF a))(v:Cal P w K mg base CX0 1 "fours_of" RG JL)(D:Cal P w K mg base CX0 3 "met_in_the_middle" Cr (Sm a)):∀L,AT P w K mg base CX0 (10+3*L) f x On (EC a L)
|0=>(AT.no (k:=10)).imp λvs H Q E h=>by
 apply AL;intro O s;obtain⟨p,Y,mem,pr,g,G,Κ,N,b,r,m,n,l,e,_,_,_,_,_,W,_⟩:=h;apply s;clear s O;exact absurd W (Nat.not_lt_zero l)
|L+1=>by
 have X:=Pz F A z T B y j d i c C t u v D L;have M1:BD P w K mg base CX0 (10+3*L) a.c_Jumps "reckoned" On (EC a L):=⟨⟨_,_,X,B,y⟩,T.cl_Jumps⟩
 have U:=QG A T A1 u v t M1;have R:BD P w K mg base CX0 (10+3*L+1) a.c_Jumps "four_halfway" On (JK a L):=⟨⟨_,_,U,j,d⟩,T.cl_Jumps⟩
 have V:=ok_freA z T A1 C t u v D M1 R;have S:BD P w K mg base CX0 (10+3*L+2) a.c_Jumps "fresh" On (Ru a (L+1)):=⟨⟨_,_,V,i,c⟩,T.cl_Jumps⟩
 exact ok_recB F T S
theorem TV{L d:Nat}(F:Fun K "after" "Jumps.after" Gf f fd)(T:Top K mg a)(U:4<=d)(C:BD P w K mg base CX0 4 a.c_Jumps "check_jump" On (spCj a))(B:BD P w K mg base CX0 d a.c_Jumps "reckoned" On (EC a L)):AT P w K mg base CX0 (d+1) f fd On (EC a L):=by
 refine F.ok Ng (λvs H Q E h=>?_) (λD A v s H vs Q E z h=>?_)
 .apply AL;intro j c;obtain⟨p,o,mem,x,g,G,Κ,N,b,r,m,n,l,e,rfl,_⟩:=h;apply c;clear c j;rfl
 .apply AL;intro j c;obtain⟨p,o,mem,x,g,G,Κ,N,b,r,m,n,l,e,rfl,t,fin,I,y,R,S,u,few,k⟩:=h;have i:=t.jw;have sz:=t.sz fin;obtain⟨q,O,M⟩:=id y;apply c;clear c j;refine⟨_,(Ae (Ba (Aw (pv 0) C (rm z) Ao (Aa (pv 1) (Aa (pv 2) Ab)))) (Af (Ax (Aw (pv 0) B (rm z) Ao (Aa (pv 1) (Aa (pv 2) Ab)))))),?_⟩
  try dsimp only[cxK]
  refine xwn Z Z i.hp (OA _ _ _ _ _) Z (xq1 Z ⟨p,o,g.p,mem,x,m.l,m.kc,g,G,n,e,q,Z,i.hp,i.gr,O,by rw[M];lia,?_⟩);exact xwn Z Z i.hp (IL _ _ _ _ _) Z (xq1 Z ⟨p,o,mem,x,g,G,Κ,N,b,r,m,n,l,e,Z,t,fin,I,y,R,S,u,few,k⟩)
end
section
variable{α:Type}{v:α->V}{f g:Nat->α}{W:Nat}
noncomputable def Ef(v:α->V)(f:Nat->α)(W:Nat):List V:=(List.range W).map λx=>v (f x)
theorem EA:(Ef v f W).length=W:=by unfold Ef;rw[B8,M0]
theorem TL:Ef v f (W+1)=Ef v f W++[v (f W)]:=by unfold Ef;rw[M9,C0];rfl
theorem JS{x:Nat}(h:x<W):(Ef v f W)[x]?=some (v (f x)):=by unfold Ef;rw[C7,O4 h];rfl
theorem rowV_no{x:Nat}(h:W<=x):(Ef v f W)[x]?=none:=N7 (by rw[EA];exact h)
theorem Pn{x:Nat}(h:x<W):atI (Ef v f W) (x:Int)=some (v (f x)):=Am (JS h)
theorem QD{i k:Nat}(h:i+k<=W):NQ (Ef v f W) (some (i:Int)) (some ((i+k:Nat):Int))=Ef v (λx=>f (x+i)) k:=by
 unfold NQ;rw[HT.Sz,HT.Sz,EA,Nat.min_eq_left A1,Nat.min_eq_left A1,R3];refine V7 λj=>?_;rw[List.getElem?_take];by_cases a:j<k
 .rw[W9 a,List.getElem?_drop,JS A1,JS a,Q3]
 .rw[W4 a,rowV_no A1]
end
inductive GrAt{α:Type}(v:α->V)(H:Hp)(q:R_)(Wx Wy:Nat)(f:Nat->Nat->α):Prop
|mk (ts:H_) (_:H q=some (.lst (ts.map V.ref))) (_:ts.length=Wy) (_:∀(y:Nat) t,ts[y]?=some t->H t=some (.lst (Ef v (λx=>f x y) Wx))):GrAt v H q Wx Wy f
def KN(G:Gv)(f:Nat->Nat->Int)(k W:Nat)(F:Nat->Nat->Nat):Prop:=∀x y,x<W->y<W->An G (F x y) (k:Int)/\Vw G f k (F x y) (2^k*x) (2^k*y)
section
variable{P:N_}{w:Q_}{K:O_}{mg:C_}{base:T_}{a:Ad}
inductive Wt(vs:List V)(H:Hp)(Q:VK):Prop
|mk (i:Int) (_:vs=[.int i,.int i]) (_:Q (.bl true) H):Wt vs H Q
def Pb:Sp:=λvs H Q _=>Wt vs H Q
theorem ok_same(F:Fun K "_law_same" "_law_same" IC f fd)(T:Top K mg a):AT P w K mg base CX0 1 f fd QO Pb:=by
 refine F.ok Pk D_9 λc A b s H vs Q E d h=>?_
 obtain⟨i,rfl,k⟩:=h;refine⟨_,(Af (Ax (LO (AU Dk Z T.b_isinstance Y9 (Aa (pv 0) (Aa (Ev (v:=.ty "int") Z T.b_int Z6 Z) Ab))) (LO (Vn (AU Dk Z T.b_isinstance Y9 (Aa (pv 0) (Aa (Ev (v:=.ty "bool") Z T.b_bool A0d Z) Ab)))) (Jy (Do Ci (pv 0) (pv 1) (AI _))))))),?_⟩
 try dsimp only[cxK]
 refine xq1 Z ⟨_,_,_,.type "int",true,Z,Z,.of (.int i),(OF K).1,true,Z,CT (xq1 Z ⟨_,_,_,.type "int",false,Z,Z,.of (.int i),(OF K).2,false,Z,true,Z,CT (xw2 Z Z ⟨Z,?_⟩)⟩)⟩;rw[W1 rfl];exact k
end
theorem Vw.one{G:Gv}(ok:GOk G){c:Nat->Nat->Int}{l n m X Y:Nat}(e:An G n (l:Int))(d:An G m (l:Int))(h:Vw G c l n X Y)(k:Vw G c l m X Y):n=m:=Lu ok l e d λx y a b=>(h x y a b).trans (k x y a b).symm
theorem JR.one{r:AA}{G:Gv}{e n k c:Nat}(ok:GOk G)(h:JR r G e n k)(h':JR r G e n c):k=c:=by
 obtain⟨l,j,_,m,o⟩:=h;obtain⟨p,f,_,g,i⟩:=h';have d:p=l:=by
  have:=f.one j;lia
 subst d;exact Lu ok _ m g λx y a b=>(o x y a b).trans (i x y a b).symm
def GI(G:Gv)(c:Nat->Nat->Int)(W k B S:Nat)(ks:J_):Prop:=ks.length=W*W/\∀i j,i<W->j<W->∃y,ks[i+W*j]?=some y/\An G y (k:Int)/\Vw G c k y (B+S*i) (B+S*j)
theorem GI.one{G:Gv}(ok:GOk G){c:Nat->Nat->Int}{W k B S:Nat}{f g:J_}(i:0<W)(h:GI G c W k B S f)(h':GI G c W k B S g):f=g:=by
 refine V7 λt=>?_;by_cases j:t<W*W
 .have e:t/W<W:=P7 j;have d:t%W<W:=V0 _ i;obtain⟨y,a,l,n⟩:=h.2 _ _ d e;obtain⟨p,b,m,o⟩:=h'.2 _ _ d e;rw[T8]at a b;rw[a,b,Vw.one ok l m n o]
 .rw[N7 (by rw[h.1];lia),N7 (by rw[h'.1];lia)]
theorem GI.goes{G a:Gv}{x:Nat}(ok:GOk G)(b:AR G a x){c:Nat->Nat->Int}{W k B S:Nat}{d:J_}(h:GI G c W k B S d):GI a c W k B S d:=⟨h.1,λi j f g=>by
 obtain⟨y,e,l,v⟩:=h.2 i j f g;exact⟨y,e,b.lev l,v.goes ok b l⟩⟩
def Jb(G:Gv)(n l:Nat)(ks:J_):Prop:=GI G (AM G (l+1+2) n) 3 (l+2) 0 (2^(l+1)) ks
def NX(r:AA)(G:Gv)(n l:Nat)(fs:J_):Prop:=GI G (Bh r (2^l) (AM G (l+1+2) n)) 2 (l+2) (2^l) (2^(l+1)) fs
theorem GI.mem{G:Gv}{c:Nat->Nat->Int}{W k B S:Nat}{b:J_}(d:0<W)(h:GI G c W k B S b){y:Nat}(f:y∈b):An G y (k:Int):=by
 obtain⟨t,a⟩:=F6 f;have lt:t<W*W:=by rw[<-h.1];exact(B9.mp a).1
 obtain⟨z,e,l,_⟩:=h.2 (t%W) (t/W) (V0 _ d) (P7 lt);rw[T8,a]at e;cases e;exact l
inductive Dep(r:AA)(G:Gv):Nat->Nat->List (Nat×Nat)->Prop
|z {n:Nat} (h:An G n ((0+2:Nat):Int)):Dep r G n 0 []
|lo {n l e:Nat} {ks:J_} (h:An G n ((l+1+2:Nat):Int)) (he:e<=l) (hk:Jb G n l ks):Dep r G n e (ks.map λk=>(k,e))
|up {n l:Nat} {ks fs:J_} (h:An G n ((l+1+2:Nat):Int)) (hk:Jb G n l ks) (hf:NX r G n l fs):Dep r G n (l+1) ((ks++fs).map λk=>(k,l))
theorem Dep.one{r:AA}{G:Gv}(ok:GOk G){n e:Nat}{i j:List (Nat×Nat)}(h:Dep r G n e i)(h':Dep r G n e j):i=j:=by
 cases h with
 |z a =>
  cases h' with
  |z _=>rfl
  |lo b _ _ =>
   have:=a.one b;lia
 |lo a p g =>
  cases h' with
  |z b =>
   have:=a.one b;lia
  |lo b d c =>
   rename_i l _ o _;have k:o=l:=by
    have:=a.one b;lia
   subst k;rw[GI.one ok A3 g c]
  |up b _ _ =>
   have:=a.one b;lia
 |up a g m =>
  cases h' with
  |lo b d _ =>
   have:=a.one b;lia
  |up b c f =>
   rw[GI.one ok A3 g c,GI.one ok A3 m f]
theorem Dep.goes{r:AA}{G d:Gv}{x:Nat}(ok:GOk G)(b:AR G d x){n e:Nat}{f:List (Nat×Nat)}(h:Dep r G n e f):Dep r d n e f:=by
 cases h with
 |z a=>exact .z (b.lev a)
 |lo a g c=>exact .lo (b.lev a) g (by unfold Jb;rw[AQ ok b a];exact c.goes ok b)
 |up a c i=>exact .up (b.lev a) (by unfold Jb;rw[AQ ok b a];exact c.goes ok b) (by unfold NX;rw[AQ ok b a];exact i.goes ok b)
theorem Dep.lev{r:AA}{G:Gv}{n e l:Nat}{i:List (Nat×Nat)}(h:Dep r G n e i)(j:An G n ((l+2:Nat):Int)){d:Nat×Nat}(f:d∈i):∃c,l=c+1/\An G d.1 ((c+2:Nat):Int)/\d.2<=c:=by
 cases h with
 |z a=>cases f
 |lo a m g =>
  rename_i c _;obtain⟨k,b,rfl⟩:=D7.mp f;have:=a.one j;exact⟨c,by lia,GI.mem A3 g b,m⟩
 |up a g o =>
  rename_i c _ _;obtain⟨k,b,rfl⟩:=D7.mp f;have:=a.one j;refine⟨c,by lia,?_,C9 _⟩;rcases D3.mp b with z|z
  .exact GI.mem A3 g z
  .exact GI.mem A3 o z
theorem Dep.len{r:AA}{G:Gv}{n e:Nat}{c:List (Nat×Nat)}(h:Dep r G n e c):c.length<=13:=by
 cases h with
 |z a=>exact L5 _
 |lo a f b=>rw[B8,b.1];decide
 |up a b d=>rw[B8,C6,b.1,d.1];decide
structure T3 where
n:Nat
e:Nat
m:Nat
noncomputable def T3.key(q:T3):Nat×Nat:=(q.n,q.e)
structure Rsn(r:AA)(G:Gv)(t0 new:List T3)(D:List (Nat×Nat)):Prop where
ok:∀q∈new,JR r G q.e q.n q.m
dep:∀(i:Nat)(q:T3),new[i]?=some q->∃ds,Dep r G q.n q.e ds/\∀d∈ds,d∈(t0++new.take i).map T3.key
use:∀(i:Nat)(q:T3),new[i]?=some q->(∃(j:Nat)(q':T3)(ds:List (Nat×Nat)),i<j/\new[j]?=some q'/\Dep r G q'.n q'.e ds/\q.key∈ds)\/q.key∈D
nd:(new.map T3.key).Nodup
theorem Rsn.nil(r:AA)(G:Gv)(b:List T3)(D:List (Nat×Nat)):Rsn r G b [] D:=⟨λq a=>(nomatch a),λi q e=>(by cases e),λi q e=>(by cases e),O6⟩
theorem Rsn.goes{r:AA}{G f:Gv}{x:Nat}(ok:GOk G)(b:AR G f x){g new:List T3}{D:List (Nat×Nat)}(h:Rsn r G g new D):Rsn r f g new D:=by
 refine⟨λq m=>(h.ok q m).goes ok b,λi q e=>?_,λi q e=>?_,h.nd⟩
 .obtain⟨a,c,d⟩:=h.dep i q e;exact⟨a,c.goes ok b,d⟩
 .rcases h.use i q e with ⟨j,n,a,c,d,k,l⟩|z
  .exact .inl ⟨j,n,a,c,d,k.goes ok b,l⟩
  .exact .inr z
theorem Rsn.more{r:AA}{G:Gv}{b new:List T3}{D a:List (Nat×Nat)}(h:Rsn r G b new D)(s:∀d∈D,d∈a):Rsn r G b new a:=⟨h.ok,h.dep,λi q e=>(h.use i q e).imp id (s _),h.nd⟩
theorem Rsn.app{r:AA}{G:Gv}{t new c:List T3}{D u:List (Nat×Nat)}(h:Rsn r G t new D)(k:Rsn r G (t++new) c u)(v:∀q∈c,q.key∉new.map T3.key):Rsn r G t (new++c) (D++u):=by
 have at':∀i q,(new++c)[i]?=some q->(i<new.length/\new[i]?=some q)\/(new.length<=i/\c[i-new.length]?=some q):=λi q e=>by
  by_cases f:i<new.length
  .rw[J3 f]at e;exact .inl ⟨f,e⟩
  .rw[F1 A1]at e;exact .inr ⟨by lia,e⟩
 refine⟨λq p=>?_,λi q e=>?_,λi q e=>?_,?_⟩
 .rcases D3.mp p with z|z
  .exact h.ok q z
  .exact k.ok q z
 .rcases at' i q e with ⟨f,e⟩|⟨f,e⟩
  .rw[List.take_append_of_le_length A1];exact h.dep i q e
  .obtain⟨l,m,g⟩:=k.dep _ q e;refine⟨l,m,λd y=>?_⟩;rw[List.take_append,List.take_of_length_le f,<-O2];exact g d y
 .rcases at' i q e with ⟨f,e⟩|⟨f,e⟩
  .rcases h.use i q e with ⟨j,s,l,m,g,n,o⟩|z
   .exact .inl ⟨j,s,l,m,by rw[J3 (B9.mp g).1];exact g,n,o⟩
   .exact .inr (D3.mpr (.inl z))
  .rcases k.use _ q e with ⟨j,s,l,m,g,n,o⟩|z
   .exact .inl ⟨new.length+j,s,l,by lia,by rw[F1 A1,R3];exact g,n,o⟩
   .exact .inr (D3.mpr (.inr z))
 .rw[C0,N5];refine⟨h.nd,k.nd,λa w b x z=>?_⟩;obtain⟨q,p,rfl⟩:=D7.mp x;exact v q p (z▸w)
theorem Rsn.fin{r:AA}{G:Gv}{g new:List T3}{n e m:Nat}{c:List (Nat×Nat)}(h:Rsn r G g new c)(f:Dep r G n e c)(jr:JR r G e n m)(all:∀d∈c,d∈(g++new).map T3.key)(nk:(n,e)∉new.map T3.key):Rsn r G g (new++[⟨n,e,m⟩]) [(n,e)]:=by
 have one:Rsn r G (g++new) [⟨n,e,m⟩] [(n,e)]:=by
  refine⟨λq j=>?_,λi q b=>?_,λi q b=>?_,by simp⟩
  .rw[C8.mp j];exact jr
  .match i,b with
   |0,b =>
    cases b;exact⟨c,f,λd f=>by rw[List.take_zero,P4];exact all d f⟩
  .match i,b with
   |0,b =>
    cases b;exact .inr (C8.mpr Z)
 have a:=h.app one λq j=>by
  rw[C8.mp j];exact nk
 refine⟨a.ok,a.dep,λi q b=>?_,a.nd⟩;rcases a.use i q b with z|z
 .exact .inl z
 .rcases D3.mp z with y|y
  .have l:i<new.length+1:=by
    have:=(B9.mp b).1;rw[C6]at this;exact this
   by_cases k:i<new.length
   .exact .inl ⟨new.length,⟨n,e,m⟩,c,k,by rw[F1 (C9 _),O8];rfl,f,y⟩
   .have:i=new.length:=by lia
    subst this;rw[F1 (C9 _),O8]at b;cases b;exact .inr (C8.mpr Z)
  .exact .inr y
theorem Rsn.used{r:AA}{G:Gv}(ok:GOk G){R:List T3}{d:Nat×Nat}{m:Nat}(h:Rsn r G [] (R++[⟨d.1,d.2,m⟩]) [d]){us:List (Nat×Nat)}(s:us.Nodup)(mem:∀k,k∈us ↔ ∃q∈R++[⟨d.1,d.2,m⟩],∃a,Dep r G q.n q.e a/\k∈a):us.length=R.length:=by
 have f:(R.map T3.key).Nodup/\d∉R.map T3.key:=by
  have:=h.nd;rw[C0,N5]at this;exact⟨this.1,λz=>this.2.2 d z d (C8.mpr Z) Z⟩
 have o:(R++[(⟨d.1,d.2,m⟩:T3)]).length=R.length+1:=by rw[C6];rfl
 have A:us.Perm (R.map T3.key):=by
  refine(List.perm_ext_iff_of_nodup s f.1).mpr λk=>?_;rw[mem k];constructor
  .rintro⟨q,g,a,w,c⟩;obtain⟨i,b⟩:=F6 g;obtain⟨B,u,v⟩:=h.dep i q b;rw[Dep.one ok w u]at c;have l:=v _ c;have x:=(B9.mp b).1;rw[T9,List.take_append_of_le_length A1]at l;obtain⟨p,y,t⟩:=D7.mp l;exact D7.mpr ⟨p,List.mem_of_mem_take y,t⟩
  .intro c;obtain⟨q,g,rfl⟩:=D7.mp c;obtain⟨i,b⟩:=F6 g;rcases h.use i q (by rw[J3 (B9.mp b).1];exact b)with ⟨j,q',a,_,h2,h3,h4⟩|z
   .exact⟨q',D6 h2,a,h3,h4⟩
   .rw[C8]at z;exact absurd (z▸c) f.2
 rw[A.length_eq,B8]
theorem NN{α β:Type}(f:α->List β)(m:α->Nat):∀l:List α,(∀x∈l,(f x).length<=m x)->(l.flatMap f).length<=(l.map m).sum
|[],_=>by simp
|a::l,h=>by
 have:=NN f m l λx b=>h x (D9 _ b);have:=h a D8;rw[List.flatMap_cons,C6,J1,P1];lia
def InK(G:Gv)(Κ:KTy)(d:Nat×Nat):Prop:=∃l:Nat,An G d.1 ((l+2:Nat):Int)/\d.2<=l/\l<47/\Κ l d.2 (AM G (l+2) d.1)
theorem InK.goes{G a:Gv}{x:Nat}{Κ:KTy}{d:Nat×Nat}(ok:GOk G)(b:AR G a x)(h:InK G Κ d):InK a Κ d:=by
 obtain⟨l,c,e,f,g⟩:=h;exact⟨l,b.lev c,e,f,by rw[AQ ok b c];exact g⟩
theorem SR{G:Gv}(ok:GOk G){Κ:KTy}{N:Nat}(fin:GC Κ N){b:List (Nat×Nat)}(s:b.Nodup)(h:∀d∈b,InK G Κ d):b.length<=N:=by
 obtain⟨M,m,a⟩:=fin.ls;refine D4 ?_ m;refine D4 ?_ (NN (λe=>(a e).choose.map λq=>(e,q)) M (List.range 47) λe _=>by rw[B8];exact(a e).choose_spec.1);refine Qa (λ(d:Nat×Nat)(q:Nat×Nat×Sht)=>d.2=q.1/\An G d.1 ((q.2.1+2:Nat):Int)/\UE q.2.1 (AM G (q.2.1+2) d.1) q.2.2) ?_ _ _ s λd o=>?_
 .rintro⟨n,e⟩ ⟨u,k⟩ ⟨t,l,ψ⟩ ⟨rfl,a1,a2⟩ ⟨a0,i,j⟩;have g:k=e:=a0;subst g;exact Prod.ext (Lu ok _ a1 i λx y c f=>(a2 x y c f).trans (j x y c f).symm) Z
 .obtain⟨l,a1,a2,a3,a4⟩:=h d o;obtain⟨ψ,p,r⟩:=(a d.2).choose_spec.2 l _ a4;exact⟨(d.2,l,ψ),Q4.mpr ⟨d.2,J8.mpr A1,D7.mpr ⟨_,p,Z⟩⟩,Z,a1,r⟩
theorem Dep.kap{r:AA}{G:Gv}{Κ:KTy}{N n e l:Nat}{E:List (Nat×Nat)}(w:ClK r Κ)(fin:GC Κ N)(h:Dep r G n e E)(I:An G n ((l+2:Nat):Int))(M:l<47)(o:Κ l e (AM G (l+2) n)){d:Nat×Nat}(A:d∈E):InK G Κ d:=by
 have f:∀{c:Nat->Nat->Int}{W k B S y:Nat}{D:J_},0<W->GI G c W k B S D->y∈D->∃i j,i<W/\j<W/\An G y (k:Int)/\Vw G c k y (B+S*i) (B+S*j):=λ{c W k B S y D} F h m=>by
  obtain⟨t,K⟩:=F6 m;have lt:t<W*W:=by rw[<-h.1];exact(B9.mp K).1
  obtain⟨z,e,l,v⟩:=h.2 (t%W) (t/W) (V0 _ F) (P7 lt);rw[T8,K]at e;cases e;exact⟨_,_,V0 _ F,P7 lt,l,v⟩
 cases h with
 |z a=>cases A
 |lo a H C =>
  rename_i b _;obtain⟨k,g,rfl⟩:=D7.mp A;obtain rfl:l=b+1:=by
   have:=a.one I;lia
  obtain⟨i,j,p,q,u,v⟩:=f A3 C g;exact⟨b,u,H,by lia,fin.ext (w.nine1 o H i j p q) λx y s m=>by rw[v x y s m,M5,M5]⟩
 |up a C L =>
  rename_i b _ _;obtain⟨k,g,rfl⟩:=D7.mp A;obtain rfl:l=b+1:=by
   have:=a.one I;lia
  rcases D3.mp g with z|z
  .obtain⟨i,j,p,q,u,v⟩:=f A3 C z;exact⟨b,u,C9 _,by lia,fin.ext (w.nine2 o i j p q) λx y s m=>by rw[v x y s m,M5,M5]⟩
  .obtain⟨i,j,p,q,u,v⟩:=f A3 L z;exact⟨b,u,C9 _,by lia,fin.ext (w.four o i j p q) λx y s m=>by rw[v x y s m,Q3 (2^b),Q3 (2^b)]⟩
def FY(H:Hp)(t:R_)(d:Nat×Nat):Prop:=H t=some (.tup [toV d.1,toV d.2])
theorem Fr.ex_{a:Ad}{g:GA}{k:Gv}{H b:Hp}(f:Fr g H b)(c:AE a b g k){x:R_}{o:HO}(e:H x=some o):∃l,b x=some l:=by
 by_cases d:x=g.lv
 .exact⟨_,d▸c.lv⟩
 by_cases i:x=g.pt
 .obtain⟨m,h,_⟩:=c.pt;exact⟨_,i▸h⟩
 by_cases j:x=g.nm
 .exact⟨_,j▸c.nm⟩
 exact⟨_,f _ _ e d i j⟩
theorem FrJ.ex_{a:Ad}{g:GA}{s:Gv}{N M:Nat}{p t mem w:R_}{r:AA}{m:MA}{H c:Hp}(f:FrJ g m H c)(b:JW a c g s N M p t mem w r m){x:R_}{o:HO}(e:H x=some o):∃v,c x=some v:=by
 by_cases i:x=g.lv
 .exact⟨_,i▸b.gr.lv⟩
 by_cases k:x=g.pt
 .obtain⟨z,h,_⟩:=b.gr.pt;exact⟨_,k▸h⟩
 by_cases l:x=g.nm
 .exact⟨_,l▸b.gr.nm⟩
 by_cases n:x=m.kc
 .obtain⟨u,h,_⟩:=b.me.ce;exact⟨_,n▸h⟩
 by_cases q:x∈m.ds
 .obtain⟨j,d⟩:=F6 q;obtain⟨y,h,_⟩:=b.me.sq j x d;exact⟨_,h⟩
 exact⟨_,f _ _ e i k l n q⟩
section
variable{P:N_}{w:Q_}{K:O_}{mg:C_}{base:T_}{a:Ad}
inductive SpRo(a:Ad)(L:Nat)(vs:List V)(H:Hp)(Q:VK):Prop
|mk (p dx mem pr:R_) (g:GA) (G:Gv) (Κ:KTy) (N b:Nat) (r:AA) (m:MA) (n l e:Nat) (_:vs=[.ref p,.int n,.int e]) (_:JZ a H g G Κ N b p dx mem pr r m) (_:GC Κ N) (_:ClK r Κ) (_:An G n ((l+2:Nat):Int)) (_:l<=L) (_:e<=l) (_:Κ l e (AM G (l+2) n)) (_:b+10*N+10*(l+3)<8000000) (_:∀(A:R_)(ts:H_)(ds:List (Nat×Nat))(G':Gv)(H':Hp)(i:Nat),FrJ g m H H'->(∀x o,H x=some o->x≠A)->JZ a H' g G' Κ N (b+14) p dx mem pr r m->AR G G' i->H' A=some (.lst (ts.map V.ref))->Paired (FY H') ts ds->Dep r G' n e ds->Q (.ref A) H'):SpRo a L vs H Q
def spRo(a:Ad)(L:Nat):Sp:=λvs H Q _=>SpRo a L vs H Q
theorem ok_ro{L d:Nat}(F:Fun K "rests_on" "Jumps.rests_on" Ct f fd)(T:Top K mg a)(d3:3<=d)(aF:Cal P w K mg base CX0 3 "nine_parts" Dd (LF a))(aP:BD P w K mg base CX0 d a.c_Jumps "four_halfway" On (JK a L)):AT P w K mg base CX0 (d+1) f fd On (spRo a L):=by
 refine F.ok DG D_9 λay A av s H vs Q E hr h=>?_
 obtain⟨p,dx,mem,pr,g,G,Κ,N,b,r,m,n,l,e,rfl,hz,aa,cl,I,hL,ae,W,few,k⟩:=h;have S:=hz.jw;have sz:=hz.sz aa;refine⟨_,(Ae (Av (i:=3) DG.nd Z O_9 (Ah Au (AK (AK (pv 0) Z) Z) (pv 1) R_9)) (Ae (AS (AF Ci (pv 3) (CS Z T.k_LEAST_JUMPED) (AI _)) (Af (Ax (Bq Ab))) AD) (Ae (Av (i:=4) DG.nd Z O_9 (AB aF (rm hr) Z Ao (Aa (AK (pv 0) Z) (Aa (pv 1) Ab)))) (Ae (AS (AF Lb (pv 2) (AG BU (pv 3) (CS Z T.k_LEAST_JUMPED)) (AI _)) (Af (Ax (BZ Z (Bn.of (So:=Ai Ct) (No:=Em) (N:=["part","e"]) (k:=1) (cs:=[2]) Z Z A0) (Bu (pv 4)) (λ_ _ _=>(AY (i:=0) A0 Z Z)) (λ_ _ _=>BB) (λ_ _ _=>(CD (Aa (pv 0) (Aa (pv 1) Ab))))))) AD) (Af (Ax (BZ Z (Bn.of (So:=Ai Ct) (No:=Em) (N:=["part","e"]) (k:=1) (cs:=[2]) Z Z A0) (Bu (AG LS (pv 4) (Aw (pv 0) aP (rm hr) Ao (Aa (pv 1) (Aa (pv 2) Ab))))) (λ_ _ _=>(AY (i:=0) A0 Z Z)) (λ_ _ _=>BB) (λ_ _ _=>(CD (Aa (pv 0) (BI BU (pv 1) Ac Ab))))))))))),?_⟩
 try dsimp only[cxK]
 refine lts ?_;intro az ax;obtain⟨qn,en,U⟩:=id I;have ai:l<=46:=by have:=(S.ok.lev en).2;lia
 refine xwf Z Z S.hp T.cl_Jumps T.na_Jumps_grove (DV _ _ _ _ _) (xq5 S.gr.hp T.cl_Grove T.na_Grove_levels (Gy g) (xwi Z Z Z (SqL.of S.gr.lv) (Am (by rw[C7,en];rfl)) ?_));show tSeq _ _ _ [some (.ref p),some (.int n),some (.int e),some (.int qn.lev),none] H;rw[U];refine xq1 Z ⟨Z,(xq1 Z ?_)⟩
 match l,I,hL,ae,W,few,k,ai,U with
 |0,I,hL,ae,W,few,k,ai,U =>
  have e0:e=0:=by lia
  subst e0;refine CT ⟨S_0,λA hA=>?_⟩;exact k A [] [] G _ 0 (Az.j (Al hA)) (λx o e=>Aj e hA) ((hz.same (Al hA)).mono A1) (AR.refl S.ok) Ag .nil (.z I)
 |l+1,I,hL,ae,W,few,k,ai,U =>
  rw[W3 (by intro z;injection z with z;lia)];refine Bl ?_;refine xwf Z Z S.hp T.cl_Jumps T.na_Jumps_grove (DV _ _ _ _ _) (xq1 Z ⟨g,G,n,l+1,Z,S.gr,S.ok,I,by lia,by lia,λA9 X G3 H3 O af c ac l9 nine=>?_⟩);have ah:=hz.fr O af c;have D:=ah.jw;have np:Jb G3 n l X:=⟨l9,λi j hi ag=>by
   obtain⟨y,e1,e2,e3⟩:=nine i j hi ag;refine⟨y,e1,e2,?_⟩;rw[AQ S.ok c I,M5,M5];exact e3⟩
  refine xw2 Z Z (xq2 Z Z (xq2 Z Z (xq1 Z ?_)));have aw:(((l+1+2:Nat):Int)-2)=((l+1:Nat):Int):=by lia
  by_cases he:e<=l
  .have ht:decide ((e:Int)<((l+1+2:Nat):Int)-2)=true:=W1 A1;rw[ht];refine CT (xq1 Z ⟨A9,Z,⟨_,SqL.of ac⟩,?_⟩);refine Ck (xs:=X.map λ(k:Nat)=>V.int (k:Int)) (λi q Y=>∃B:List Addr,q=B.map V.ref/\B.length=i/\Az H3 Y/\Paired (FY Y) B ((X.take i).map λk=>(k,e))) ⟨[],Z,Z,Az.refl H3,.nil⟩ (λi q Y _ z=>by obtain⟨_,_,_,M,_⟩:=z;exact SqL.of (M _ _ ac)) ?_ ?_
   .rintro i v q Y ev ⟨B,rfl,lt,M,u⟩;refine ltg ?_;intro a0;rw[C7]at ev;obtain⟨k5,ek,rfl⟩:=D5.mp ev;have i9:i<9:=by have:=(B9.mp ek).1;lia
    refine⟨⟨[some (.int (k5:Int))],Z,Z⟩,by rw[B8,lt];exact N4 i9 A3,EQ (xw2 Z Z ⟨S_2,λt ht=>⟨B++[t],by rw[C0];rfl,by rw[C6,lt];rfl,M.trans (Al ht),?_⟩⟩)⟩;rw[F9,ek,L6,C0];exact Z5 (Paired.imp (λt d z=>Al ht _ _ z) u) Ag
   .rintro q Y ⟨B,rfl,lt,M,u⟩ A5 C;rw[B8,J7]at u;have s5:=M.trans (Al (o:=.lst (B.map V.ref)) C);exact k A5 B _ G3 _ _ ((Fr.j O).trans (Az.j s5)) (λx o e=>by
     obtain⟨o',e'⟩:=O.ex_ af e;exact Aj (M _ _ e') C) ((ah.same s5).mono A1) c Ag (Paired.imp (λt d z=>Al C _ _ z) u) (.lo (c.lev I) he np)
  .have e1:e=l+1:=by lia
   subst e1;have ht:decide (((l+1:Nat):Int)<((l+1+2:Nat):Int)-2)=false:=W3 A1;rw[ht];refine Bl (xw2 Z Z (xq3 Z D.hp (QL _ _ _ _ _) (xw2 Z Z ⟨p,dx,mem,pr,g,G3,Κ,N,b+5,r,m,n,l,Z,ah,aa,cl,c.lev I,by lia,by rw[AQ S.ok c I];exact W,by lia,λA4 f0 f1 f2 f3 G4 H4 i4 ab ak R _ al ⟨ap,aq,ar,as⟩ ⟨v0,v1,v2,v3⟩=>?_⟩)));have an:=ak.jw;have aj:=(ab.kps D.gr D.bs.long D.me) _ _ ac (.lst (by rw[B8];lia));have au:Jb G4 n l X:=by
    unfold Jb;rw[AQ D.ok R (c.lev I)];exact np.goes D.ok R
   have fh:NX r G4 n l [f0,f1,f2,f3]:=by
    unfold NX;rw[AQ D.ok R (c.lev I)];refine⟨Z,λi j hi ag=>?_⟩
    match i,j,hi,ag with
    |0,0,_,_=>exact⟨f0,Z,ap,by rw[Nat.mul_zero,Nat.add_zero];exact v0⟩
    |1,0,_,_=>exact⟨f1,Z,aq,by rw[Nat.mul_zero,Nat.mul_one,Nat.add_zero];exact v1⟩
    |0,1,_,_=>exact⟨f2,Z,ar,by rw[Nat.mul_zero,Nat.mul_one,Nat.add_zero];exact v2⟩
    |1,1,_,_=>exact⟨f3,Z,as,by rw[Nat.mul_one];exact v3⟩
   refine⟨A9,A4,(xq2 Z Z ⟨aj,al,(by rw[B8,l9];show 9+4<=sizeLine;decide),λAC am=>?_⟩)⟩;have eC:(X.map λ(k:Nat)=>V.int (k:Int))++[toV f0,toV f1,toV f2,toV f3]=(X++[f0,f1,f2,f3]).map λ(k:Nat)=>V.int (k:Int):=by rw[C0];rfl
   rw[eC];generalize cE:upd H4 AC _=Y;obtain⟨s5,ad⟩:=alc am cE;have ao:(X++[f0,f1,f2,f3]).length=13:=by rw[C6,l9];rfl
   have fin:∀zs:List Nat,zs=X++[f0,f1,f2,f3]->Dep r G4 n (l+1) (zs.map λk=>(k,l)):=λzs ez=>ez▸.up ((c.trans R).lev I) au fh;generalize X++[f0,f1,f2,f3]=zs at ad ao fin⊢;have fin:=fin zs Z;refine⟨AC,Z,⟨_,SqL.of ad⟩,?_⟩;refine Ck (xs:=zs.map λ(k:Nat)=>V.int (k:Int)) (λi q H6=>∃B:List Addr,q=B.map V.ref/\B.length=i/\Az Y H6/\Paired (FY H6) B ((zs.take i).map λk=>(k,l))) ⟨[],Z,Z,Az.refl Y,.nil⟩ (λi q H6 _ z=>by obtain⟨_,_,_,M,_⟩:=z;exact SqL.of (M _ _ ad)) ?_ ?_
   .rintro i v q H6 ev ⟨B,rfl,lt,M,u⟩;refine ltg ?_;intro a1;rw[C7]at ev;obtain⟨k5,ek,rfl⟩:=D5.mp ev;have i9:i<13:=by have:=(B9.mp ek).1;lia
    refine⟨⟨[some (.int (k5:Int))],Z,Z⟩,by rw[B8,lt];exact N4 i9 A3,EQ (xw2 Z Z (xq2 Z Z ⟨S_2,λt ht=>?_⟩))⟩;have es:((l+1:Nat):Int)-1=(l:Int):=by lia
    have hP:FY (upd H6 t (.tup [.int (k5:Int),.int (((l+1:Nat):Int)-1)])) t (k5,l):=by
     unfold FY;rw[Ag,es];rfl
    have s6:Az H6 (upd H6 t (.tup [.int (k5:Int),.int (((l+1:Nat):Int)-1)])):=Al ht;refine⟨B++[t],by rw[C0];rfl,by rw[C6,lt];rfl,M.trans s6,?_⟩;rw[F9,ek,L6,C0];exact Z5 (Paired.imp (λt d z=>s6 _ _ z) u) hP
   .rintro q H6 ⟨B,rfl,lt,M,u⟩ A5 C;rw[B8,J7]at u;have s6:=(s5.trans M).trans (Al (o:=.lst (B.map V.ref)) C);exact k A5 B _ G4 _ _ ((Fr.j O).trans (ab.trans (Az.j s6))) (λx o e=>by
     obtain⟨o',e'⟩:=O.ex_ af e;obtain⟨o2,e2⟩:=ab.ex_ an e';exact Aj (M _ _ (s5 _ _ e2)) C) ((ak.same s6).mono A1) (c.trans R) Ag (Paired.imp (λt d z=>Al C _ _ z) u) fin
end
noncomputable def pk(d:Nat×Nat):List Key:=kOf [(d.1:Int),(d.2:Int)]
theorem Rz{d d':Nat×Nat}(h:pk d=pk d'):d=d':=by
 have:=MO h;injection this with h1 h2
 injection h2 with h2 _
 exact Prod.ext (K1 h1) (K1 h2)
section
variable{α:Type}(key:α->Nat×Nat)(val:α->V)
noncomputable def kvG(l:List α):List (List Key×V):=l.map λx=>(pk (key x),val x)
theorem Lj:∀{l:List α}{d:Nat×Nat},d∉l.map key->BP (kvG key val l) (pk d)=none
|[],_,_=>rfl
|x::l,d,h=>by
 rw[J1,D1,A0c]at h;show BP ((pk (key x),val x)::kvG key val l) (pk d)=none;rw[Bv λz=>h.1 (Rz z).symm,Lj h.2]
theorem QU:∀{l:List α}{x:α},(l.map key).Nodup->x∈l->BP (kvG key val l) (pk (key x))=some (val x)
|y::l,x,nd,h=>by
 rw[J1,N8]at nd;show BP ((pk (key y),val y)::kvG key val l) (pk (key x))=some (val x);rcases D1.mp h with rfl|h
 .rw[BS rfl]
 .rw[Bv λz=>nd.1 (D7.mpr ⟨x,h,(Rz z).symm⟩),QU nd.2 h]
theorem SQ{l:List α}{x:α}(h:key x∉l.map key):EI (kvG key val l) (pk (key x)) (val x)=kvG key val (l++[x]):=by
 rw[IE _ (Lj key val h)];unfold kvG;rw[C0];rfl
end
noncomputable def kvS(ks:List (Nat×Nat)):List (List Key×V):=kvG id (λ_=>.bl true) ks
noncomputable def insK(ks:List (Nat×Nat))(d:Nat×Nat):List (Nat×Nat):=if d∈ks then ks else ks++[d]
theorem PY(a:List (Nat×Nat)):(kvS a).length=a.length:=B8 _
theorem kvS_get(a:List (Nat×Nat))(d:Nat×Nat):(BP (kvS a) (pk d)).isSome=decide (d∈a):=by
 by_cases h:d∈a
 .have:∀(l:List (Nat×Nat)),d∈l->(BP (kvS l) (pk d)).isSome=true:=λl=>by
   induction l with
   |nil=>intro z;cases z
   |cons x l b =>
    intro z;show(BP ((pk x,V.bl true)::kvS l) (pk d)).isSome=true;by_cases e:x=d
    .rw[BS (by rw[e])];rfl
    .rw[Bv λy=>e (Rz y)];rcases D1.mp z with rfl|z
     .exact absurd Z e
     .exact b z
  rw[this a h,W1 h]
 .rw[show BP (kvS a) (pk d)=none from Lj id _ (by rw[List.map_id];exact h),W3 h];rfl
theorem SO(c:List (Nat×Nat))(d:Nat×Nat):EI (kvS c) (pk d) (.bl true)=kvS (insK c d):=by
 unfold insK;by_cases h:d∈c
 .rw[W9 h];unfold EI;have b:((kvS c).any λa=>decide (a.1=pk d))=true:=T1.mpr ⟨(pk d,.bl true),D7.mpr ⟨d,h,Z⟩,W1 Z⟩;rw[W9 b];have:∀a∈kvS c,(if a.1=pk d then(a.1,V.bl true)else a)=id a:=λa e=>by
   obtain⟨x,_,rfl⟩:=D7.mp e;split<;>rfl
  rw[List.map_congr_left this,List.map_id]
 .rw[W4 h];exact SQ id _ (by rw[List.map_id];exact h)
theorem QS{a:List (Nat×Nat)}{d x:Nat×Nat}:x∈insK a d↔x∈a\/x=d:=by
 unfold insK;split
 .rename_i h;exact⟨.inl,λz=>z.elim id λy=>y▸h⟩
 .rw[D3,C8]
theorem VL(a:List (Nat×Nat))(d:Nat×Nat):(insK a d).length<=a.length+1:=by
 unfold insK;split
 .exact U3 _
 .rw[C6];exact C9 _
theorem SM{c:List (Nat×Nat)}(h:c.Nodup)(d:Nat×Nat):(insK c d).Nodup:=by
 unfold insK;split
 .exact h
 .rename_i n;rw[N5];exact⟨h,by simp,λa e b f z=>n (by rw[<-C8.mp f,<-z];exact e)⟩
theorem len_new{a:List (Nat×Nat)}{d:Nat×Nat}(h:d∉a):(insK a d).length=a.length+1:=by
 unfold insK;rw[W4 h,C6];rfl
def DW(H:Hp)(t:R_)(q:T3):Prop:=H t=some (.tup [toV q.n,toV q.e,toV q.m])
structure ApS(g:GA)(m:MA)(S T:R_):Prop where
s1:S≠g.nm
s2:S≠m.kc
t1:T≠g.lv
t2:T≠g.pt
t3:T≠g.br
t4:T≠m.l
def FrS(g:GA)(m:MA)(S T:R_)(H H':Hp):Prop:=∀b o,H b=some o->b≠g.lv->b≠g.pt->b≠g.nm->b≠m.kc->b∉m.ds->b≠S->b≠T->H' b=some o
theorem FrJ.s{g:GA}{m:MA}{S T:R_}{H a:Hp}(f:FrJ g m H a):FrS g m S T H a:=λb o e c d h i j _ _=>f b o e c d h i j
theorem FrS.trans{g:GA}{m:MA}{S T:R_}{a c d:Hp}(h:FrS g m S T a c)(k:FrS g m S T c d):FrS g m S T a d:=λb o e f i j l n p q=>k _ _ (h _ _ e f i j l n p q) f i j l n p q
theorem FrS.upS{g:GA}{m:MA}{S T:R_}{H:Hp}{o:HO}:FrS g m S T H (upd H S o):=λb u e _ _ _ _ _ n _=>by rw[Ar n];exact e
theorem FrS.upT{g:GA}{m:MA}{S T:R_}{H:Hp}{o:HO}:FrS g m S T H (upd H T o):=λb u e _ _ _ _ _ _ n=>by rw[Ar n];exact e
theorem FrS.kp{a:Ad}{H h:Hp}{g:GA}{G:Gv}{N M:Nat}{p k mem w S T:R_}{r:AA}{m:MA}(f:FrS g m S T H h)(c:JW a H g G N M p k mem w r m){b:R_}{o:HO}(e:H b=some o)(s:Sv o)(u:b≠S)(v:b≠T):h b=some o:=by
 obtain⟨x,n,q⟩:=c.gr.pt;obtain⟨y,i,_⟩:=c.me.ce;have lt:x.length=G.length:=Y4 q;have t:=c.bs.long;refine f _ _ e (s.nl e c.gr.lv (by rw[B8];lia)) (s.nl e n (by rw[B8];lia)) (s.nt e c.gr.nm) (s.nt e i) (λz=>?_) u v;obtain⟨j,d⟩:=F6 z;obtain⟨A,l,_⟩:=c.me.sq j b d;exact s.nk e l Z
theorem FrJ.atS{H c:Hp}{g:GA}{G:Gv}{N M:Nat}{r:AA}{m:MA}{S T:R_}{k:List (List Key×V)}(f:FrJ g m H c)(n:EM H g G N M r m)(d:ApS g m S T){a:Ad}(i:AE a H g G)(e:H S=some (.dT k)):c S=some (.dT k):=by
 obtain⟨p,l,_⟩:=i.pt;refine f _ _ e (Aq e i.lv A2) (Aq e l A2) d.s1 d.s2 λz=>?_;obtain⟨j,b⟩:=F6 z;obtain⟨o,h,_⟩:=n.sq j S b;rw[e]at h;cases h
theorem FrJ.atT{H c:Hp}{g:GA}{G:Gv}{N M:Nat}{r:AA}{m:MA}{S T:R_}{xs:List V}(f:FrJ g m H c)(i:EM H g G N M r m)(d:ApS g m S T){a:Ad}(l:AE a H g G)(e:H T=some (.lst xs)):c T=some (.lst xs):=by
 obtain⟨o,k,_⟩:=i.ce;refine f _ _ e d.t1 d.t2 (Aq e l.nm A2) (Aq e k A2) λz=>?_;obtain⟨j,b⟩:=F6 z;obtain⟨n,h,_⟩:=i.sq j T b;rw[e]at h;cases h
theorem JW.putL{a:Ad}{H:Hp}{g:GA}{G:Gv}{N M:Nat}{p f mem k x:R_}{r:AA}{m:MA}{xs:List V}{o:HO}(h:JW a H g G N M p f mem k r m)(i:H x=some (.lst xs))(s:x≠g.lv)(t:x≠g.pt)(u:x≠g.br)(y:x≠m.l):JW a (upd H x o) g G N M p f mem k r m:=by
 have c:∀{b v},H b=some v->(∀l,v≠.lst l)->upd H x o b=some v:=λ{b v} e n=>by rw[Ar (Aq e i (n _))];exact e
 refine⟨h.gr.put i s t,h.ok,h.bs,by rw[Ar (W8 u)];exact h.br,h.nbr,c h.hp A6,h.ru.kp λb o e n=>c e λl z=>(by rw[z]at n;cases n),h.rok,h.rest,h.me.kp h.ok (AR.refl h.ok) λb o e w=>?_⟩;rcases w with z|z|z|z
 .have d:=h.me.tp;rw[<-z,e]at d;cases d;exact c e A6
 .rw[z]at e⊢;rw[Ar (W8 y)];exact e
 .obtain⟨j,q⟩:=F6 z;obtain⟨B,d,_⟩:=h.me.sq j b q;rw[e]at d;cases d;exact c e A6
 .obtain⟨A,d,_⟩:=h.me.ce;rw[z]at e⊢;rw[e]at d;cases d;exact c e A6
theorem JW.putT{a:Ad}{H:Hp}{g:GA}{G:Gv}{N M:Nat}{p f mem i x:R_}{r:AA}{m:MA}{xs:List (List Key×V)}{o:HO}(h:JW a H g G N M p f mem i r m)(y:H x=some (.dT xs))(A:x≠g.nm)(B:x≠m.kc):JW a (upd H x o) g G N M p f mem i r m:=by
 have c:∀{b v},H b=some v->(∀l,v≠.dT l)->upd H x o b=some v:=λ{b v} e n=>by rw[Ar (Aq e y (n _))];exact e
 obtain⟨C,k,s⟩:=h.gr.pt;refine⟨⟨c h.gr.hp A6,c h.gr.lv A6,⟨C,c k A6,PairedM.imp (λt q z=>c z A6) s⟩,by rw[Ar (W8 A)];exact h.gr.nm,h.gr.ne⟩,h.ok,h.bs,c h.br A6,h.nbr,c h.hp A6,h.ru.kp λb o e n=>c e λl z=>(by rw[z]at n;cases n),h.rok,h.rest,h.me.kp h.ok (AR.refl h.ok) λb o e w=>?_⟩;rcases w with z|z|z|z
 .have d:=h.me.tp;rw[<-z,e]at d;cases d;exact c e A6
 .have d:=h.me.l;rw[<-z,e]at d;cases d;exact c e A6
 .obtain⟨j,u⟩:=F6 z;obtain⟨D,d,_⟩:=h.me.sq j b u;rw[e]at d;cases d;exact c e A6
 .rw[z]at e⊢;rw[Ar (W8 B)];exact e
theorem JZ.putX{a:Ad}{H:Hp}{g:GA}{G:Gv}{Κ:KTy}{N b:Nat}{p k mem q x:R_}{r:AA}{m:MA}{o t:HO}(h:JZ a H g G Κ N b p k mem q r m)(y:H x=some o)(nk:∀n,o≠.dK n)(A:x≠m.kc)(l:JW a (upd H x t) g G N (b+10*N) p k mem q r m):JZ a (upd H x t) g G Κ N b p k mem q r m:=by
 obtain⟨f,c⟩:=h.cn;refine⟨l,f,c.kp (i:=0) h.jw.ok (AR.refl h.jw.ok) (λd w u e=>?_) λs e=>⟨s,by rw[Ar (W8 A)];exact e,C9 _⟩⟩;obtain⟨j,l⟩:=F6 w;obtain⟨n,v,_⟩:=c.sq j d l;rw[Ar (Aq v y (λz=>nk n z.symm))];exact e
section
variable{P:N_}{w:Q_}{K:O_}{mg:C_}{base:T_}{a:Ad}
structure GrR(a:Ad)(g:GA)(G:Gv)(Κ:KTy)(N b:Nat)(p dx mem pr:R_)(r:AA)(m:MA)(S T:R_)(ks:List (Nat×Nat))(ts:H_)(rows:List T3)(Dn:List (Nat×Nat))(H:Hp)(G':Gv)(H':Hp)(new:List T3)(ts':H_)(ks':List (Nat×Nat)):Prop where
fr:FrS g m S T H H'
z:JZ a H' g G' Κ N (b+14*ks'.length) p dx mem pr r m
go:∃i,AR G G' i
hS:H' S=some (.dT (kvS ks'))
hT:H' T=some (.lst ((ts++ts').map V.ref))
pr:Paired (DW H') ts' new
rsn:Rsn r G' rows new Dn
nw:∀q∈new,q.key∉ks
len:new.length+ks.length=ks'.length
nd:ks'.Nodup
ik:∀d∈ks',InK G' Κ d
theorem JA{α β:Type}{F:α->β->Prop}:∀{l m:List α}{b c:List β},Paired F l b->Paired F m c->Paired F (l++m) (b++c)
|[],_,_,_,.nil,k=>k
|_::_,_,_,_,.cons h t,k=>.cons h (JA t k)
theorem DW.frS{H b:Hp}{g:GA}{G:Gv}{N M:Nat}{p c mem k S T:R_}{r:AA}{m:MA}{j:List (List Key×V)}{xs:List V}(f:FrS g m S T H b)(i:JW a H g G N M p c mem k r m)(d:H S=some (.dT j))(e:H T=some (.lst xs)){t:R_}{ys:List V}(h:H t=some (.tup ys)):b t=some (.tup ys):=f.kp i h (.inl .tup) (Aq h d A2) (Aq h e A2)
section
variable{g:GA}{G G1 G2:Gv}{Κ:KTy}{N b:Nat}{p dx mem pr S T:R_}{r:AA}{m:MA}{ks ks1 ks2:List (Nat×Nat)}{ts ts1 ts2:H_}{rows new new2:List T3}{Dn Dn2:List (Nat×Nat)}{H H1 H2:Hp}
theorem GrR.then(R:GrR a g G Κ N b p dx mem pr r m S T ks ts rows Dn H G1 H1 new ts1 ks1)(c:∀d,d∈ks1↔d∈ks\/d∈new.map T3.key)(R2:GrR a g G1 Κ N b p dx mem pr r m S T ks1 (ts++ts1) (rows++new) Dn2 H1 G2 H2 new2 ts2 ks2):GrR a g G Κ N b p dx mem pr r m S T ks ts rows (Dn++Dn2) H G2 H2 (new++new2) (ts1++ts2) ks2:=by
 obtain⟨i,f⟩:=R.go;obtain⟨j,e⟩:=R2.go;refine⟨R.fr.trans R2.fr,R2.z,⟨_,f.trans e⟩,R2.hS,by rw[<-O2];exact R2.hT,JA (Paired.imp (λt q z=>DW.frS R2.fr R.z.jw R.hS R.hT z) R.pr) R2.pr,(R.rsn.goes R.z.jw.ok e).app R2.rsn λq h z=>R2.nw q h ((c _).mpr (.inr z)),λq h=>?_,?_,R2.nd,R2.ik⟩
 .rcases D3.mp h with z|z
  .exact R.nw q z
  .exact λy=>R2.nw q z ((c _).mpr (.inl y))
 .rw[C6];have:=R.len;have:=R2.len;lia
theorem GrR.more(R:GrR a g G Κ N b p dx mem pr r m S T ks ts rows Dn H G1 H1 new ts1 ks1)(c:∀d∈Dn,d∈Dn2):GrR a g G Κ N b p dx mem pr r m S T ks ts rows Dn2 H G1 H1 new ts1 ks1 :=
 ⟨R.fr,R.z,R.go,R.hS,R.hT,R.pr,R.rsn.more c,R.nw,R.len,R.nd,R.ik⟩
end
inductive SpGr(a:Ad)(L:Nat)(vs:List V)(H:Hp)(Q:VK):Prop
|mk (p dx mem pr:R_) (g:GA) (G:Gv) (Κ:KTy) (N b:Nat) (r:AA) (m:MA) (n l e:Nat) (S T:R_) (ks:List (Nat×Nat)) (ts:H_) (rows:List T3) (_:vs=[.ref p,.int n,.int e,.ref S,.ref T]) (_:JZ a H g G Κ N (b+14*ks.length) p dx mem pr r m) (_:GC Κ N) (_:ClK r Κ) (_:An G n ((l+2:Nat):Int)) (_:l<L) (_:e<=l) (_:Κ l e (AM G (l+2) n)) (_:ApS g m S T) (_:H S=some (.dT (kvS ks))) (_:H T=some (.lst (ts.map V.ref))) (_:Paired (DW H) ts rows) (_:(n,e)∉ks) (_:∀d∈ks,d∈rows.map T3.key\/∃l',An G d.1 ((l'+2:Nat):Int)/\l<=l') (_:∀q∈rows,q.key∈ks) (_:ks.Nodup) (_:∀d∈ks,InK G Κ d) (_:rows.length<=ks.length) (_:b+24*N+600<8000000)
  (_:∀(G':Gv)(H':Hp)(init:List T3)(mm:Nat)(ts':H_)(ks':List (Nat×Nat)),GrR a g G Κ N b p dx mem pr r m S T ks ts rows [(n,e)] H G' H' (init++[⟨n,e,mm⟩]) ts' ks'->(∀d,d∈ks'↔d∈ks\/d∈(init++[(⟨n,e,mm⟩:T3)]).map T3.key)->Q .non H'):SpGr a L vs H Q
def spGr(a:Ad)(L:Nat):Sp:=λvs H Q _=>SpGr a L vs H Q
theorem TZ(b mem d l c:R_):(jf5 b mem d l c).lookup ("rests_on" : Str)=none:=En _ _ _ _ _ A0 A0 A0 A0 A0
theorem Nw(b mem d l c:R_):(jf5 b mem d l c).lookup ("gather_reasons" : Str)=none:=En _ _ _ _ _ A0 A0 A0 A0 A0
theorem ok_gr{d dr dd L0:Nat}(F:Fun K "gather_reasons" "Jumps.gather_reasons" Cz f fd)(T:Top K mg a)(Me:Qn K a.c_Jumps "gather_reasons" f)(Bi:DB K fd BJ [])(I:dr<=dd)(be:d<=dd)(b6:BD P w K mg base CX0 d a.c_Jumps "rests_on" On (spRo a L0))(aC:BD P w K mg base CX0 dr a.c_Jumps "reckoned" On (EC a (L0+1))):∀L,L<=L0+1->AT P w K mg base CX0 (dd+1+L) f fd BJ (spGr a L)
|0,_=>(AT.no (k:=dd+1)).imp λvs H Q E h=>by
 apply AL;intro G_ c;obtain⟨p,dx,mem,pr,g,G,Κ,N,b,r,m,n,l,e,S,T,O,ts,rows,_,_,_,_,_,hL,_⟩:=h;apply c;clear c G_;exact absurd hL (Nat.not_lt_zero l)
|L+1,hL0=>by
 have aK:BD P w K mg base CX0 (dd+1+L) a.c_Jumps "gather_reasons" BJ (spGr a L):=⟨⟨f,fd,ok_gr F T Me Bi I be b6 aC L A1,Me,Bi⟩,T.cl_Jumps⟩
 refine F.ok (k:=dd+1+L) Dv (λvs H Q E h=>?_) (λb5 A br s H vs Q E hr h=>?_)
 .apply AL;intro G_ c;obtain⟨p,dx,mem,pr,g,G,Κ,N,b,r,m,n,l,e,S,T,O,ts,rows,rfl,_⟩:=h;apply c;clear c G_;rfl
 .apply AL;intro G_ c;obtain⟨p,dx,mem,pr,g,G,Κ,N,b,r,m,n,l,e,S,Tt,O,ts,rows,rfl,hz,fin,cl,hl,hL,av,ax,ap,hS,hT,bb,nk,a6,bt,nd,ik,b9,few,k⟩:=h;apply c;clear c G_;have hj:=hz.jw;have a4:l<47:=by
   obtain⟨q,eq,el⟩:=id hl;have:=(hj.ok.lev eq).2;lia
  have b8:=SR hj.ok fin nd ik;refine⟨_,(Ae (FT (DY hr) (pv 3) (CD (Aa (pv 1) (Aa (pv 2) Ab))) Df Z) (Ae (BQ Y5 Z (Bu (Aw (pv 0) b6 (rm hr) Ao (Aa (pv 1) (Aa (pv 2) Ab)))) (AN (i:=5) Dv.nd Z O_9) (Af (AS (Pr (LR (DY hr) (pv 5) (pv 3))) (Af (Ba (Aw (pv 0) aK (rm hr) Ao (Aa (Ah Ap (pv 5) Ac R_9) (Aa (Ah Ap (pv 5) Ac R_9) (Aa (pv 3) (Aa (pv 4) Ab))))))) AD))) (Af (Ba (Cf W5 W6 W7 Bd (pv 4) (BC (Aa (pv 1) (Aa (pv 2) (Aa (Aw (pv 0) aC (rm hr) Ao (Aa (pv 1) (Aa (pv 2) Ab))) Ab))) Ab)))))),?_⟩
  try dsimp only[cxK]
  refine AO ?_;intro b1 b3 k1 bg bz;refine xw3 Z Z Z ⟨S_2,λt ht=>⟨S,(xq1 Z ⟨LB.t (k:=pk (n,e)) (Al ht _ _ hS) Ag (by rw[PY];exact F3 (show O.length<=8000000 by lia) A3),?_⟩)⟩⟩;rw[SO];have s1:Az H (upd H t (.tup [.int (n:Int),.int (e:Int)])):=Al ht;show k1 _ (upd (upd H t (.tup [.int (n:Int),.int (e:Int)])) S (.dT (kvS (insK O (n,e)))));generalize upd H t (.tup [.int (n:Int),.int (e:Int)])=H1 at s1⊢;have al:=s1 _ _ hS;have as:=s1 _ _ hT;have z1:JZ a (upd H1 S (.dT (kvS (insK O (n,e))))) g G Κ N (b+14*O.length) p dx mem pr r m:=(hz.same s1).putX al A6 ap.s2 ((hj.same s1).putT al ap.s1 ap.s2);have ai:FrS g m S Tt H (upd H1 S (.dT (kvS (insK O (n,e))))):=(FrJ.s (Az.j s1)).trans FrS.upS;have ae:upd H1 S (.dT (kvS (insK O (n,e)))) S=some (.dT (kvS (insK O (n,e)))):=Ag;have af:upd H1 S (.dT (kvS (insK O (n,e)))) Tt=some (.lst (ts.map V.ref)):=by rw[Ar (Aq as al A2)];exact as
  have ay:Paired (DW (upd H1 S (.dT (kvS (insK O (n,e)))))) ts rows:=Paired.imp (λt q z=>DW.frS ai hj hS hT z) bb;have bp:(insK O (n,e)).length=O.length+1:=len_new nk;have a8:=SM nd (n,e);have Y:∀x,x∈insK O (n,e)↔x∈O\/x=(n,e):=λx=>QS;generalize insK O (n,e)=aa at z1 ai ae af ay bp a8 Y⊢;generalize upd H1 S (.dT (kvS aa))=H2 at z1 ai ae af ay⊢;have bj:∀d∈aa,InK G Κ d:=λd I=>by
   rcases(Y _).mp I with y|y
   .exact ik d y
   .rw[y];exact⟨l,hl,av,a4,ax⟩
  have j1:=z1.jw;clear s1 al as;refine bg ?_;refine AO ?_;intro b2 b4 k2 bh b0;refine xwn Z Z j1.hp (TZ _ _ _ _ _) Z (xq1 Z ⟨p,dx,mem,pr,g,G,Κ,N,_,r,m,n,l,e,Z,z1,fin,cl,hl,by lia,av,ax,by lia,λA9 t9 ds G3 H3 i3 aj ao z3 C a0 a9 ac=>?_⟩);have j3:=z3.jw;have an:Κ l e (AM G3 (l+2) n):=by rw[AQ j1.ok C hl];exact ax
  have z3:JZ a H3 g G3 Κ N (b+14*aa.length) p dx mem pr r m:=z3.mono A1;have ar:=aj.atS j1.me ap j1.gr ae;have au:=aj.atT j1.me ap j1.gr af;have nA:A9≠Tt:=W8 (ao _ _ af);have bq:A9≠S:=W8 (ao _ _ ae);have l9:t9.length=ds.length:=Y4 a9;have b7:=ac.len;have ba:Paired (DW H3) ts rows:=Paired.imp (λt q z=>DW.frS (aj.s (S:=S) (T:=Tt)) j1 ae af z) ay;refine⟨A9,Z,⟨_,SqL.of a0⟩,?_⟩;refine CZ (xs:=t9.map V.ref) (λi σ Hy=>∃(G5:Gv)(new:List T3)(B:H_)(M:List (Nat×Nat))(u5:Option V),σ=[some (.ref p),some (.int n),some (.int e),some (.ref S),some (.ref Tt),u5]/\GrR a g G3 Κ N b p dx mem pr r m S Tt aa ts rows (ds.take i) H3 G5 Hy new B M/\(∀d,d∈M↔d∈aa\/d∈new.map T3.key)/\∀d∈ds.take i,d∈(rows++new).map T3.key) ⟨G3,[],[],aa,none,Z,⟨λb o e _ _ _ _ _ _ _=>e,z3,⟨0,AR.refl j3.ok⟩,ar,by rw[P4];exact au,.nil,Rsn.nil _ _ _ _,λq hq=>(nomatch hq),M5 _,a8,λd I=>(bj d I).goes j1.ok C⟩,λd=>⟨.inl,λz=>z.elim id λy=>(nomatch y)⟩,λd I=>(nomatch I)⟩ (λi σ Hy _ z=>by obtain⟨_,_,_,_,_,_,R,_⟩:=z;exact SqL.of (R.fr.kp j3 a0 (.lst (by rw[B8];lia)) bq nA)) ?_ ?_
  .rintro i v σ Hy ev bw;apply AL;intro G_ c;obtain⟨G5,new,B,M,u5,rfl,R,u,U⟩:=bw;apply c;clear c G_;rw[C7]at ev;obtain⟨t5,et,rfl⟩:=D5.mp ev;obtain⟨W,ed,ag⟩:=Paired.get a9 et;have ag:Hy t5=some (.tup [toV W.1,toV W.2]):=DW.frS R.fr j3 ar au ag;have hi:i<ds.length:=(B9.mp ed).1;apply AL;intro G_ c;obtain⟨l',el,ab,bf⟩:=ac.lev (C.lev hl) (D6 ed);apply c;clear c G_;subst el;obtain⟨iR,D⟩:=R.go;have ab:=D.lev ab;have bx:Κ l' W.2 (AM G5 (l'+2) W.1):=by
    obtain⟨l2,w1,_,_,w4⟩:=(ac.kap cl fin (C.lev hl) a4 an (D6 ed)).goes j3.ok D;have:l2=l':=by
     have:=w1.one ab;lia
    subst this;exact w4
   have tk:ds.take (i+1)=ds.take i++[W]:=by rw[F9,ed,L6]
   have a5:=R.len;have aw:=R.z;have bn:=SR R.z.jw.ok fin R.nd R.ik;refine xw2 Z Z ⟨S,(xq1 Z ⟨FM.t (k:=pk W) R.hS ag,?_⟩)⟩;rw[kvS_get];by_cases am:W∈M
   .rw[W1 am];refine⟨false,Z,Bl ⟨G5,new,B,M,(xq1 Z ⟨R.more λd I=>by rw[tk];exact D3.mpr (.inl I),u,λd I=>?_⟩)⟩⟩;rw[tk]at I;rcases D3.mp I with z|z
    .exact U d z
    .rw[C8.mp z,C0];rcases(u _).mp am with y|y
     .rcases(Y _).mp y with y|y
      .rcases a6 _ y with y|⟨l2,y,bo⟩
       .exact D3.mpr (.inl y)
       .have:=ab.one ((C.trans D).lev y);lia
      .rw[y]at ab;have:=ab.one ((C.trans D).lev hl);lia
     .exact D3.mpr (.inr y)
   .rw[W3 am];refine⟨true,Z,CT ?_⟩;refine xwn Z Z R.z.jw.hp (Nw _ _ _ _ _) Z (xq4 Z Z (SqT.of ag) (Am (j:=0) Z) (xwi Z Z Z (SqT.of ag) (Am (j:=1) Z) (xw2 Z Z ?_)));refine⟨p,dx,mem,pr,g,G5,Κ,N,b,r,m,W.1,l',W.2,S,Tt,M,ts++B,rows++new,Z,R.z,fin,cl,ab,by lia,bf,bx,ap,R.hS,R.hT,JA (Paired.imp (λt q z=>DW.frS R.fr j3 ar au z) ba) R.pr,am,λd I=>?_,λq hq=>?_,R.nd,R.ik,by rw[C6];lia,few,λG6 H6 ah mm bu bm R6 a7=>?_⟩
    .rcases(u _).mp I with y|y
     .rcases(Y _).mp y with y|y
      .rcases a6 _ y with y|⟨l2,y,bo⟩
       .exact .inl (by rw[C0];exact D3.mpr (.inl y))
       .exact .inr ⟨l2,(C.trans D).lev y,by lia⟩
      .rw[y];exact .inr ⟨l'+1,(C.trans D).lev hl,by lia⟩
     .exact .inl (by rw[C0];exact D3.mpr (.inr y))
    .rcases D3.mp hq with y|y
     .exact(u _).mpr (.inl ((Y _).mpr (.inl (bt q y))))
     .exact(u _).mpr (.inr (D7.mpr ⟨q,y,Z⟩))
    .refine⟨G6,new++(ah++[⟨W.1,W.2,mm⟩]),B++bu,bm,(xq1 Z ⟨?_,λd=>?_,λd I=>?_⟩)⟩
     .rw[tk];exact R.then u R6
     .rw[a7,u,show(new++(ah++[(⟨W.1,W.2,mm⟩:T3)])).map T3.key=new.map T3.key++(ah++[(⟨W.1,W.2,mm⟩:T3)]).map T3.key from C0,D3,or_assoc]
     .rw[tk]at I;rw[<-O2,C0];rcases D3.mp I with z|z
      .exact D3.mpr (.inl (U d z))
      .rw[C8.mp z];exact D3.mpr (.inr (D7.mpr ⟨⟨W.1,W.2,mm⟩,D3.mpr (.inr (C8.mpr Z)),Z⟩))
  .rintro σ Hy bv;apply AL;intro G_ c;obtain⟨G5,new,B,M,u5,rfl,R,u,U⟩:=bv;apply c;clear c G_;rw[B8,l9,J7]at R U;have a5:=R.len;have bn:=SR R.z.jw.ok fin R.nd R.ik;obtain⟨iR,D⟩:=R.go;have aw:=R.z;have X:=aw.jw;refine bh ?_;refine xq1 Z ⟨.inl ⟨Z,_,SqL.of R.hT⟩,(xw3 Z Z Z (xq3 Z X.hp (IL _ _ _ _ _) (xw2 Z Z ⟨p,dx,mem,pr,g,G5,Κ,N,_,r,m,n,l,e,Z,aw,fin,cl,(C.trans D).lev hl,by lia,av,by rw[AQ j3.ok D (C.lev hl)];exact an,by lia,λmm G6 H6 i6 aq z6 ak bl _=>?_⟩)))⟩;have a1:=aq.atS X.me ap X.gr R.hS;have bd:=aq.atT X.me ap X.gr R.hT;have lT:(ts++B).length<sizeLine:=by
    have l1:ts.length=rows.length:=Y4 bb;have l2:B.length=new.length:=Y4 R.pr;rw[C6];exact F3 (show ts.length+B.length<=8000000 by lia) A3
   refine⟨(by show 3<=sizeLine;decide),λt7 bi=>?_⟩;generalize dG:upd H6 t7 _=H7;obtain⟨s7,a2⟩:=alc bi dG;have ad:=s7 _ _ bd;refine⟨Tt,(xq2 Z Z ⟨ad,by rw[B8];exact lT,?_⟩)⟩;have az:FrS g m S Tt Hy (upd H7 Tt (.lst ((ts++B).map V.ref++[.ref t7]))):=((aq.s).trans (FrJ.s (Az.j s7))).trans FrS.upT;have z8:JZ a (upd H7 Tt (.lst ((ts++B).map V.ref++[.ref t7]))) g G6 Κ N (b+14*M.length) p dx mem pr r m:=(z6.same s7).putX ad A6 (Aq ad ((z6.same s7).jw.me.ce.choose_spec.1) A2) ((z6.jw.same s7).putL ad ap.t1 ap.t2 ap.t3 ap.t4);have a3:(n,e)∈aa:=(Y _).mpr (.inr Z);have bc:DW (upd H7 Tt (.lst ((ts++B).map V.ref++[.ref t7]))) t7 ⟨n,e,mm⟩:=by
    unfold DW;rw[Ar (Aq a2 ad A2)];exact a2
   refine k G6 _ new mm (B++[t7]) M ⟨?_,z8,⟨_,(C.trans D).trans ak⟩,?_,?_,?_,?_,λq hq=>?_,?_,R.nd,λd I=>(R.ik d I).goes X.ok ak⟩ λd=>?_
   .exact((ai.trans aj.s).trans R.fr).trans az
   .rw[Ar (Aq (s7 _ _ a1) ad A2)];exact s7 _ _ a1
   .rw[Ag,<-O2,C0 (l₁:=ts++B)];rfl
   .exact Z5 (Paired.imp (λt q z=>DW.frS az X R.hS R.hT z) R.pr) bc
   .exact(R.rsn.goes X.ok ak).fin (ac.goes j3.ok (D.trans ak)) bl U λz=>by
     obtain⟨q,hq,ez⟩:=D7.mp z;exact R.nw q hq (by rw[ez];exact a3)
   .rcases D3.mp hq with z|z
    .exact λy=>R.nw q z ((Y _).mpr (.inl y))
    .rw[C8.mp z];exact nk
   .rw[C6];show new.length+1+_=_;lia
   .rw[u,Y,C0,D3];show(d∈O\/d=(n,e))\/d∈new.map T3.key↔d∈O\/d∈new.map T3.key\/d∈[(n,e)];rw[C8];exact⟨λz=>z.elim (λy=>y.elim .inl λx=>.inr (.inr x)) λy=>.inr (.inl y),λz=>z.elim (λy=>.inl (.inl y)) λy=>y.elim .inr λx=>.inl (.inr x)⟩
inductive SpRs(a:Ad)(L:Nat)(vs:List V)(H:Hp)(Q:VK):Prop
|mk (p dx mem pr:R_) (g:GA) (G:Gv) (Κ:KTy) (N b:Nat) (r:AA) (m:MA) (n l e:Nat) (_:vs=[.ref p,.int n,.int e]) (_:JZ a H g G Κ N b p dx mem pr r m) (_:GC Κ N) (_:ClK r Κ) (_:An G n ((l+2:Nat):Int)) (_:l<L) (_:e<=l) (_:Κ l e (AM G (l+2) n)) (_:b+24*N+600<8000000)
  (_:∀(T:R_)(ts:H_)(init:List T3)(mm:Nat)(G':Gv)(H':Hp)(i:Nat),FrJ g m H H'->(∀x o,H x=some o->x≠T)->JZ a H' g G' Κ N (b+14*N) p dx mem pr r m->AR G G' i->H' T=some (.lst (ts.map V.ref))->Paired (DW H') ts (init++[⟨n,e,mm⟩])->Rsn r G' [] (init++[⟨n,e,mm⟩]) [(n,e)]->init.length+1<=N->Q (.ref T) H'):SpRs a L vs H Q
def spRs(a:Ad)(L:Nat):Sp:=λvs H Q _=>SpRs a L vs H Q
theorem ok_rsn{d L:Nat}(F:Fun K "reasons" "Jumps.reasons" EG f fd)(T:Top K mg a)(d4:4<=d)(aL:BD P w K mg base CX0 4 a.c_Jumps "check_jump" On (spCj a))(aK:BD P w K mg base CX0 d a.c_Jumps "gather_reasons" BJ (spGr a L)):AT P w K mg base CX0 (d+1) f fd On (spRs a L):=by
 refine F.ok GE (λvs H Q E h=>?_) (λao A ac s H vs Q E hr h=>?_)
 .apply AL;intro C j;obtain⟨p,D,mem,y,g,G,Κ,N,b,r,m,n,l,e,rfl,_⟩:=h;apply j;clear j C;rfl
 .apply AL;intro C j;obtain⟨p,D,mem,y,g,G,Κ,N,b,r,m,n,l,e,rfl,hz,fin,cl,hl,hL,V,aa,few,k⟩:=h;have t:=hz.jw;apply j;clear j C;refine⟨_,(Ae (Ba (Aw (pv 0) aL (rm hr) Ao (Aa (pv 1) (Aa (pv 2) Ab)))) (Ae (Av (i:=3) GE.nd Z O_9 (Bq Ab)) (Ae (Ba (Aw (pv 0) aK (rm hr) Ao (Aa (pv 1) (Aa (pv 2) (Aa IF (Aa (pv 3) Ab)))))) (Af (Ax (pv 3)))))),?_⟩
  try dsimp only[cxK]
  obtain⟨q,eq,I⟩:=id hl;refine AO ?_;intro ai al k1 W ae;refine xwn Z Z t.hp (OA _ _ _ _ _) Z (xq1 Z ⟨p,D,mem,mem,y,m.l,m.kc,g,G,n,e,q,Z,t.hp,t.gr,eq,by rw[I];lia,?_⟩);refine W ?_;refine AO ?_;intro aj am k2 X af;refine⟨S_0,λv c=>?_⟩;refine X ?_;refine AO ?_;intro ak an k3 Y ag;generalize b9:upd H v _=H1;obtain⟨B,O⟩:=alc c b9;have j1:=t.same B;refine xwn Z Z j1.hp (Nw _ _ _ _ _) Z (xq1 Z (λS hS=>(xq1 Z ?_)));generalize cH:upd H1 S _=H2;obtain⟨s2,M⟩:=alc hS cH;have nS:H S=none:=Az.noneN B hS;have z2:=(hz.same B).same s2;have ap:ApS g m S v:=by
   obtain⟨kc,c1,_⟩:=t.me.ce;obtain⟨ts,h3,_⟩:=t.gr.pt;exact⟨W8 (Aj t.gr.nm nS),W8 (Aj c1 nS),W8 (Aj t.gr.lv c),W8 (Aj h3 c),W8 (Aj t.br c),W8 (Aj t.me.l c)⟩
  refine⟨p,D,mem,y,g,G,Κ,N,b,r,m,n,l,e,S,v,[],[],[],Z,z2,fin,cl,hl,hL,V,aa,ap,M,s2 _ _ O,.nil,(λz=>nomatch z),λd U=>(nomatch U),λq hq=>(nomatch hq),O6,λd U=>(nomatch U),C9 _,few,λG' H' u mm ad ab R ah=>?_⟩;refine Y ?_;obtain⟨i,go⟩:=R.go;have lk:=SR R.z.jw.ok fin R.nd R.ik;refine xq1 Z (k v ad u mm G' H' i (λb o e n1 n2 n3 n4 n5=>R.fr _ _ (s2 _ _ (B _ _ e)) n1 n2 n3 n4 n5 (Aj e nS) (Aj e c)) (λx o e=>Aj e c) (R.z.mono A1) go (by have:=R.hT;rw[T9]at this;exact this) R.pr R.rsn ?_);have:=R.len;rw[C6]at this;have:u.length+1+0=ab.length:=this;lia
theorem kit_tt(K:O_):kitOne K (.type "tuple") (.type "tuple")=some true:=by kernel_rfl
inductive SpTh(vs:List V)(H:Hp)(Q:VK):Prop
|mk (t:R_) (x y z:Nat) (_:vs=[.ref t]) (_:H t=some (.tup [toV x,toV y,toV z])) (_:Q (.bl true) H):SpTh vs H Q
def spTh:Sp:=λvs H Q _=>SpTh vs H Q
theorem ok_th(F:Fun K "_law_three" "_law_three" GR f fd)(T:Top K mg a):AT P w K mg base CX0 1 f fd Ib spTh:=by
 refine F.ok Jl (λvs H Q E h=>?_) (λD A l s H vs Q E I h=>?_)
 .apply AL;intro e b;obtain⟨t,x,y,z,rfl,_⟩:=h;apply b;clear b e;rfl
 .apply AL;intro e b;obtain⟨t,x,y,z,rfl,d,k⟩:=h;apply b;clear b e;refine⟨_,(Ae (AS (PW.pt (Ir (CB (Cv (AU Dk Z T.b_isinstance Y9 (Aa (pv 0) (Aa (Ev (v:=.ty "tuple") Z T.b_tuple Z8 Z) Ab))))) (Ft (AF Iu (AU BK Z T.b_len Z2 (Aa (pv 0) Ab)) Ac (AI _))))) (Af (Ax Df)) AD) (Ae (BQ Y5 Z (Jx (pv 0)) (AN (i:=1) Jl.nd Z O_9) (Af (AS (PW.pt (Ir (CB (Cv (AU Dk Z T.b_isinstance Y9 (Aa (pv 1) (Aa (Ev (v:=.ty "int") Z T.b_int Z6 Z) Ab))))) (Ft (Cv (AU Dk Z T.b_isinstance Y9 (Aa (pv 1) (Aa (Ev (v:=.ty "bool") Z T.b_bool A0d Z) Ab))))))) (Af (Ax Df)) AD))) (Af (Ax Df)))),?_⟩
  try dsimp only[cxK]
  refine AO ?_;intro p B L g m;refine xq1 Z ⟨_,_,_,.type "tuple",true,Z,Z,.of (.tup d),kit_tt K,true,Z,Bl ?_⟩;refine xq1 Z ⟨t,(xq1 Z ⟨.inr (SqT.of d),Z,(xq1 Z (Bl ?_))⟩)⟩;refine g ?_;refine AO ?_;intro r C M j o;refine xq1 Z ⟨t,Z,⟨_,SqT.of d⟩,?_⟩;refine Td (xs:=[toV x,toV y,toV z]) (λi σ c=>H=c/\∃u:Option V,σ=[some (.ref t),u]) ⟨Z,none,Z⟩ (λi σ c _ q=>q.1▸SqT.of d) ?_ ?_
  .rintro i v σ c G ⟨rfl,u,rfl⟩;obtain⟨n,rfl⟩:∃n:Int,v=.int n:=by
    have:=D6 G;simp only[D1,J9,Z7]at this;rcases this with rfl|rfl|rfl<;>exact⟨_,Z⟩
   refine xq1 Z ⟨_,_,_,.type "int",true,Z,Z,.of (.int n),(OF K).1,true,Z,Bl ?_⟩;exact xq1 Z ⟨_,_,_,.type "int",false,Z,Z,.of (.int n),(OF K).2,false,Z,Bl ⟨Z,_,Z⟩⟩
  .rintro σ c ⟨rfl,u,rfl⟩;refine j ?_;exact k
inductive SpFo(vs:List V)(H:Hp)(Q:VK):Prop
|mk (L:R_) (k0 k1 k2 k3 k4 k5 k6 k7 k8:Nat) (_:vs=[.ref L]) (_:H L=some (.lst ([k0,k1,k2,k3,k4,k5,k6,k7,k8].map toV))) (_:∀(A t0 t1 t2 t3:R_)(H':Hp),Az H H'->H' A=some (.lst [.ref t0,.ref t1,.ref t2,.ref t3])->H' t0=some (.tup [toV k0,toV k1,toV k3,toV k4])->H' t1=some (.tup [toV k1,toV k2,toV k4,toV k5])->H' t2=some (.tup [toV k3,toV k4,toV k6,toV k7])->H' t3=some (.tup [toV k4,toV k5,toV k7,toV k8])->Q (.ref A) H'):SpFo vs H Q
def spFo:Sp:=λvs H Q _=>SpFo vs H Q
theorem ok_fo(F:Fun K "_law_fours" "_law_fours" ES f fd)(T:Top K mg a):AT P w K mg base CX0 1 f fd Lh spFo:=by
 refine F.ok Ob (λvs H Q E h=>?_) (λai A ad s H vs Q E hr h=>?_)
 .apply AL;intro g b;obtain⟨L,C,j,D,l,e,m,G,n,I,rfl,_⟩:=h;apply b;clear b g;rfl
 .apply AL;intro g b;obtain⟨L,C,j,D,l,e,m,G,n,I,rfl,hL,k⟩:=h;apply b;clear b g;refine⟨_,(Af (Ax (BZ Z (Bn.of (So:=Ai ES) (No:=Lh) (N:=["_law_k","_law_nine"]) (k:=1) (cs:=[0]) Z Z A0) (Jx (CD (AJ (AJ (AJ (AJ Ab)))))) (λ_ _ _=>(AY (i:=0) A0 Z Z)) (λ_ _ _=>BB) (λ_ _ _=>(CD (Aa (Ah (IT (K:=K) Z) (pv 1) (pv 0) R_9) (Aa (Ah (IT (K:=K) Z) (pv 1) (AG Be (pv 0) Ac) R_9) (Aa (Ah (IT (K:=K) Z) (pv 1) (AG Be (pv 0) Ac) R_9) (Aa (Ah (IT (K:=K) Z) (pv 1) (AG Be (pv 0) Ac) R_9) Ab))))))))),?_⟩
  try dsimp only[cxK]
  refine⟨S_4,λtt ac=>⟨tt,Z,⟨_,SqT.of Ag⟩,?_⟩⟩;generalize b9:upd H tt _=H1;obtain⟨s1,ab⟩:=alc ac b9;have aa:=s1 _ _ hL;refine Lw (xs:=[.int 0,.int 1,.int 3,.int 4]) (λi o O=>∃M:List Addr,o=M.map V.ref/\M.length=i/\Az H1 O/\Paired (λt q=>O t=some (.tup (q.map toV))) M ([[C,j,l,e],[j,D,e,m],[l,e,G,n],[e,m,n,I]].take i)) ⟨[],Z,Z,Az.refl H1,.nil⟩ (λi o O _ z=>by obtain⟨_,_,_,S,_⟩:=z;exact SqT.of (S _ _ ab)) ?_ ?_
  .rintro i v o O r ah;apply AL;intro g b;obtain⟨M,rfl,lt,S,R⟩:=ah;apply b;clear b g;have B:=S _ _ aa;have ae:∃(c:Int)(x y z u:Nat),v=.int c/\[[C,j,l,e],[j,D,e,m],[l,e,G,n],[e,m,n,I]][i]?=some [x,y,z,u]/\atI ([C,j,D,l,e,m,G,n,I].map toV) c=some (toV x)/\atI ([C,j,D,l,e,m,G,n,I].map toV) (c+1)=some (toV y)/\atI ([C,j,D,l,e,m,G,n,I].map toV) (c+3)=some (toV z)/\atI ([C,j,D,l,e,m,G,n,I].map toV) (c+4)=some (toV u):=by
    match i,r with
    |0,r=>exact⟨0,C,j,l,e,by cases r;rfl,Z,Z,Z,Z,Z⟩
    |1,r=>exact⟨1,j,D,e,m,by cases r;rfl,Z,Z,Z,Z,Z⟩
    |2,r=>exact⟨3,l,e,G,n,by cases r;rfl,Z,Z,Z,Z,Z⟩
    |3,r=>exact⟨4,e,m,n,I,by cases r;rfl,Z,Z,Z,Z,Z⟩
   apply AL;intro g b;obtain⟨c,x,y,z,u,rfl,ei,e0,e1,e3,e4⟩:=ae;apply b;clear b g;refine⟨⟨[some (.int c)],Z,Z⟩,by rw[B8,lt];exact J6 (B9.mp ei).1 S_4,EQ (xwj Z Z Z Z (SqL.of B) e0 (xw2 Z Z (xq2 Z Z (xq4 Z Z (SqL.of B) e1 (xw2 Z Z (xq2 Z Z (xq4 Z Z (SqL.of B) e3 (xw2 Z Z (xq2 Z Z (xq4 Z Z (SqL.of B) e4 ⟨S_4,λt ht=>⟨M++[t],by rw[C0];rfl,by rw[C6,lt];rfl,S.trans (Al ht),?_⟩⟩))))))))))⟩;rw[F9,ei,L6];exact Z5 (Paired.imp (λt d z=>Al ht _ _ z) R) Ag
  .rintro o O ag A hA;apply AL;intro g b;obtain⟨M,rfl,lt,S,R⟩:=ag;apply b;clear b g;have af:∃U W X Y,M=[U,W,X,Y]:=by
    match M,lt with
    |[U,W,X,Y],_=>exact⟨U,W,X,Y,Z⟩
   apply AL;intro g b;obtain⟨U,W,X,Y,rfl⟩:=af;apply b;clear b g;have s5:Az O (upd O A (.lst ([U,W,X,Y].map V.ref))):=Al hA;cases R with
   |cons h0 p =>
    cases p with
    |cons h1 p =>
     cases p with
     |cons h2 p =>
      cases p with
      |cons h3 p=>exact k A U W X Y _ ((s1.trans S).trans s5) Ag (s5 _ _ h0) (s5 _ _ h1) (s5 _ _ h2) (s5 _ _ h3)
end
noncomputable def kvT(rows:List T3):List (List Key×V):=kvG T3.key (λq=>toV q.m) rows
def FrU(U:R_)(H H':Hp):Prop:=∀b o,H b=some o->b≠U->H' b=some o
section
variable{P:N_}{w:Q_}{K:O_}{mg:C_}{base:T_}{a:Ad}
inductive SpRe(vs:List V)(H:Hp)(Q:VK):Prop
|mk (D U W:R_) (rows:List T3) (us:List (Nat×Nat)) (tw:H_) (qs:List T3) (_:vs=[.ref D,.ref U,.ref W]) (_:H D=some (.dT (kvT rows))) (_:(rows.map T3.key).Nodup) (_:H U=some (.dT (kvS us))) (_:D≠U) (_:H W=some (.lst (tw.map V.ref))) (_:Paired (FY H) tw (qs.map T3.key)) (_:∀q∈qs,q∈rows) (_:qs.length<=20) (_:us.length+20<=8000000)
  (_:∀(F:R_)(us':List (Nat×Nat))(H':Hp),FrU U H H'->(∀x o,H x=some o->x≠F)->H' U=some (.dT (kvS us'))->H' F=some (.lst (qs.map λq=>toV q.m))->(∀d,d∈us'↔d∈us\/d∈qs.map T3.key)->(us.Nodup->us'.Nodup)->us'.length<=us.length+qs.length->Q (.ref F) H'):SpRe vs H Q
def spRe:Sp:=λvs H Q _=>SpRe vs H Q
theorem ok_re(F:Fun K "_law_rested" "_law_rested" Gb f fd)(T:Top K mg a):AT P w K mg base CX0 1 f fd Gn spRe:=by
 refine F.ok Fa (λvs H Q E h=>?_) (λaz A ai s H vs Q E hr h=>?_)
 .apply AL;intro M g;obtain⟨D,U,W,rows,us,tw,I,rfl,_⟩:=h;apply g;clear g M;rfl
 .apply AL;intro M g;obtain⟨D,U,W,rows,us,tw,I,rfl,hD,nd,hU,X,hW,Y,aj,a0,a1,k⟩:=h;apply g;clear g M;refine⟨_,(Ae (Av (i:=3) Fa.nd Z O_9 (Bq Ab)) (Ae (BQ Y5 Z (Bu (pv 2)) (AN (i:=4) Fa.nd Z O_9) (Ae (AS (Pr (LR (DY hr) (pv 4) (pv 0))) (Af (Ax (Bq Ab))) AD) (Ae (FT (DY hr) (pv 1) (pv 4) Df Z) (Af (Ba (Cf W5 W6 W7 Bd (pv 3) (Aa (Pw (DY hr) (pv 0) (pv 4) R_9) Ab))))))) (Af (Ax (pv 3))))),?_⟩
  try dsimp only[cxK]
  refine AO ?_;intro aq av k1 ac am;refine⟨S_0,λL hF=>?_⟩;generalize b9:upd H L _=H1;obtain⟨s1,ab⟩:=alc hF b9;refine ac ?_;refine AO ?_;intro ar aw k2 ad an;have lq:tw.length=I.length:=by rw[Y4 Y,B8]
  have nF:∀{x o},H x=some o->x≠L:=λ{x o} e=>Aj e hF;refine xq1 Z ⟨W,Z,⟨_,SqL.of (s1 _ _ hW)⟩,?_⟩;refine CZ (xs:=tw.map V.ref) (λi σ u=>∃(c:List (Nat×Nat))(u4:Option V),σ=[some (.ref D),some (.ref U),some (.ref W),some (.ref L),u4]/\(∀b o,H b=some o->b≠U->u b=some o)/\u U=some (.dT (kvS c))/\u L=some (.lst ((I.take i).map λq=>toV q.m))/\(∀d,d∈c↔d∈us\/d∈(I.take i).map T3.key)/\(us.Nodup->c.Nodup)/\c.length<=us.length+i) ⟨us,none,Z,λb o e _=>s1 _ _ e,s1 _ _ hU,ab,λd=>⟨.inl,λz=>z.elim id λy=>(nomatch y)⟩,id,C9 _⟩ (λi σ u _ z=>by obtain⟨_,_,_,kp,_⟩:=z;exact SqL.of (kp _ _ hW (Aq hW hU A2))) ?_ ?_
  .rintro i v σ u ev al;apply AL;intro M g;obtain⟨c,u4,rfl,kp,r,p,l,N,C⟩:=al;apply g;clear g M;rw[C7]at ev;obtain⟨t5,et,rfl⟩:=D5.mp ev;obtain⟨d5,ed,hk⟩:=Paired.get Y et;rw[C7]at ed;obtain⟨j,eq,rfl⟩:=D5.mp ed;have G:=kp _ _ hk (Aq hk hU A2);have O:=kp _ _ hD X;have hi:i<I.length:=(B9.mp eq).1;have val:BP (kvT rows) (pk j.key)=some (toV j.m):=QU T3.key _ nd (aj j (D6 eq));have tk:I.take (i+1)=I.take i++[j]:=by rw[F9,eq,L6]
   refine AO ?_;intro as ax k3 ae ao;refine xw2 Z Z ⟨D,(xq1 Z ⟨FM.t (k:=pk j.key) O G,?_⟩)⟩;rw[val];refine⟨false,Z,Bl ?_⟩;refine ae ?_;refine AO ?_;intro au ay k4 af ap;refine xw2 Z Z ⟨U,(xq1 Z ⟨LB.t (k:=pk j.key) r G (by rw[PY];exact F3 (show c.length<=8000000 by lia) A3),?_⟩)⟩;rw[SO];have li:=VL c j.key;have S:upd u U (.dT (kvS (insK c j.key))) U=some (.dT (kvS (insK c j.key))):=Ag;have B:∀b o,u b=some o->b≠U->upd u U (.dT (kvS (insK c j.key))) b=some o:=λb o e n=>by rw[Ar n];exact e
   show k4 _ (upd u U (.dT (kvS (insK c j.key))));generalize upd u U (.dT (kvS (insK c j.key)))=H6 at S B⊢;have R:=B _ _ p (Aq p r A2);have aa:=B _ _ O X;have ag:=B _ _ G (Aq G r A2);refine af ?_;refine xq1 Z ⟨.inl ⟨Z,_,SqL.of R⟩,(xw2 Z Z ⟨D,toV j.m,Z,val▸FM.t (k:=pk j.key) aa ag,L,(xq2 Z Z ⟨R,by rw[B8,M6];exact F3 (show min i I.length<=20 by lia) A3,?_⟩)⟩)⟩;have ah:L≠U:=Aq p r A2;refine⟨insK c j.key,(xq1 Z ⟨λb o e n=>?_,?_,?_,λd=>?_,λz=>SM (N z) _,by lia⟩)⟩
   .rw[Ar (nF e)];exact B _ _ (kp _ _ e n) n
   .rw[Ar (W8 ah)];exact S
   .rw[Ag,tk,C0];rfl
   .rw[QS,l,tk,C0,D3,or_assoc];show _↔_\/_\/d∈[j.key];rw[C8]
  .rintro σ u ak;apply AL;intro M g;obtain⟨c,u4,rfl,kp,r,p,l,N,C⟩:=ak;apply g;clear g M;rw[B8,lq]at C;rw[B8,lq,J7]at p l;refine ad ?_;exact xq1 Z (k L c u kp (λx o e=>nF e) r p l N C)
noncomputable def sxt(G:Gv)(n x y:Nat):Nat:=qO G (qO G n (x/2+2*(y/2))) (x%2+2*(y%2))
theorem UT{G:Gv}(ok:GOk G){n l:Nat}(h:An G n ((l+2:Nat):Int)):KN G (AM G (l+2) n) l 4 (sxt G n):=λx y f g=>by
 have c:Vw G (AM G (l+2) n) (l+2) n 0 0:=λu v _ _=>Z;have d:=c.q (i:=x/2) (j:=y/2) A1 A1;have e:=d.q (i:=x%2) (j:=y%2) A1 A1;have b:=Cu ok (l:=l+1) h (k:=x/2+2*(y/2)) A1;refine⟨Cu ok b A1,e.at' ?_ ?_⟩
 .rw[L7];have:x/2*2+x%2=x:=by lia
  calc 0+2^l*2*(x/2)+2^l*(x%2)=2^l*(x/2*2+x%2):=by rw[M5,U2,U7,V5 2 (x/2)]
   _=2^l*x:=by rw[this]
 .rw[L7];have:y/2*2+y%2=y:=by lia
  calc 0+2^l*2*(y/2)+2^l*(y%2)=2^l*(y/2*2+y%2):=by rw[M5,U2,U7,V5 2 (y/2)]
   _=2^l*y:=by rw[this]
theorem GOk.fourq{G:Gv}(ok:GOk G){n l:Nat}(h:An G n ((l+1:Nat):Int)):G[n]?=some ⟨[(qO G n 0:Int),(qO G n 1:Int),(qO G n 2:Int),(qO G n 3:Int)],((l+1:Nat):Int)⟩:=by
 apply AL;intro c b;obtain⟨x,y,z,w,e,_⟩:=ok.four h;obtain⟨a0,a1,a2,a3⟩:=Cw e;apply b;clear b c;rw[a0,a1,a2,a3];exact e
theorem sxt_row{G:Gv}{n i:Nat}(h:i<2):[toV (qO G (qO G n (2*i)) 0),toV (qO G (qO G n (2*i)) 1),toV (qO G (qO G n (2*i+1)) 0),toV (qO G (qO G n (2*i+1)) 1)]=Ef toV (λx=>sxt G n x (2*i)) 4/\[toV (qO G (qO G n (2*i)) 2),toV (qO G (qO G n (2*i)) 3),toV (qO G (qO G n (2*i+1)) 2),toV (qO G (qO G n (2*i+1)) 3)]=Ef toV (λx=>sxt G n x (2*i+1)) 4:=by
 match i,h with
 |0,_=>exact⟨Z,Z⟩
 |1,_=>exact⟨Z,Z⟩
theorem Vf{α:Type}{b:List α}{x y t:α}{k j:Nat}(l:b.length=k)(e:(b++[x]++[y])[j]?=some t):(j<k/\b[j]?=some t)\/(j=k/\t=x)\/(j=k+1/\t=y):=by
 rw[O2]at e;by_cases h:j<k
 .rw[J3 A1]at e;exact .inl ⟨h,e⟩
 .rw[F1 A1,l]at e;have:j-k<2:=(B9.mp e).1;have:j=k\/j=k+1:=by lia
  rcases this with rfl|rfl
  .rw[O8]at e;cases e;exact .inr (.inl ⟨Z,Z⟩)
  .rw[R3]at e;cases e;exact .inr (.inr ⟨Z,Z⟩)
inductive SpLi(a:Ad)(vs:List V)(H:Hp)(Q:VK):Prop
|mk (g:GA) (G:Gv) (n l:Nat) (_:vs=[.ref g.p,.int n]) (_:AE a H g G) (_:GOk G) (_:An G n ((l+2:Nat):Int)) (_:∀(L:R_)(H':Hp),Az H H'->GrAt toV H' L 4 4 (sxt G n)->Q (.ref L) H'):SpLi a vs H Q
def spLi(a:Ad):Sp:=λvs H Q _=>SpLi a vs H Q
theorem ok_li(F:Fun K "_law_lines" "_law_lines" GT f fd)(T:Top K mg a)(aA:BD P w K mg base CX0 4 a.c_Grove "quarters" IR (Ml a)):AT P w K mg base CX0 5 f fd ET (spLi a):=by
 refine F.ok CL (λvs H Q E h=>?_) (λbj A a1 s H vs Q E hr h=>?_)
 .apply AL;intro G_ c;obtain⟨g,G,n,l,rfl,_⟩:=h;apply c;clear c G_;rfl
 .apply AL;intro G_ c;obtain⟨g,G,n,l,rfl,hg,ok,hl,k⟩:=h;apply c;clear c G_;refine⟨_,(Ae (Av (i:=2) CL.nd Z O_9 (Bq Ab)) (Ae (BQ Y5 Z (Bu (Bq (BC (AJ (AJ Ab)) (BC (AJ (AJ Ab)) Ab)))) (EJ Z (AX (AN (i:=3) CL.nd Z O_9) (AX (AN (i:=4) CL.nd Z O_9) Dm))) (Ae (Av (i:=5) CL.nd Z O_9 (Aw (pv 0) aA (rm hr) Ao (Aa (Ah Ap (Aw (pv 0) aA (rm hr) Ao (Aa (pv 1) Ab)) (pv 3) R_9) Ab))) (Ae (Av (i:=6) CL.nd Z O_9 (Aw (pv 0) aA (rm hr) Ao (Aa (Ah Ap (Aw (pv 0) aA (rm hr) Ao (Aa (pv 1) Ab)) (pv 4) R_9) Ab))) (Ae (Ba (Cf W5 W6 W7 Bd (pv 2) (Gi (Aa (Ah Ap (pv 5) Ac R_9) (Aa (Ah Ap (pv 5) Ac R_9) (Aa (Ah Ap (pv 6) Ac R_9) (Aa (Ah Ap (pv 6) Ac R_9) Ab)))) Ab))) (Af (Ba (Cf W5 W6 W7 Bd (pv 2) (Gi (Aa (Ah Ap (pv 5) Ac R_9) (Aa (Ah Ap (pv 5) Ac R_9) (Aa (Ah Ap (pv 6) Ac R_9) (Aa (Ah Ap (pv 6) Ac R_9) Ab)))) Ab)))))))) (Af (Ax (pv 2))))),?_⟩
  try dsimp only[cxK]
  refine AO ?_;intro a9 be k1 au a4;refine⟨S_0,λLn ab=>?_⟩;generalize b9:upd H Ln _=H1;obtain⟨s1,aq⟩:=alc ab b9;refine au ?_;refine AO ?_;intro ba bf k2 av a5;refine⟨S_2,λt1 al=>?_⟩;refine⟨S_2,λt2 ae=>⟨S_2,λL0 D=>⟨L0,Z,⟨_,SqL.of Ag⟩,?_⟩⟩⟩;have s2:Az H1 (upd H1 t1 (.tup [.int 0,.int 1])):=Al al;have h1:upd H1 t1 (.tup [.int 0,.int 1]) t1=some (.tup [.int 0,.int 1]):=Ag;generalize upd H1 t1 (.tup [.int 0,.int 1])=H2 at s2 h1 ae D⊢;have s3:Az H2 (upd H2 t2 (.tup [.int 2,.int 3])):=Al ae;have h2:upd H2 t2 (.tup [.int 2,.int 3]) t2=some (.tup [.int 2,.int 3]):=Ag;generalize upd H2 t2 (.tup [.int 2,.int 3])=H3 at s3 h2 D⊢;generalize cP:upd H3 L0 _=H4;obtain⟨s4,ar⟩:=alc D cP;have I:=s3 _ _ (s2 _ _ aq);have a0:L0≠Ln:=W8 (Aj I D);have aj:=s4 _ _ (s3 _ _ h1);have ak:=s4 _ _ h2;have L:=s4 _ _ I;have ah:Az H H4:=((s1.trans s2).trans s3).trans s4;have bl:=hg.same ah;have an:∀{k:Nat},k<4->An G (qO G n k) ((l+1:Nat):Int):=λ{k} hk=>Cu ok (l:=l+1) hl hk;have en:=ok.fourq (l:=l+1) hl;clear s1 s2 s3 s4 h1 h2 I al ae D;refine CZ (xs:=[.ref t1,.ref t2]) (λi σ m=>∃(B:H_)(u3 u4 u5 u6:Option V),σ=[some (.ref g.p),some (.int n),some (.ref Ln),u3,u4,u5,u6]/\(∀b o,H4 b=some o->b≠Ln->m b=some o)/\m Ln=some (.lst (B.map V.ref))/\B.length=2*i/\∀(y:Nat) t,B[y]?=some t->t≠Ln/\m t=some (.lst (Ef toV (λx=>sxt G n x y) 4))) ⟨[],none,none,none,none,Z,λb o e _=>e,L,Z,λy t e=>(nomatch e)⟩ (λi σ m _ z=>by obtain⟨_,_,_,_,_,_,kp,_⟩:=z;exact SqL.of (kp _ _ ar a0)) ?_ ?_
  .rintro i v σ m ev a3;apply AL;intro G_ c;obtain⟨B,u3,u4,u5,u6,rfl,kp,r,lt,u⟩:=a3;apply c;clear c G_;have i2:i<2:=(B9.mp ev).1;obtain⟨tt,rfl,az⟩:∃tt,v=.ref tt/\m tt=some (.tup [.int ((2*i:Nat):Int),.int ((2*i+1:Nat):Int)]):=by
    match i,i2,ev with
    |0,_,ev=>cases ev;exact⟨t1,Z,kp _ _ aj (Aq aj L A2)⟩
    |1,_,ev=>cases ev;exact⟨t2,Z,kp _ _ ak (Aq ak L A2)⟩
   have d:AE a m g G:=by
    have nn:∀{b o},H b=some o->b≠Ln:=λ{b o} e=>Aj e ab;obtain⟨tg,g3,g4⟩:=hg.pt;have kk:∀{b o},H b=some o->m b=some o:=λ{b o} e=>kp _ _ (ah _ _ e) (nn e);exact⟨kk hg.hp,kk hg.lv,⟨tg,kk g3,PairedM.imp (λt q z=>kk z) g4⟩,kk hg.nm,hg.ne⟩
   have ai:∀{j:Nat},j<4->atI ([(qO G n 0:Int),(qO G n 1:Int),(qO G n 2:Int),(qO G n 3:Int)].map V.int) (j:Int)=some (toV (qO G n j)):=λ{j} hj=>by
    match j,hj with
    |0,_=>rfl
    |1,_=>rfl
    |2,_=>rfl
    |3,_=>rfl
   refine Lk az ?_;refine AO ?_;intro bb bg k3 aw a6;refine xq1 Z (xq3 Z d.hp (BL g) (xq1 Z (xq3 Z d.hp (BL g) (xq1 Z ⟨g,G,n,_,Z,d,en,by show((l+1+1:Nat):Int)≠0;lia,λtq af=>(xq1 Z (xq4 Z Z (SqT.of af) (ai A1) ⟨g,G,qO G n (2*i),_,Z,d,ok.fourq (an A1),by show((l+1:Nat):Int)≠0;lia,λta R=>?_⟩))⟩))));refine aw ?_;refine AO ?_;intro bc bh k4 ax a7;refine xq1 Z (xq3 Z d.hp (BL g) (xq1 Z (xq3 Z d.hp (BL g) (xq1 Z ⟨g,G,n,_,Z,d,en,by show((l+1+1:Nat):Int)≠0;lia,λtq af=>(xq1 Z (xq4 Z Z (SqT.of af) (ai A1) ⟨g,G,qO G n (2*i+1),_,Z,d,ok.fourq (an A1),by show((l+1:Nat):Int)≠0;lia,λtb S=>?_⟩))⟩))));refine ax ?_;refine AO ?_;intro bd bi k5 ay a8;refine xq1 Z ⟨.inl ⟨Z,_,SqL.of r⟩,(xwi Z Z Z (SqT.of R) (Am (j:=0) Z) (xwi Z Z Z (SqT.of R) (Am (j:=1) Z) (xwi Z Z Z (SqT.of S) (Am (j:=0) Z) (xwi Z Z Z (SqT.of S) (Am (j:=1) Z) ⟨S_4,λC ac=>?_⟩))))⟩;obtain⟨ao,ap⟩:=sxt_row (G:=G) (n:=n) i2;have M:∀{b o},m b=some o->upd m C (.lst [V.int (qO G (qO G n (2*i)) 0:Int),V.int (qO G (qO G n (2*i)) 1:Int),V.int (qO G (qO G n (2*i+1)) 0:Int),V.int (qO G (qO G n (2*i+1)) 1:Int)]) b=some o:=λ{b o} e=>Al ac _ _ e;have W:upd m C (.lst [V.int (qO G (qO G n (2*i)) 0:Int),V.int (qO G (qO G n (2*i)) 1:Int),V.int (qO G (qO G n (2*i+1)) 0:Int),V.int (qO G (qO G n (2*i+1)) 1:Int)]) C=some (.lst (Ef toV (λx=>sxt G n x (2*i)) 4)):=by rw[Ag];exact Y7 (λz=>some (HO.lst z)) ao
   show ∃_,_;generalize upd m C (.lst [V.int (qO G (qO G n (2*i)) 0:Int),V.int (qO G (qO G n (2*i)) 1:Int),V.int (qO G (qO G n (2*i+1)) 0:Int),V.int (qO G (qO G n (2*i+1)) 1:Int)])=H6 at M W⊢;have ag:C≠Ln:=λz=>by rw[z,r]at ac;cases ac
   refine⟨Ln,(xq2 Z Z ⟨M r,by rw[B8,lt];exact F3 (show 2*i<=4 by lia) A3,?_⟩)⟩;have N:∀{b o},H6 b=some o->b≠Ln->upd H6 Ln (.lst (B.map V.ref++[.ref C])) b=some o:=λ{b o} e nb=>by rw[Ar nb];exact e
   have O:upd H6 Ln (.lst (B.map V.ref++[.ref C])) Ln=some (.lst ((B++[C]).map V.ref)):=by rw[Ag,C0];rfl
   show k5 _ (upd H6 Ln (.lst (B.map V.ref++[.ref C])));generalize upd H6 Ln (.lst (B.map V.ref++[.ref C]))=H7 at N O⊢;have Y:=N (M R) (Aq R r A2);have aa:=N (M S) (Aq S r A2);have as:=N W ag;refine ay ?_;refine xq1 Z ⟨.inl ⟨Z,_,SqL.of O⟩,(xwi Z Z Z (SqT.of Y) (Am (j:=2) Z) (xwi Z Z Z (SqT.of Y) (Am (j:=3) Z) (xwi Z Z Z (SqT.of aa) (Am (j:=2) Z) (xwi Z Z Z (SqT.of aa) (Am (j:=3) Z) ⟨S_4,λR2 ad=>?_⟩))))⟩;have am:R2≠Ln:=λz=>by rw[z,O]at ad;cases ad
   have U:∀{b o},H7 b=some o->upd H7 R2 (.lst [V.int (qO G (qO G n (2*i)) 2:Int),V.int (qO G (qO G n (2*i)) 3:Int),V.int (qO G (qO G n (2*i+1)) 2:Int),V.int (qO G (qO G n (2*i+1)) 3:Int)]) b=some o:=λ{b o} e=>Al ad _ _ e;have X:upd H7 R2 (.lst [V.int (qO G (qO G n (2*i)) 2:Int),V.int (qO G (qO G n (2*i)) 3:Int),V.int (qO G (qO G n (2*i+1)) 2:Int),V.int (qO G (qO G n (2*i+1)) 3:Int)]) R2=some (.lst (Ef toV (λx=>sxt G n x (2*i+1)) 4)):=by rw[Ag];exact Y7 (λz=>some (HO.lst z)) ap
   refine⟨Ln,(xq2 Z Z ⟨U O,by rw[B8,C6,lt];exact F3 (show 2*i+1<=4 by lia) A3,?_⟩)⟩;show ∃_,_;generalize upd H7 R2 (.lst [V.int (qO G (qO G n (2*i)) 2:Int),V.int (qO G (qO G n (2*i)) 3:Int),V.int (qO G (qO G n (2*i+1)) 2:Int),V.int (qO G (qO G n (2*i+1)) 3:Int)])=H8 at U X⊢;have all:∀{b o},m b=some o->b≠Ln->upd H8 Ln (.lst ((B++[C]).map V.ref++[.ref R2])) b=some o:=λ{b o} e nb=>by rw[Ar nb];exact U (N (M e) nb)
   refine⟨B++[C]++[R2],_,_,_,_,Z,λb o e nb=>all (kp _ _ e nb) nb,by rw[Ag,C0 (l₁:=B++[C])];rfl,by rw[C6,C6,lt];rfl,λy t e=>?_⟩;rcases Vf lt e with ⟨_,e⟩|⟨rfl,rfl⟩|⟨rfl,rfl⟩
   .obtain⟨h1,h2⟩:=u y t e;exact⟨h1,all h2 h1⟩
   .exact⟨ag,by rw[Ar ag];exact U as⟩
   .exact⟨am,by rw[Ar am];exact X⟩
  .rintro σ m a2;apply AL;intro G_ c;obtain⟨B,u3,u4,u5,u6,rfl,kp,r,lt,u⟩:=a2;apply c;clear c G_;refine av ?_;refine xq1 Z (k Ln m (λb o e=>kp _ _ (ah _ _ e) (Aj e ab)) ⟨B,r,lt,λy t e=>(u y t e).2⟩)
end
theorem AR.le{G a:Gv}{n:Nat}(h:AR G a n):G.length<=a.length:=by
 obtain⟨r,e⟩:=h.pre;rw[e,C6];exact Q1 _ _
theorem cut2{α:Type}{v:α->V}{f:Nat->α}{W x:Nat}(h:x+2<=W):NQ (Ef v f W) (some (0+(x:Int))) (some (0+(x:Int)+2))=[v (f x),v (f (x+1))]:=by
 rw[T5,show(x:Int)+2=((x+2:Nat):Int) by lia,QD h];show [v (f (0+x)),v (f (1+x))]=_;rw[M5,Q3 1 x]
section
variable{P:N_}{w:Q_}{K:O_}{mg:C_}{base:T_}{a:Ad}
inductive SpPa(a:Ad)(vs:List V)(H:Hp)(Q:VK):Prop
|mk (g:GA) (G:Gv) (n l:Nat) (_:vs=[.ref g.p,.int n]) (_:AE a H g G) (_:GOk G) (_:56<=G.length) (_:An G n ((l+1+2:Nat):Int)) (_:G.length<7000000) (_:∀(L:R_)(ks:J_)(G':Gv)(H':Hp),Fr g H H'->(∀x o,H x=some o->x≠L)->AE a H' g G'->AR G G' 9->H' L=some (.lst (ks.map toV))->Jb G' n l ks->Q (.ref L) H'):SpPa a vs H Q
def spPa(a:Ad):Sp:=λvs H Q _=>SpPa a vs H Q
theorem ok_pa(F:Fun K "_law_parts" "_law_parts" GS f fd)(T:Top K mg a)(b7:Cal P w K mg base CX0 5 "_law_lines" ET (spLi a))(aB:BD P w K mg base CX0 4 a.c_Grove "joined" BX (Js a)):AT P w K mg base CX0 6 f fd ET (spPa a):=by
 refine F.ok CK (λvs H Q E h=>?_) (λbt A a9 s H vs Q E hr h=>?_)
 .apply AL;intro B m;obtain⟨g,G,n,l,rfl,_⟩:=h;apply m;clear m B;rfl
 .apply AL;intro B m;obtain⟨g,G,n,l,rfl,hg,ok,a7,hl,few,k⟩:=h;apply m;clear m B;refine⟨_,(Ae (Av (i:=2) CK.nd Z O_9 (AB b7 (rm hr) Z Ao (Aa (pv 0) (Aa (pv 1) Ab)))) (Ae (Av (i:=3) CK.nd Z O_9 (Bq Ab)) (Ae (BQ Y5 Z (Ce Z T.b_range (AJ Ab)) (AN (i:=4) CK.nd Z O_9) (Af (BQ Y5 Z (Ce Z T.b_range (AJ Ab)) (AN (i:=5) CK.nd Z O_9) (Ae (Av (i:=6) CK.nd Z O_9 (AG LS (GF Jd (Ah Au (pv 2) (pv 4) R_9) (DP (pv 5)) (DP (AG Be (pv 5) Ac))) (GF Jd (Ah Au (pv 2) (AG Be (pv 4) Ac) R_9) (DP (pv 5)) (DP (AG Be (pv 5) Ac))))) (Af (Ba (Cf W5 W6 W7 Bd (pv 3) (Aa (Aw (pv 0) aB (rm hr) Ao (Aa (Ah Au (pv 6) Ac R_9) (Aa (Ah Au (pv 6) Ac R_9) (Aa (Ah Au (pv 6) Ac R_9) (Aa (Ah Au (pv 6) Ac R_9) Ab))))) Ab)))))))) (Af (Ax (pv 3)))))),?_⟩
  try dsimp only[cxK]
  have bv:l<=45:=by
   obtain⟨q,e,el⟩:=id hl;have:=(ok.lev e).2;lia
  refine AO ?_;intro bj bo k1 az bf;refine xw2 Z Z ⟨g,G,n,l+1,Z,hg,ok,hl,λLN H1 N ⟨tl,ab,bx,ad⟩=>?_⟩;refine az ?_;have kn:=UT ok (l:=l+1) hl;refine AO ?_;intro bl bp k2 a2 bg;refine⟨S_0,λu v=>?_⟩;generalize cH:upd H1 u _=H2;obtain⟨U,au⟩:=alc v cH;have am:∀{x o},H x=some o->x≠u:=λ{x o} e=>Aj (N _ _ e) v;have a8:LN≠u:=Aj ab v;have an:u≠g.lv/\u≠g.pt:=by
   obtain⟨tg,g3,_⟩:=(hg.same N).pt;exact⟨W8 (Aj (hg.same N).lv v),W8 (Aj g3 v)⟩
  have ao:∀{y t:Nat},tl[y]?=some t->t≠u:=λ{y t} e=>Aj (ad y t e) v;have S:=(hg.same N).same U;have aj:=U _ _ ab;have aa:∀(y:Nat) t,tl[y]?=some t->H2 t=some (.lst (Ef toV (λx=>sxt G n x y) 4)):=λy t e=>U _ _ (ad y t e);have ba:=N.trans U;clear ab ad N U;refine a2 ?_;refine AO ?_;intro bm bq k3 a3 bh;refine⟨3,Z,by decide,by decide,?_⟩;let Inv (c:Nat) (r:J_) (O:Gv) (W:Hp):Prop:=(∀b o,H2 b=some o->b≠g.lv->b≠g.pt->b≠g.nm->b≠u->W b=some o)/\AE a W g O/\AR G O c/\W u=some (.lst (r.map toV))/\r.length=c/\∀(t y:Nat),r[t]?=some y->An O y ((l+2:Nat):Int)/\Vw O (AM G (l+1+2) n) (l+2) y (2^(l+1)*(t%3)) (2^(l+1)*(t/3));refine CM (n:=3) (λj σ W=>∃(O:Gv)(r:J_)(u4 u5 u6:Option V),σ=[some (.ref g.p),some (.int n),some (.ref LN),some (.ref u),u4,u5,u6]/\Inv (3*j) r O W) ⟨G,[],none,none,none,Z,λb o e _ _ _ _=>e,S,AR.refl ok,au,Z,λt y e=>(nomatch e)⟩ ?_ ?_
  .rintro j σ W hj ah;apply AL;intro B m;obtain⟨O,r,u4,u5,u6,rfl,ae⟩:=ah;apply m;clear m B;refine⟨3,Z,by decide,by decide,?_⟩;refine CM (n:=3) (λi σ H6=>∃(G6:Gv)(r:J_)(u5 u6:Option V),σ=[some (.ref g.p),some (.int n),some (.ref LN),some (.ref u),some (.int (0+(j:Int))),u5,u6]/\Inv (3*j+i) r G6 H6) ⟨O,r,_,_,Z,ae⟩ ?_ ?_
   .rintro i σ H6 hi ah;apply AL;intro B m;obtain⟨G6,r,u5,u6,rfl,kp,ay,d,aw,lk,all⟩:=ah;apply m;clear m B;obtain⟨t0,e0⟩:∃t,tl[j]?=some t:=⟨tl[j]'A1,F0 _⟩
    obtain⟨t1,e1⟩:∃t,tl[j+1]?=some t:=⟨tl[j+1]'A1,F0 _⟩
    have a0:atI (tl.map V.ref) (0+(j:Int))=some (.ref t0):=by rw[T5];exact Am (by rw[C7,e0];rfl)
    have a1:atI (tl.map V.ref) (0+(j:Int)+1)=some (.ref t1):=by rw[show 0+(j:Int)+1=((j+1:Nat):Int) by lia];exact Am (by rw[C7,e1];rfl)
    have C:∀{b:R_}{xs:List V},H2 b=some (.lst xs)->xs.length<=50->b≠u->H6 b=some (.lst xs):=λ{b xs} e lx nb=>by
     obtain⟨tg,g3,g4⟩:=S.pt;have bw:tg.length=G.length:=Y4 g4;exact kp _ _ e ((Sv.lst lx).nl e S.lv (by rw[B8];lia)) ((Sv.lst lx).nl e g3 (by rw[B8];lia)) ((Sv.lst lx).nt e S.nm) nb
    have X:=C aj (by rw[B8];lia) a8;have a5:=C (aa j t0 e0) (by rw[EA];decide) (ao e0);have a6:=C (aa (j+1) t1 e1) (by rw[EA];decide) (ao e1);refine AO ?_;intro bn br k4 a4 bi;refine xwj Z Z Z Z (SqL.of X) a0 (xw3 Z Z Z (xq2 Z Z (xq1 Z ⟨t0,(xq1 Z ⟨SqL.of a5,λC1 aq=>?_⟩)⟩)));rw[cut2 A1];generalize b9:upd H6 C1 _=H7;obtain⟨N,h1⟩:=alc aq b9;refine xw2 Z Z (xq2 Z Z (xq4 Z Z (SqL.of (N _ _ X)) a1 (xw3 Z Z Z (xq2 Z Z (xq1 Z ⟨t1,(xq1 Z ⟨SqL.of (N _ _ a6),λC2 ar=>?_⟩)⟩)))));rw[cut2 A1];generalize cH:upd H7 C2 _=H8;obtain⟨U,h2⟩:=alc ar cH;refine⟨C1,C2,(xq2 Z Z ⟨U _ _ h1,h2,S_4,λC3 as=>?_⟩)⟩;show k4 _ (upd H8 C3 (.lst ([toV (sxt G n i j),toV (sxt G n (i+1) j)]++[toV (sxt G n i (j+1)),toV (sxt G n (i+1) (j+1))])));generalize cD:upd H8 C3 _=H9;obtain⟨s3,h3⟩:=alc (o:=(.lst [toV (sxt G n i j),toV (sxt G n (i+1) j),toV (sxt G n i (j+1)),toV (sxt G n (i+1) (j+1))])) as cD;have af:=(N.trans U).trans s3;have ac:=ay.same af;have ak:=af _ _ aw;clear h1 h2 N U s3;refine a4 ?_;obtain⟨D,bb⟩:=kn i j A1 A1;obtain⟨L,bd⟩:=kn (i+1) j A1 A1;obtain⟨I,bc⟩:=kn i (j+1) A1 A1;obtain⟨M,be⟩:=kn (i+1) (j+1) A1 A1;have bu:=d.few;refine xq1 Z ⟨.inl ⟨Z,_,SqL.of ak⟩,(xwn Z Z ac.hp (Dx g) Z (xq4 Z Z (SqL.of h3) (Am (j:=0) Z) (xwi Z Z Z (SqL.of h3) (Am (j:=1) Z) (xwi Z Z Z (SqL.of h3) (Am (j:=2) Z) (xwi Z Z Z (SqL.of h3) (Am (j:=3) Z) ?_)))))⟩;refine⟨g,G6,_,_,_,_,((l+1:Nat):Int),Z,ac,d.ok,⟨d.lev D,d.lev L,d.lev I,d.lev M⟩,by lia,by lia,λy G7 ap fr al R e7=>?_⟩;have Y:ap u=some (.lst (r.map toV)):=fr.kps ac (D4 a7 d.le) _ _ ak (.lst (by rw[B8,lk];lia));refine⟨u,(xq2 Z Z ⟨Y,by rw[B8,lk];exact F3 (show 3*j+i<=9 by lia) A3,?_⟩)⟩;have vk:=GG d.ok R (d.lev D) (d.lev L) (d.lev I) (d.lev M) (bb.goes ok d D) ((bd.goes ok d L).at' (by rw[O9]) Z) ((bc.goes ok d I).at' Z (by rw[O9])) ((be.goes ok d M).at' (by rw[O9]) (by rw[O9])) e7;refine⟨G7,r++[y],_,_,Z,λb o e n1 n2 n3 n4=>?_,?_,(d.trans R).mono (C9 _),by rw[Ag,C0];rfl,by rw[C6,lk];rfl,λt z e=>?_⟩
    .rw[Ar n4];exact fr _ _ (af _ _ (kp _ _ e n1 n2 n3 n4)) n1 n2 n3
    .exact al.put Y an.1 an.2
    .by_cases ht:t<r.length
     .rw[J3 ht]at e;obtain⟨b1,b2⟩:=all t z e;exact⟨R.lev b1,b2.goes d.ok R b1⟩
     .have:t-r.length<1:=by
       rw[F1 A1]at e;exact(B9.mp e).1
      obtain rfl:t=3*j+i:=by lia
      rw[F1 A1,lk,O8]at e;cases e;refine⟨⟨_,e7,by show((l+1:Nat):Int)+1=((l+2:Nat):Int);lia⟩,vk.at' ?_ ?_⟩
      .rw[show(3*j+i)%3=i by lia]
      .rw[show(3*j+i)/3=j by lia]
   .rintro σ H6 ag;apply AL;intro B m;obtain⟨G6,r,u5,u6,rfl,ae⟩:=ag;apply m;clear m B;exact⟨G6,r,_,_,_,Z,ae⟩
  .rintro σ W ag;apply AL;intro B m;obtain⟨O,r,u4,u5,u6,rfl,kp,ax,ai,av,lk,all⟩:=ag;apply m;clear m B;refine a3 ?_;refine xq1 Z (k u r O W (λb o e n1 n2 n3=>kp _ _ (ba _ _ e) n1 n2 n3 (am e)) (λx o e=>am e) ax ai av ⟨lk,λi j hi hj=>?_⟩);have ht:i+3*j<r.length:=by rw[lk];lia
   refine⟨r[i+3*j],F0 ht,?_⟩;obtain⟨h1,h2⟩:=all _ _ (F0 ht);refine⟨h1,?_⟩;rw[AQ ok ai hl];refine h2.at' ?_ ?_
   .rw[M5,show(i+3*j)%3=i by lia]
   .rw[M5,show(i+3*j)/3=j by lia]
end
theorem cut3{α:Type}{v:α->V}{f:Nat->α}{W x:Nat}(h:x+3<=W):NQ (Ef v f W) (some (((x+1:Nat):Int)-1)) (some (((x+1:Nat):Int)+2))=[v (f x),v (f (x+1)),v (f (x+2))]:=by
 rw[show((x+1:Nat):Int)-1=(x:Int) by lia,show((x+1:Nat):Int)+2=((x+3:Nat):Int) by lia,QD h];show [v (f (0+x)),v (f (1+x)),v (f (2+x))]=_;rw[M5,Q3 1 x,Q3 2 x]
theorem sxt_cel{G:Gv}(ok:GOk G){n:Nat}(h:An G n ((0+2:Nat):Int)){x y:Nat}(c:x<4)(d:y<4):((sxt G n x y:Nat):Int)=AM G 2 n x y/\An G (sxt G n x y) 0:=by
 obtain⟨a,b⟩:=UT ok (l:=0) h x y c d;have:=b 0 0 A3 A3;rw[show 0+2^0*x=x by lia,show 0+2^0*y=y by lia]at this;exact⟨this,a⟩
theorem VQ{r:AA}{G:Gv}{n m:Nat}(h:JR r G 0 n m)(k:An G n ((0+2:Nat):Int)){X Y:Nat}(i:X<2)(j:Y<2):((qO G m (X+2*Y):Nat):Int)=Co r (AM G 2 n (X+1) (Y+1)) [AM G 2 n X Y,AM G 2 n (X+1) Y,AM G 2 n (X+2) Y,AM G 2 n X (Y+1),AM G 2 n (X+2) (Y+1),AM G 2 n X (Y+2),AM G 2 n (X+1) (Y+2),AM G 2 n (X+2) (Y+2)]/\An G m ((0+1:Nat):Int):=by
 apply AL;intro b a;obtain⟨l,d,_,f,g⟩:=h;apply a;clear a b;have:l=0:=by
  have:=d.one k;lia
 subst this;refine⟨?_,f⟩;have e:=g X Y i j;have c:AM G (0+1) m X Y=((qO G m (X+2*Y):Nat):Int):=by
  show((qO G m (X/2^0%2+2*(Y/2^0%2)):Nat):Int)=_;rw[show X/2^0%2=X by lia,show Y/2^0%2=Y by lia]
 rw[<-c,e];rfl
section
variable{P:N_}{w:Q_}{K:O_}{mg:C_}{base:T_}{a:Ad}
inductive SpBr(a:Ad)(vs:List V)(H:Hp)(Q:VK):Prop
|mk (g:GA) (G:Gv) (cq:R_) (rl:List LC4) (n m:Nat) (_:vs=[.ref g.p,.ref cq,.int n,.int m]) (_:AE a H g G) (_:GOk G) (_:An G n ((0+2:Nat):Int)) (_:EO H cq rl) (_:Lz rl) (_:JR (rl.map LC4.a) G 0 n m) (_:∀H',Az H H'->Q (.bl true) H'):SpBr a vs H Q
def spBr(a:Ad):Sp:=λvs H Q _=>SpBr a vs H Q
theorem ok_br(F:Fun K "_law_by_rule" "_law_by_rule" DK f fd)(T:Top K mg a)(b7:Cal P w K mg base CX0 5 "_law_lines" ET (spLi a))(aN:BD P w K mg base CX0 4 a.c_Grove "state_of" IR (Sl a))(aA:BD P w K mg base CX0 4 a.c_Grove "quarters" IR (Ml a))(aU:Cal P w K mg base CX0 2 "_law_becomes" DS Sx)(aY:Cal P w K mg base CX0 1 "_law_same" QO Pb):AT P w K mg base CX0 6 f fd FA (spBr a):=by
 refine F.ok Bb (λvs H Q E h=>?_) (λce A a9 s H vs Q E hr h=>?_)
 .apply AL;intro D c;obtain⟨g,G,cq,rl,n,m,rfl,_⟩:=h;apply c;clear c D;rfl
 .apply AL;intro D c;obtain⟨g,G,cq,rl,n,m,rfl,hg,ok,hl,hq,rok,jr,k⟩:=h;apply c;clear c D;refine⟨_,(Ae (Av (i:=4) Bb.nd Z O_9 (Bq Ab)) (Ae (BQ Y5 Z (Bu (AB b7 (rm hr) Z Ao (Aa (pv 0) (Aa (pv 2) Ab)))) (AN (i:=5) Bb.nd Z O_9) (Af (Ba (Cf W5 W6 W7 Bd (pv 4) (Aa (BZ Z (Bn.of (So:=Ai DK) (No:=IM) (N:=["_law_one","_law_grove"]) (k:=1) (cs:=[0]) Z Z A0) (Bu (pv 5)) (λ_ _ _=>(AY (i:=0) A0 Z Z)) (λ_ _ _=>BB) (λ_ _ _=>(Aw (pv 1) aN (rm hr) Ao (Aa (pv 0) Ab)))) Ab))))) (Ae (Av (i:=6) Bb.nd Z O_9 (Aw (pv 0) aA (rm hr) Ao (Aa (pv 3) Ab))) (Ae (BQ Y5 Z (Ce Z T.b_range (AJ Ab)) (AN (i:=7) Bb.nd Z O_9) (Ae (Av (i:=8) Bb.nd Z O_9 (AG Be Ac (AG AZ (pv 7) Ac))) (Ae (Av (i:=9) Bb.nd Z O_9 (AG Be Ac (AG Dp (pv 7) Ac))) (Ae (Av (i:=10) Bb.nd Z O_9 (Ah Au (pv 4) (pv 9) R_9)) (Ae (Av (i:=11) Bb.nd Z O_9 (AG LS (GF Jd (Ah Au (pv 4) (AG BU (pv 9) Ac) R_9) (DP (AG BU (pv 8) Ac)) (DP (AG Be (pv 8) Ac))) (Bq (Aa (Ah Au (pv 10) (AG BU (pv 8) Ac) R_9) (Aa (Ah Au (pv 10) (AG Be (pv 8) Ac) R_9) Ab))))) (Ae (Av (i:=11) Bb.nd Z O_9 (AG LS (pv 11) (GF Jd (Ah Au (pv 4) (AG Be (pv 9) Ac) R_9) (DP (AG BU (pv 8) Ac)) (DP (AG Be (pv 8) Ac))))) (Ae (Av (i:=12) Bb.nd Z O_9 (AB aU (rm hr) Z Ao (Aa (pv 1) (Aa (Ah Au (pv 10) (pv 8) R_9) (Aa (pv 11) Ab))))) (Af (AS (CB (Cv (AB aY (rm hr) Z Ao (Aa (Aw (pv 0) aN (rm hr) Ao (Aa (Ah Ap (pv 6) (pv 7) R_9) Ab)) (Aa (pv 12) Ab))))) (Af (Ax Df)) AD))))))))) (Af (Ax Df)))))),?_⟩
  try dsimp only[cxK]
  refine AO ?_;intro bp b3 k1 av bf;refine⟨S_0,λM ab=>?_⟩;generalize b9:upd H M _=H1;obtain⟨s1,af⟩:=alc ab b9;refine av ?_;refine AO ?_;intro bq b4 k2 aw bg;refine xw2 Z Z ⟨g,G,n,0,Z,hg.same s1,ok,hl,λLN H2 s2 ⟨tl,O,ak,ac⟩=>⟨LN,Z,⟨_,SqL.of O⟩,?_⟩⟩;have ad:=s1.trans s2;have aa:=s2 _ _ af;have al:LN≠M:=λz=>by
   rw[z,aa]at O;injection O with e
   injection e with e
   have:=Y7 List.length e;rw[B8,ak]at this;cases this
  have am:∀{y t:Nat},tl[y]?=some t->t≠M:=λ{y t} e z=>by
   have W:=ac y t e;rw[z,aa]at W;injection W with W
   injection W with W
   have:=Y7 List.length W;rw[EA]at this;cases this
  refine CZ (xs:=tl.map V.ref) (λi σ L=>∃(r:H_)(u5 u6 u7 u8 u9 u B C:Option V),σ=[some (.ref g.p),some (.ref cq),some (.int n),some (.int m),some (.ref M),u5,u6,u7,u8,u9,u,B,C]/\(∀b o,H2 b=some o->b≠M->L b=some o)/\L M=some (.lst (r.map V.ref))/\r.length=i/\∀(y:Nat) t,r[y]?=some t->t≠M/\L t=some (.lst (Ef V.int (λx=>AM G 2 n x y) 4))) ⟨[],_,_,_,_,_,_,_,_,Z,λb o e _=>e,aa,Z,λy t e=>(nomatch e)⟩ (λi σ L _ z=>by obtain⟨_,_,_,_,_,_,_,_,_,_,kp,_⟩:=z;exact SqL.of (kp _ _ O al)) ?_ ?_
  .rintro i v σ L ev be;apply AL;intro D c;obtain⟨r,u5,u6,u7,u8,u9,u,B,C,rfl,kp,I,lt,d⟩:=be;apply c;clear c D;rw[C7]at ev;obtain⟨t,et,rfl⟩:=D5.mp ev;have i4:i<4:=by have:=(B9.mp et).1;lia
   have aj:=kp _ _ (ac i t et) (am et);have ah:AE a L g G:=by
    obtain⟨tg,g3,g4⟩:=hg.pt;have kk:∀{b o},H b=some o->L b=some o:=λ{b o} e=>kp _ _ (ad _ _ e) (Aj e ab);exact⟨kk hg.hp,kk hg.lv,⟨tg,kk g3,PairedM.imp (λt q z=>kk z) g4⟩,kk hg.nm,hg.ne⟩
   refine xq1 Z ⟨.inl ⟨Z,_,SqL.of I⟩,(xq1 Z ⟨t,Z,⟨_,SqL.of aj⟩,?_⟩)⟩;refine Ck (xs:=Ef toV (λx=>sxt G n x i) 4) (λj U S=>L=S/\U=Ef V.int (λx=>AM G 2 n x i) j) ⟨Z,Z⟩ (λj U S _ z=>z.1▸SqL.of aj) ?_ ?_
   .rintro j v U S ev ⟨rfl,rfl⟩;have j4:j<4:=by have:=(B9.mp ev).1;rw[EA]at this;exact this
    rw[JS j4]at ev;cases ev;apply AL;intro D c;obtain⟨c1,q,c2,c3⟩:=sxt_cel ok hl j4 i4;apply c;clear c D;refine⟨⟨[some (toV (sxt G n j i))],Z,Z⟩,by rw[EA];exact N4 j4 A3,EQ (xwn Z Z ah.hp (JE g) Z ⟨g,G,sxt G n j i,q,Z,ah,c2,c3,Z,?_⟩)⟩;rw[TL,<-c1]
   .rintro U S ⟨rfl,rfl⟩ R hR;rw[EA];generalize cE:upd L R _=S;obtain⟨s5,h5⟩:=alc hR cE;have nR:R≠M:=λz=>by rw[z,I]at hR;cases hR
    refine⟨M,(xq2 Z Z ⟨s5 _ _ I,by rw[B8,lt];exact N4 i4 A3,?_⟩)⟩;have all:∀{b o},S b=some o->b≠M->upd S M (.lst (r.map V.ref++[.ref R])) b=some o:=λ{b o} e nb=>by rw[Ar nb];exact e
    refine⟨r++[R],_,_,_,_,_,_,_,_,Z,λb o e nb=>all (s5 _ _ (kp _ _ e nb)) nb,by rw[Ag,C0];rfl,by rw[C6,lt];rfl,λy t' e=>?_⟩;by_cases hy:y<r.length
    .rw[J3 hy]at e;obtain⟨b1,b2⟩:=d y t' e;exact⟨b1,all (s5 _ _ b2) b1⟩
    .have:y-r.length<1:=by
      rw[F1 A1]at e;exact(B9.mp e).1
     obtain rfl:y=i:=by lia
     rw[F1 A1,lt,O8]at e;cases e;exact⟨nR,all h5 nR⟩
  .rintro σ L ae;apply AL;intro D c;obtain⟨r,u5,u6,u7,u8,u9,u,B,C,rfl,kp,I,lt,d⟩:=ae;apply c;clear c D;rw[B8,ak]at lt;have sy:Az H L:=λb o e=>kp _ _ (ad _ _ e) (Aj e ab);have d:∀(y:Nat) t,r[y]?=some t->L t=some (.lst (Ef V.int (λx=>AM G 2 n x y) 4)):=λy t e=>(d y t e).2;have lm:An G m ((0+1:Nat):Int):=(VQ jr hl (X:=0) (Y:=0) A3 A3).2;clear kp ad O ac am al aa s2 af s1 ab;refine aw ?_;refine AO ?_;intro br b5 k3 ax bh;refine xq1 Z ⟨g.p,g.dx,_,Z,(hg.same sy).hp,BL g,_,Z,g,G,m,_,Z,hg.same sy,ok.fourq (l:=0) lm,by show((0+1:Nat):Int)≠0;decide,λtf a7=>?_⟩;refine ax ?_;refine AO ?_;intro bt b6 k4 ay bi;refine⟨4,Z,by decide,by decide,?_⟩;refine CM (n:=4) (λi σ Hz=>∃(u7 u8 u9 u B C:Option V),σ=[some (.ref g.p),some (.ref cq),some (.int n),some (.int m),some (.ref M),u5,some (.ref tf),u7,u8,u9,u,B,C]/\Az L Hz) ⟨_,_,_,_,_,_,Z,Az.refl L⟩ ?_ ?_
   .rintro i σ Hz hi bd;apply AL;intro D c;obtain⟨u7,u8,u9,u,B,C,rfl,sz⟩:=bd;apply c;clear c D;have bc:∃X Y:Nat,X<2/\Y<2/\i=X+2*Y:=⟨i%2,i/2,by lia,by lia,by lia⟩
    apply AL;intro D c;obtain⟨X,Y,hX,hY,ei⟩:=bc;apply c;clear c D;have ex:1+(0+(i:Int))%2=((X+1:Nat):Int):=by lia
    have ey:1+(0+(i:Int))/2=((Y+1:Nat):Int):=by lia
    obtain⟨ao,a8⟩:=VQ jr hl hX hY;obtain⟨t0,e0⟩:∃t,r[Y]?=some t:=⟨r[Y]'A1,F0 _⟩
    obtain⟨t1,e1⟩:∃t,r[Y+1]?=some t:=⟨r[Y+1]'A1,F0 _⟩
    obtain⟨t2,W⟩:∃t,r[Y+2]?=some t:=⟨r[Y+2]'A1,F0 _⟩
    have a0:atI (r.map V.ref) (((Y+1:Nat):Int)-1)=some (.ref t0):=by rw[show((Y+1:Nat):Int)-1=(Y:Int) by lia];exact Am (by rw[C7,e0];rfl)
    have a1:atI (r.map V.ref) ((Y+1:Nat):Int)=some (.ref t1):=Am (by rw[C7,e1];rfl);have a2:atI (r.map V.ref) (((Y+1:Nat):Int)+1)=some (.ref t2):=by rw[show((Y+1:Nat):Int)+1=((Y+2:Nat):Int) by lia];exact Am (by rw[C7,W];rfl)
    have b0:atI (Ef V.int (λx=>AM G 2 n x (Y+1)) 4) (((X+1:Nat):Int)-1)=some (.int (AM G 2 n X (Y+1))):=by rw[show((X+1:Nat):Int)-1=(X:Int) by lia];exact Pn A1
    have b1:atI (Ef V.int (λx=>AM G 2 n x (Y+1)) 4) ((X+1:Nat):Int)=some (.int (AM G 2 n (X+1) (Y+1))):=Pn A1;have b2:atI (Ef V.int (λx=>AM G 2 n x (Y+1)) 4) (((X+1:Nat):Int)+1)=some (.int (AM G 2 n (X+2) (Y+1))):=by rw[show((X+1:Nat):Int)+1=((X+2:Nat):Int) by lia];exact Pn A1
    refine AO ?_;intro bu b8 k5 az bj;refine xwb Z Z Z ⟨B7,(xq2 Z Z ?_)⟩;show k5 [some (.ref g.p),some (.ref cq),some (.int n),some (.int m),some (.ref M),u5,some (.ref tf),some (.int (0+(i:Int))),some (.int (1+(0+(i:Int))%2)),u9,u,B,C] Hz;rw[ex];refine az ?_;refine AO ?_;intro bv ca k6 a3 bl;refine xwb Z Z Z ⟨⟨by decide,by decide⟩,(xq2 Z Z ?_)⟩;show k6 [some (.ref g.p),some (.ref cq),some (.int n),some (.int m),some (.ref M),u5,some (.ref tf),some (.int (0+(i:Int))),some (.int ((X+1:Nat):Int)),some (.int (1+(0+(i:Int))/2)),u,B,C] Hz;rw[ey];refine a3 ?_;refine AO ?_;intro bw cb k7 a4 bm;refine xwj Z Z Z Z (SqL.of (sz _ _ I)) a1 ?_;refine a4 ?_;refine AO ?_;intro bx cc k8 a5 bn;refine xw2 Z Z (xq2 Z Z (xq4 Z Z (SqL.of (sz _ _ I)) a0 (xwb Z Z Z (xw2 Z Z (xq2 Z Z (xq1 Z ⟨t0,(xq1 Z ⟨SqL.of (sz _ _ (d _ _ e0)),λC1 ap=>?_⟩)⟩))))));rw[cut3 A1];generalize b9:upd Hz C1 _=H1;obtain⟨s1,h1⟩:=alc ap b9;have z1:=sz.trans s1;refine xw2 Z Z (xq2 Z Z (xq4 Z Z (SqL.of (z1 _ _ (d _ _ e1))) b0 (xw2 Z Z (xq2 Z Z (xq4 Z Z (SqL.of (z1 _ _ (d _ _ e1))) b2 ⟨S_2,λC2 aq=>?_⟩)))));generalize cH:upd H1 C2 _=H3;obtain⟨s2,h2⟩:=alc aq cH;refine⟨C1,C2,(xq2 Z Z ⟨s2 _ _ h1,h2,(by show 5<=sizeLine;decide),λC3 ar=>?_⟩)⟩;show k8 _ (upd H3 C3 (.lst ([.int (AM G 2 n X Y),.int (AM G 2 n (X+1) Y),.int (AM G 2 n (X+2) Y)]++[.int (AM G 2 n X (Y+1)),.int (AM G 2 n (X+2) (Y+1))])));generalize cD:upd H3 C3 _=H4;obtain⟨s3,h3⟩:=alc (o:=(.lst [.int (AM G 2 n X Y),.int (AM G 2 n (X+1) Y),.int (AM G 2 n (X+2) Y),.int (AM G 2 n X (Y+1)),.int (AM G 2 n (X+2) (Y+1))])) ar cD;have z4:=(z1.trans s2).trans s3;clear h1 h2 s1 s2 s3 z1;refine a5 ?_;refine AO ?_;intro bz cd k9 a6 bo;refine xw3 Z Z Z (xq2 Z Z (xq4 Z Z (SqL.of (z4 _ _ I)) a2 (xwb Z Z Z (xw2 Z Z (xq2 Z Z (xq1 Z ⟨t2,(xq1 Z ⟨SqL.of (z4 _ _ (d _ _ W)),λC4 as=>?_⟩)⟩))))));rw[cut3 A1];generalize cE:upd H4 C4 _=S;obtain⟨s5,h5⟩:=alc as cE;refine⟨C3,C4,(xq2 Z Z ⟨s5 _ _ h3,h5,(by show 8<=sizeLine;decide),λC5 au=>?_⟩)⟩;show k9 _ (upd S C5 (.lst ([.int (AM G 2 n X Y),.int (AM G 2 n (X+1) Y),.int (AM G 2 n (X+2) Y),.int (AM G 2 n X (Y+1)),.int (AM G 2 n (X+2) (Y+1))]++[.int (AM G 2 n X (Y+2)),.int (AM G 2 n (X+1) (Y+2)),.int (AM G 2 n (X+2) (Y+2))])));generalize cW:upd S C5 _=H6;obtain⟨s6,h6⟩:=alc (o:=(.lst ([AM G 2 n X Y,AM G 2 n (X+1) Y,AM G 2 n (X+2) Y,AM G 2 n X (Y+1),AM G 2 n (X+2) (Y+1),AM G 2 n X (Y+2),AM G 2 n (X+1) (Y+2),AM G 2 n (X+2) (Y+2)].map V.int))) au cW;have z6:=(z4.trans s5).trans s6;clear h3 h5 s5 s6 z4;refine a6 ?_;refine AO ?_;intro ba bb cf ai an;refine xw3 Z Z Z (xq4 Z Z (SqL.of (z6 _ _ (d _ _ e1))) b1 (xq1 Z ⟨cq,C5,rl,_,_,Z,hq.same (sy.trans z6),rok,h6,Z,λH7 s7=>?_⟩));have z7:=z6.trans s7;have ag:=hg.same (sy.trans z7);refine ai ?_;rw[<-ao,<-ei];have qi:atI ([(qO G m 0:Int),(qO G m 1:Int),(qO G m 2:Int),(qO G m 3:Int)].map V.int) (0+(i:Int))=some (.int (qO G m i:Int)):=by
     rw[T5]
     match i,hi with
     |0,_=>rfl
     |1,_=>rfl
     |2,_=>rfl
     |3,_=>rfl
    obtain⟨qq,f1,f2⟩:=Cu ok (l:=0) a8 hi;refine xq1 Z (xq3 Z ag.hp (JE g) (xq1 Z (xq1 Z (xq4 Z Z (SqT.of (z7 _ _ a7)) qi ⟨g,G,qO G m i,qq,Z,ag,f1,f2,_,Z,_,Z,true,Z,Bl ⟨_,_,_,_,_,_,Z,z7⟩⟩))))
   .rintro σ Hz ae;apply AL;intro D c;obtain⟨u7,u8,u9,u,B,C,rfl,sz⟩:=ae;apply c;clear c D;refine ay ?_;exact k Hz (sy.trans sz)
end
end J
namespace J
open PySem L2
theorem RM{r:AA}{G:Gv}(ok:GOk G){e n m l:Nat}(h:JR r G e n m)(f:An G n ((l+1+2:Nat):Int)):An G m ((l+1+1:Nat):Int)/\∀i j,i<2->j<2->An G (qO G m (i+2*j)) ((l+1:Nat):Int)/\Vw G (Bh r (2^e) (AM G (l+1+2) n)) (l+1) (qO G m (i+2*j)) (2^(l+1)+2^(l+1)*i) (2^(l+1)+2^(l+1)*j):=by
 obtain⟨a,_,v⟩:=h.view (l:=l+1) f (c:=AM G (l+1+2) n) (X:=0) (Y:=0) λx y _ _=>Z;refine⟨a,λi j b d=>⟨Cu ok a A1,?_⟩⟩;exact(v.q b d).at' (by rw[M5]) (by rw[M5])
theorem up_eq{r:AA}{G:Gv}(ok:GOk G){n m l f v i j:Nat}(h:JR r G (l+1) n m)(e:An G n ((l+1+2:Nat):Int))(c:i<2)(d:j<2)(k:An G f ((l+2:Nat):Int))(q:Vw G (Bh r (2^l) (AM G (l+1+2) n)) (l+2) f (2^l+2^(l+1)*i) (2^l+2^(l+1)*j))(g:JR r G l f v):v=qO G m (i+2*j):=by
 obtain⟨o,s⟩:=(RM ok h e).2 i j c d;obtain⟨p,_,a⟩:=g.view k q;have b:2^(l+1)=2^l+2^l:=by rw[L7];lia
 rw[<-MU,<-b]at a;exact Vw.one ok p o (a.at' A1 A1) s
theorem nine_q{G:Gv}(ok:GOk G){c:Nat->Nat->Int}{l i j y p q:Nat}(d:An G y ((l+1:Nat):Int))(e:Vw G c (l+1) y (2^(l+1)*i+2^l) (2^(l+1)*j+2^l))(a:p<2)(b:q<2):An G (qO G y (p+2*q)) (l:Int)/\Vw G c l (qO G y (p+2*q)) (2^(l+1)*i+2^l+2^l*p) (2^(l+1)*j+2^l+2^l*q):=⟨Cu ok d A1,e.q a b⟩
theorem lo_four{r:AA}{G:Gv}(ok:GOk G){e n m l:Nat}{ys:J_}(h:JR r G e n m)(L:An G n ((l+1+2:Nat):Int))(f:Nine G (Bh r (2^e) (AM G (l+1+2) n)) (l+1) (2^l) ys){i j:Nat}(I:i<2)(K:j<2):∃a b c d,ys[i+3*j]?=some a/\ys[i+1+3*j]?=some b/\ys[i+3*(j+1)]?=some c/\ys[i+1+3*(j+1)]?=some d/\(An G a ((l+1:Nat):Int)/\An G b ((l+1:Nat):Int)/\An G c ((l+1:Nat):Int)/\An G d ((l+1:Nat):Int))/\qO G a 3=qO G (qO G m (i+2*j)) 0/\qO G b 2=qO G (qO G m (i+2*j)) 1/\qO G c 1=qO G (qO G m (i+2*j)) 2/\qO G d 0=qO G (qO G m (i+2*j)) 3:=by
 obtain⟨P,W⟩:=(RM ok h L).2 i j I K;obtain⟨a,B,w,S⟩:=f i j A1 A1;obtain⟨b,C,x,T⟩:=f (i+1) j A1 A1;obtain⟨c,D,z,U⟩:=f i (j+1) A1 A1;obtain⟨d,E,A,V⟩:=f (i+1) (j+1) A1 A1;have o:2^(l+1)=2^l+2^l:=by rw[L7];lia
 have one:∀{y p q s t g k:Nat},An G y ((l+1:Nat):Int)->Vw G (Bh r (2^e) (AM G (l+1+2) n)) (l+1) y (2^(l+1)*g+2^l) (2^(l+1)*k+2^l)->p<2->q<2->s<2->t<2->g=i+s->k=j+t->p+s=1->q+t=1->qO G y (p+2*q)=qO G (qO G m (i+2*j)) (s+2*t):=λ{y p q s t g k} Q X M N u v F H Y eq=>by
  obtain⟨O,R⟩:=nine_q ok Q X M N;refine Vw.one ok O (Cu ok P A1) R ((W.q u v).at' ?_ ?_)
  .subst F;rw[o,U2,show p=1-s by lia]
   match s,u with
   |0,_=>lia
   |1,_=>lia
  .subst H;rw[o,U2,show q=1-t by lia]
   match t,v with
   |0,_=>lia
   |1,_=>lia
 exact⟨a,b,c,d,B,C,D,E,⟨w,x,z,A⟩,one (p:=1) (q:=1) (s:=0) (t:=0) w S A3 A3 A3 A3 Z Z Z Z,one (p:=0) (q:=1) (s:=1) (t:=0) x T A3 A3 A3 A3 Z Z Z Z,one (p:=1) (q:=0) (s:=0) (t:=1) z U A3 A3 A3 A3 Z Z Z Z,one (p:=0) (q:=0) (s:=1) (t:=1) A V A3 A3 A3 A3 Z Z Z Z⟩
theorem up_four{G o:Gv}(ok:GOk G){x:Nat}(u:AR G o x){c:Nat->Nat->Int}{l:Nat}{ys:J_}(n:Nine G c (l+1) (2^l) ys){i j a b p d f:Nat}{L:Int}(H:i<2)(I:j<2)(q:ys[i+3*j]?=some a)(r:ys[i+1+3*j]?=some b)(t:ys[i+3*(j+1)]?=some p)(s:ys[i+1+3*(j+1)]?=some d)(e:o[f]?=some ⟨[(a:Int),(b:Int),(p:Int),(d:Int)],L⟩):Vw o c (l+2) f (2^l+2^(l+1)*i) (2^l+2^(l+1)*j):=by
 obtain⟨E,g,v,A⟩:=n i j A1 A1;obtain⟨b',h,w,B⟩:=n (i+1) j A1 A1;obtain⟨F,k,y,C⟩:=n i (j+1) A1 A1;obtain⟨d',m,z,D⟩:=n (i+1) (j+1) A1 A1;rw[q]at g;rw[r]at h;rw[t]at k;rw[s]at m;cases g;cases h;cases k;cases m;exact GG ok u v w y z (A.at' A1 A1) (B.at' (by rw[O9];lia) A1) (C.at' A1 (by rw[O9];lia)) (D.at' (by rw[O9];lia) (by rw[O9];lia)) e
theorem Nk{rows:List T3}:∀{ws:List (Nat×Nat)},(∀d∈ws,d∈rows.map T3.key)->∃b:List T3,b.map T3.key=ws/\∀q∈b,q∈rows
|[],_=>⟨[],Z,λq c=>(nomatch c)⟩
|d::ws,h=>by
 obtain⟨q,c,e⟩:=D7.mp (h d (D8 ..));obtain⟨b,f,g⟩:=Nk (ws:=ws) λx a=>h x (D9 _ a);refine⟨q::b,by rw[J1,e,f],λx a=>?_⟩;rcases D1.mp a with rfl|a
 .exact c
 .exact g x a
theorem PZ{r:AA}{G:Gv}{e:Nat}:∀{b:J_}{a:List T3},a.map T3.key=b.map (λk=>(k,e))->(∀q∈a,JR r G q.e q.n q.m)->Paired (λk y=>JR r G e k y) b (a.map T3.m)
|[],[],_,_=>.nil
|[],_::_,h,_=>by cases h
|_::_,[],h,_=>by cases h
|k::b,q::a,h,j=>by
 rw[J1,J1]at h;injection h with h1 h2
 have c:=j q (D8 ..);have f:q.n=k:=Y7 Prod.fst h1;have d:q.e=e:=Y7 Prod.snd h1;rw[f,d]at c;exact .cons c (PZ h2 λx g=>j x (D9 _ g))
seal L2.PA L2.PE L2.PS L2.PSs L2.PT L2.PW
def FrD(g:GA)(U:R_)(H H':Hp):Prop:=∀b o,H b=some o->b≠g.lv->b≠g.pt->b≠g.nm->b≠U->H' b=some o
theorem Fr.d{g:GA}{U:R_}{H a:Hp}(f:Fr g H a):FrD g U H a:=λb o e c h i _=>f b o e c h i
theorem FrU.d{g:GA}{U:R_}{H a:Hp}(f:FrU U H a):FrD g U H a:=λb o e _ _ _ n=>f b o e n
theorem FrD.trans{g:GA}{U:R_}{a c d:Hp}(h:FrD g U a c)(k:FrD g U c d):FrD g U a d:=λb o e f i j l=>k _ _ (h _ _ e f i j l) f i j l
theorem FrU.gr{a:Ad}{g:GA}{G:Gv}{U:R_}{H h:Hp}{o:List (List Key×V)}(f:FrU U H h)(k:H U=some (.dT o))(n:U≠g.nm)(d:AE a H g G):AE a h g G:=by
 have c:∀{b v},H b=some v->(∀l,v≠.dT l)->h b=some v:=λ{b v} e m=>f _ _ e (Aq e k (m _));obtain⟨p,i,j⟩:=d.pt;exact⟨c d.hp A6,c d.lv A6,⟨p,c i A6,PairedM.imp (λt q z=>c z A6) j⟩,f _ _ d.nm (W8 n),d.ne⟩
theorem Dep.up_inv{r:AA}{G:Gv}{n l:Nat}{a:List (Nat×Nat)}(h:Dep r G n (l+1) a)(f:An G n ((l+1+2:Nat):Int)):∃d fs,Jb G n l d/\NX r G n l fs/\a=(d++fs).map λk=>(k,l):=by
 cases h with
 |lo b g c =>
  have:=b.one f;lia
 |up b c e=>exact⟨_,_,c,e,Z⟩
theorem SH{G a:Gv}{x n k:Nat}{q:Sq}(b:AR G a x)(e:G[n]?=some q):qO a n k=qO G n k:=by
 unfold qO;rw[b.get e,e]
theorem Tc{m f n g c h o l q:Nat}{H:Hp}{r s t u:R_}(w:H r=some (.tup [toV m,toV f,toV g,toV c]))(x:H s=some (.tup [toV f,toV n,toV c,toV h]))(y:H t=some (.tup [toV g,toV c,toV o,toV l]))(z:H u=some (.tup [toV c,toV h,toV l,toV q])){k:Nat}{v:V}(e:[V.ref r,V.ref s,V.ref t,V.ref u][k]?=some v):∃(i j a b p d:Nat)(tk:R_),i<2/\j<2/\k=i+2*j/\v=.ref tk/\H tk=some (.tup [toV a,toV b,toV p,toV d])/\[m,f,n,g,c,h,o,l,q][i+3*j]?=some a/\[m,f,n,g,c,h,o,l,q][i+1+3*j]?=some b/\[m,f,n,g,c,h,o,l,q][i+3*(j+1)]?=some p/\[m,f,n,g,c,h,o,l,q][i+1+3*(j+1)]?=some d:=by
 match k,e with
 |0,e=>cases e;exact⟨0,0,m,f,g,c,r,by decide,by decide,Z,Z,w,Z,Z,Z,Z⟩
 |1,e=>cases e;exact⟨1,0,f,n,c,h,s,by decide,by decide,Z,Z,x,Z,Z,Z,Z⟩
 |2,e=>cases e;exact⟨0,1,g,c,o,l,t,by decide,by decide,Z,Z,y,Z,Z,Z,Z⟩
 |3,e=>cases e;exact⟨1,1,c,h,l,q,u,by decide,by decide,Z,Z,z,Z,Z,Z,Z⟩
section
variable{P:N_}{w:Q_}{K:O_}{mg:C_}{base:T_}{a:Ad}
inductive SpRr(a:Ad)(vs:List V)(H:Hp)(Q:VK):Prop
|mk (g:GA) (G:Gv) (cq D U t:R_) (rl:List LC4) (rows:List T3) (us:List (Nat×Nat)) (n e m:Nat) (ds:List (Nat×Nat)) (_:vs=[.ref g.p,.ref cq,.ref D,.ref U,.ref t]) (_:AE a H g G) (_:GOk G) (_:56<=G.length) (_:G.length<6900000) (_:EO H cq rl) (_:Lz rl) (_:H D=some (.dT (kvT rows))) (_:(rows.map T3.key).Nodup) (_:H U=some (.dT (kvS us))) (_:D≠U) (_:D≠g.nm) (_:U≠g.nm) (_:H t=some (.tup [toV n,toV e,toV m])) (_:JR (rl.map LC4.a) G e n m) (_:Dep (rl.map LC4.a) G n e ds) (_:∀d∈ds,d∈rows.map T3.key) (_:∀q∈rows,JR (rl.map LC4.a) G q.e q.n q.m) (_:us.length+60<=8000000)
  (_:∀(us':List (Nat×Nat))(G':Gv)(H':Hp),FrD g U H H'->AE a H' g G'->AR G G' 20->H' U=some (.dT (kvS us'))->(∀d,d∈us'↔d∈us\/d∈ds)->(us.Nodup->us'.Nodup)->us'.length<=us.length+20->Q (.bl true) H'):SpRr a vs H Q
def spRr(a:Ad):Sp:=λvs H Q _=>SpRr a vs H Q
theorem ok_rr2(F:Fun K "_law_row_right" "_law_row_right" Cs f fd)(T:Top K mg a)(aD:BD P w K mg base CX0 3 a.c_Grove "level_of" IR (Ox a))(bN:Cal P w K mg base CX0 6 "_law_by_rule" FA (spBr a))(aA:BD P w K mg base CX0 4 a.c_Grove "quarters" IR (Ml a))(bY:Cal P w K mg base CX0 6 "_law_parts" ET (spPa a))(bG:Cal P w K mg base CX0 1 "_law_rested" Gn spRe)(bH:Cal P w K mg base CX0 1 "_law_fours" Lh spFo)(aB:BD P w K mg base CX0 4 a.c_Grove "joined" BX (Js a)):AT P w K mg base CX0 7 f fd Ei (spRr a):=by
 refine F.ok AH (λvs H Q E h=>?_) (λge A e8 s H vs Q E hr h=>?_)
 .apply AL;intro I u;obtain⟨g,G,cq,D,U,t,rl,rows,us,n,e,m,ds,rfl,_⟩:=h;apply u;clear u I;rfl
 .apply AL;intro I u;obtain⟨g,G,cq,D,U,t,rl,rows,us,n,e,m,ds,rfl,hg,ok,c6,few,hq,rok,hD,nd,hU,b5,dc,a8,ht,jr,ck,dh,ej,gk,k⟩:=h;apply u;clear u I;refine⟨_,(Ae (Nm (pv 4) (EJ Z (AX (AN (i:=5) AH.nd Z O_9) (AX (AN (i:=6) AH.nd Z (Or.inr Z)) (AX (AN (i:=7) AH.nd Z O_9) Dm))))) (Ae (Av (i:=8) AH.nd Z O_9 (Aw (pv 0) aD (rm hr) Ao (Aa (pv 5) Ab))) (Ae (AS (PW.pt (Ir (AF Lb (pv 8) Ac (AI _)) (Ir (CB (JU Ld Ld Ac (pv 6) (AG BU (pv 8) Ac))) (Ft (AF Iu (Aw (pv 0) aD (rm hr) Ao (Aa (pv 7) Ab)) (AG BU (pv 8) Ac) (AI _)))))) (Af (Ax Df)) AD) (Ae (AS (AF Ci (pv 8) Ac (AI _)) (Af (Ax (AB bN (rm hr) Z Ao (Aa (pv 0) (Aa (pv 1) (Aa (pv 5) (Aa (pv 7) Ab))))))) AD) (Ae (Av (i:=9) AH.nd Z O_9 (Aw (pv 0) aA (rm hr) Ao (Aa (pv 7) Ab))) (Ae (Av (i:=10) AH.nd Z (Or.inr Z) (Bp OP Z T.b_int Z6 (Aa (Do Ci (pv 6) (AG BU (pv 8) Ac) (AI _)) Ab))) (Ae (CW (i:=11) Z AH.nd Z Z (Bn.of (So:=Ai Cs) (No:=El) (N:=["_law_part","_law_e","_law_twice"]) (k:=1) (cs:=[6,10]) Z Z A0) (Bu (AB bY (rm hr) Z Ao (Aa (pv 0) (Aa (pv 5) Ab)))) (λ_ _ _=>(AY (i:=0) A0 Z Z)) (λ_ _ _=>BB) (λ_ _ _=>(CD (Aa (pv 0) (BI BU (pv 1) (pv 2) Ab))))) (Ae (Av (i:=12) AH.nd Z O_9 (AB bG (rm hr) Z Ao (Aa (pv 2) (Aa (pv 3) (Aa (pv 11) Ab))))) (Ae (AS (AF Iu (AU BK Z T.b_len Z2 (Aa (pv 12) Ab)) Ac (AI _)) (Af (Ax Df)) AD) (Ae (AS (AF Ci (pv 10) Ac (AI _)) (Ae (Av (i:=11) AH.nd Z O_9 (Bq Ab)) (Ae (BQ Y5 Z (Bu (AB bH (rm hr) Z Ao (Aa (pv 12) Ab))) (EJ Z (AX (AN (i:=13) AH.nd Z O_9) (AX (AN (i:=14) AH.nd Z O_9) (AX (AN (i:=15) AH.nd Z O_9) (AX (AN (i:=16) AH.nd Z O_9) Dm))))) (Af (Ba (Cf W5 W6 W7 Bd (pv 11) (BC (Aa (Aw (pv 0) aB (rm hr) Ao (Aa (pv 13) (Aa (pv 14) (Aa (pv 15) (Aa (pv 16) Ab))))) (BI BU (pv 6) Ac Ab)) Ab))))) (Af (Ax (Do (RB hr.units) (AB bG (rm hr) Z Ao (Aa (pv 2) (Aa (pv 3) (Aa (pv 11) Ab)))) (Bp Ik Z T.b_list K4 (Aa (pv 9) Ab)) (AI _)))))) AD) (Ae (BQ Y5 Z (Ps false Z T.b_enumerate (Aa (AB bH (rm hr) Z Ao (Aa (pv 12) Ab)) Ab)) (EJ Z (AX (AN (i:=17) AH.nd Z O_9) (AX (AN (i:=18) AH.nd Z (Or.inr Z)) Dm))) (Ae (CW (i:=19) Z AH.nd Z Z (Bn.of (So:=Ai Cs) (No:=El) (N:=["_law_j","_law_grove","_law_some"]) (k:=1) (cs:=[0,18]) Z Z A0) (Ce Z T.b_range (AJ Ab)) (λ_ _ _=>(AY (i:=0) A0 Z Z)) (λ_ _ _=>BB) (λ_ _ _=>(Ah (SV (K:=K) Z) (Aw (pv 1) aA (rm hr) Ao (Aa (Ah (SV (K:=K) Z) (pv 2) (pv 0) R_9) Ab)) (AG BU Ac (pv 0)) R_9))) (Af (AS (AF (Nq hr.units) (Bp Ik Z T.b_list K4 (Aa (Aw (pv 0) aA (rm hr) Ao (Aa (Ah Ap (pv 9) (pv 17) R_9) Ab)) Ab)) (pv 19) (AI _)) (Af (Ax Df)) AD)))) (Af (Ax Df))))))))))))),?_⟩
  try dsimp only[cxK]
  apply AL;intro I u;obtain⟨l,ad,bw,ar,_⟩:=id jr;obtain⟨qn,en,a3⟩:=id ad;obtain⟨qm,em,a2⟩:=id ar;apply u;clear u I;refine AO ?_;intro ft f5 k1 d4 fh;refine xq1 Z ⟨t,(xq1 Z ⟨SqT.of ht,Z,_,_,Z,_,_,Z,(xq2 Z Z ?_)⟩)⟩;show k1 [some (.ref g.p),some (.ref cq),some (.ref D),some (.ref U),some (.ref t),some (toV n),some (toV e),some (toV m),none,none,none,none,none,none,none,none,none,none,none,none] H;refine d4 ?_;refine AO ?_;intro fu f6 k2 d5 fi;refine xwn Z Z hg.hp (FD g) Z ⟨g,G,n,qn,Z,hg,en,?_⟩;rw[a3];refine d5 ?_;refine AO ?_;intro fv f7 k3 d6 fj;refine xwb Z Z Z (xq1 Z ?_);rw[W3 (show ¬((l+2:Nat):Int)<2 by lia)];refine Bl ?_;refine xq1 Z ⟨0,(e:Int),Z,Z,true,Y7 V.bl (W1 (show(0:Int)<=(e:Int) by lia)),CT (xwb Z Z Z (xq2 Z Z ⟨true,Y7 V.bl (W1 (show(e:Int)<=((l+2:Nat):Int)-2 by lia)),Bl ?_⟩))⟩;refine xwn Z Z hg.hp (FD g) Z ⟨g,G,m,qm,Z,hg,em,?_⟩;rw[a2];refine xwb Z Z Z ⟨Z,false,?_,Bl ?_⟩
  .exact Y7 (λb=>V.bl (!b)) (W1 (Y7 V.int (show((l+1:Nat):Int)=((l+2:Nat):Int)-1 by lia)))
  show k3 [some (.ref g.p),some (.ref cq),some (.ref D),some (.ref U),some (.ref t),some (toV n),some (toV e),some (toV m),some (.int ((l+2:Nat):Int)),none,none,none,none,none,none,none,none,none,none,none] H;refine d6 ?_;refine seqc (λk4 d7=>?_);refine xq1 Z ⟨Z,(xq1 Z ?_)⟩
  match l,ad,bw,ar,a3,a2 with
  |0,ad,bw,ar,a3,a2 =>
   have e0:e=0:=by lia
   subst e0;refine CT (xw3 Z Z Z (xq1 Z ⟨g,G,cq,rl,n,m,Z,hg,ok,ad,hq,rok,jr,λH' s'=>?_⟩));have ed:ds=[]:=Dep.one ok ck (.z ad);subst ed;exact k us G H' (λb o e _ _ _ _=>s' _ _ e) (hg.same s') ((AR.refl ok).mono A3) (s' _ _ hU) (λd=>⟨.inl,λz=>z.elim id λy=>(nomatch y)⟩) id (Q1 _ _)
  |l+1,ad,bw,ar,a3,a2 =>
   rw[W3 (by intro z;injection z with z;lia)];refine Bl ?_;show k4 _ _;subst d7;refine AO ?_;intro fw f8 k5 d8 fk;refine xq1 Z (xq3 Z hg.hp (BL g) (xq1 Z ⟨g,G,m,_,Z,hg,ok.fourq (l:=l+1) ar,by show((l+1+1:Nat):Int)≠0;lia,λtf bz=>?_⟩));refine d8 ?_;refine AO ?_;intro fx f9 k6 d9 fl;refine xw2 Z Z (xq2 Z Z ⟨Z,.inr (xq1 Z ?_)⟩);have fe:∃tw M:Nat,(if decide (V.int (e:Int)=V.int (((l+1+2:Nat):Int)-2))=true then(1:Int)else 0)=(tw:Int)/\(e:Int)-(tw:Int)=(M:Int)/\((tw=0/\e<=l/\M=e)\/(tw=1/\e=l+1/\M=l)):=by
    by_cases he:e<=l
    .exact⟨0,e,by rw[W3 (by intro z;injection z with z;lia)];rfl,by lia,.inl ⟨Z,he,Z⟩⟩
    .exact⟨1,l,by rw[W1 (by rw[show(e:Int)=((l+1+2:Nat):Int)-2 by lia])];rfl,by lia,.inr ⟨Z,by lia,Z⟩⟩
   apply AL;intro I u;obtain⟨tw,M,cm,dr,ao⟩:=fe;apply u;clear u I;show k6 [some (.ref g.p),some (.ref cq),some (.ref D),some (.ref U),some (.ref t),some (toV n),some (toV e),some (toV m),some (.int ((l+1+2:Nat):Int)),some (.ref tf),some (.int (if decide (V.int (e:Int)=V.int (((l+1+2:Nat):Int)-2))=true then(1:Int)else 0)),none,none,none,none,none,none,none,none,none] H;rw[cm];refine d9 ?_;clear cm;refine AO ?_;intro fy ga k7 ec fm;refine xw2 Z Z ⟨g,G,n,l,Z,hg,ok,c6,ad,by lia,λLP ks L H1 bq e7 cw B bt np=>⟨LP,Z,⟨_,SqL.of bt⟩,?_⟩⟩;have er:ks.length=9:=np.1;refine Ck (xs:=ks.map toV) (λi aa H5=>∃ts:List Addr,aa=ts.map V.ref/\ts.length=i/\Az H1 H5/\Paired (FY H5) ts ((ks.take i).map λk=>(k,M))) ⟨[],Z,Z,Az.refl H1,.nil⟩ (λi aa H5 _ z=>by obtain⟨_,_,_,sm,_⟩:=z;exact SqL.of (sm _ _ bt)) ?_ ?_
   .rintro i v aa H5 ev cj;apply AL;intro I u;obtain⟨ts,rfl,lt,sm,S⟩:=cj;apply u;clear u I;rw[C7]at ev;obtain⟨k5,ek,rfl⟩:=D5.mp ev;have i9:i<9:=by have:=(B9.mp ek).1;lia
    refine⟨⟨[some (toV k5)],Z,Z⟩,by rw[B8,lt];exact N4 i9 A3,EQ (xw3 Z Z Z (xq2 Z Z ⟨S_2,λt' ai=>?_⟩))⟩;have hP:FY (upd H5 t' (.tup [toV k5,.int ((e:Int)-(tw:Int))])) t' (k5,M):=by
     unfold FY;rw[Ag,dr];rfl
    have s6:Az H5 (upd H5 t' (.tup [toV k5,.int ((e:Int)-(tw:Int))])):=Al ai;refine⟨ts++[t'],by rw[C0];rfl,by rw[C6,lt];rfl,sm.trans s6,?_⟩;rw[F9,ek,L6,C0];exact Z5 (Paired.imp (λt d z=>s6 _ _ z) S) hP
   .rintro aa H5 az WL cv;apply AL;intro I u;obtain⟨di,rfl,lt,sm,S⟩:=az;apply u;clear u I;rw[B8,J7]at S;show k7 _ (upd H5 WL (.lst (di.map V.ref)));generalize cW:upd H5 WL _=H6;obtain⟨s6,cu⟩:=alc cv cW;have ba:=sm.trans s6;have df:=Paired.imp (λt d (z:FY H5 t d)=>(s6 _ _ z:FY H6 t d)) S;obtain⟨tg,g3,_⟩:=hg.pt;have av:∀{b o},H b=some o->(∀l,o≠.lst l)->b≠g.nm->H6 b=some o:=λ{b o} e n1 n2=>ba _ _ (bq _ _ e (Aq e hg.lv (n1 _)) (Aq e g3 (n1 _)) n2);have br:=av hD A6 dc;have a7:=av hU A6 a8;have as:=av bz A6 (Aq bz hg.nm A2);have bc:Fr g H H6:=bq.trans (Az.fr ba);have cz:=cw.same ba;have b4:=jr.goes ok B;have ag:=ck.goes ok B;have O:=B.lev ad;have bj:∀q∈rows,JR (rl.map LC4.a) L q.e q.n q.m:=λq hq=>(ej q hq).goes ok B;have c7:=D4 c6 B.le;have gg:=B.few;clear S sm s6 ba bq e7 cw bt cv hD hU bz;refine ec ?_;have dk:∀d∈ks.map (λk=>(k,M)),d∈ds:=by
     rcases ao with ⟨_,he,rfl⟩|⟨_,rfl,rfl⟩
     .rw[Dep.one B.ok ag (.lo O he np)];exact λd hd=>hd
     .apply AL;intro I u;obtain⟨eo,fs,hk,hf,rfl⟩:=ag.up_inv O;apply u;clear u I;rw[GI.one B.ok A3 np hk,C0];exact λd hd=>D3.mpr (.inl hd)
    obtain⟨qs,a5,c1⟩:=Nk λd hd=>dh d (dk d hd);have c9:qs.length=9:=by
     have:=Y7 List.length a5;rw[B8,B8,er]at this;exact this
    refine AO ?_;intro fz gb k8 ee fn;refine xw3 Z Z Z ⟨D,U,WL,rows,us,di,qs,Z,br,nd,a7,b5,cu,by rw[a5];exact df,c1,by lia,by lia,λFn dj H7 ab gl cr al aw de c8=>?_⟩;have ah:=ab.gr a7 a8 cz;have dx:=ab _ _ br b5;have au:=ab _ _ as (Aq as a7 A2);have bd:FrD g U H H7:=bc.d.trans ab.d;have jq:=PZ a5 λq hq=>bj q (c1 q hq);have nn:=LT (r:=rl.map LC4.a) (c:=AM L (l+1+2) n) (e:=M) B.ok (AR.refl B.ok) (λi j hi hj=>by
     apply AL;intro I u;obtain⟨y,e1,e2,e3⟩:=np.2 i j hi hj;apply u;clear u I;exact⟨y,e1,e2,e3.at' (M5 _) (M5 _)⟩) jq
    have ly:(qs.map T3.m).length=9:=by rw[B8,c9]
    have eF:(qs.map λq=>toV q.m)=(qs.map T3.m).map toV:=by rw[N9];rfl
    rw[eF]at al;rw[a5]at aw;rw[c9]at c8;clear eF df cu a7 br as cz bc ab lt;generalize qs.map T3.m=ys at al ly nn jq;refine ee ?_;refine AO ?_;intro f4 gc k9 eg fo;refine xq1 Z ⟨Fn,(xq1 Z ⟨.inl (SqL.of al),Z,(xq1 Z ?_)⟩)⟩;rw[B8,ly];refine Bl ?_;refine eg ?_;apply AL;intro I u;obtain⟨y0,y1,y2,y3,y4,y5,y6,y7,y8,rfl⟩:=PD ys ly;apply u;clear u I;refine AO ?_;intro e9 fa gi bg dl;refine xq1 Z ⟨Z,(xq1 Z ?_)⟩;rcases ao with ⟨rfl,he,rfl⟩|⟨rfl,rfl,rfl⟩
    .refine Bl ?_;refine bg ?_;refine AO ?_;intro b6 b9 el ap bm;refine xq1 Z ⟨Fn,y0,y1,y2,y3,y4,y5,y6,y7,y8,Z,al,λA4 t0 t1 t2 t3 H9 s9 R h0 h1 h2 h3=>⟨A4,Z,⟨_,SqL.of R⟩,?_⟩⟩;have aj:ds=ks.map λk=>(k,M):=Dep.one B.ok ag (.lo O he np);refine NM (b:=false) (xs:=[.ref t0,.ref t1,.ref t2,.ref t3]) (λx σ Hy=>Az H9 Hy/\∃cg ch ci:Option V,σ=[some (.ref g.p),some (.ref cq),some (.ref D),some (.ref U),some (.ref t),some (toV n),some (toV M),some (toV m),some (.int ((l+1+2:Nat):Int)),some (.ref tf),some (.int (0:Nat)),some (.ref WL),some (.ref Fn),none,none,none,none,cg,ch,ci]) ⟨Az.refl H9,none,none,none,Z⟩ (λx σ Hy _ z=>SqL.of (z.1 _ _ R)) ?_ ?_
     .rintro x v σ Hy TT ev fg nT;apply AL;intro I u;obtain⟨sy,cg,ch,ci,rfl⟩:=fg;apply u;clear u I;apply AL;intro I u;obtain⟨i,j,ya,yb,yp,yd,tk,hi,hj,ex,rfl,X,ea,eb,ep,ed⟩:=Tc h0 h1 h2 h3 ev;apply u;clear u I;generalize dC:upd Hy TT _=HT;obtain⟨sT,hT⟩:=alc nT dC;refine Lk hT ?_;have bb:=sy.trans sT;have c3:=bb _ _ X;have bx:=ah.same (s9.trans bb);have c2:=bb _ _ (s9 _ _ au);apply AL;intro I u;obtain⟨a',b',c',d',xa,xb,xc,xd,⟨la,lb,lc,ld⟩,q0,q1,q2,q3⟩:=lo_four B.ok b4 O nn hi hj;apply u;clear u I;rw[ea]at xa;rw[eb]at xb;rw[ep]at xc;rw[ed]at xd;cases xa;cases xb;cases xc;cases xd;have dg:∀z,qO L m z=qO G m z:=λz=>SH B em;have es:An L (qO G m x) ((l+1:Nat):Int):=by
       rw[<-dg,ex];exact((RM B.ok b4 O).2 i j hi hj).1
      rw[dg,<-ex]at q0 q1 q2 q3;refine AO ?_;intro b7 ca c5 aq bn;refine⟨4,Z,by decide,by decide,?_⟩;refine GH (n:=4) (λz aa H5=>HT=H5/\aa=([qO L ya 3,qO L yb 2,qO L yp 1,qO L yd 0].take z).map toV) ⟨Z,Z⟩ ?_ ?_
      .rintro z aa H5 hz ⟨rfl,rfl⟩;have ff:∃yy,An L yy ((l+1:Nat):Int)/\atI [toV ya,toV yb,toV yp,toV yd] (0+(z:Int))=some (toV yy)/\atI ([(qO L yy 0:Int),(qO L yy 1:Int),(qO L yy 2:Int),(qO L yy 3:Int)].map V.int) (3-(0+(z:Int)))=some (toV (qO L yy (3-z)))/\[qO L ya 3,qO L yb 2,qO L yp 1,qO L yd 0].take (z+1)=[qO L ya 3,qO L yb 2,qO L yp 1,qO L yd 0].take z++[qO L yy (3-z)]:=by
        match z,hz with
        |0,_=>exact⟨ya,la,Z,Z,Z⟩
        |1,_=>exact⟨yb,lb,Z,Z,Z⟩
        |2,_=>exact⟨yp,lc,Z,Z,Z⟩
        |3,_=>exact⟨yd,ld,Z,Z,Z⟩
       apply AL;intro I u;obtain⟨yy,ew,dn,dp,fb⟩:=ff;apply u;clear u I;refine⟨⟨[some (.int (0+(z:Int)))],Z,Z⟩,by rw[B8,M6];exact F3 (Nat.min_le_left _ _) (N4 hz A3),EQ (xq1 Z (xq3 Z bx.hp (BL g) (xq1 Z (xq1 Z (xq4 Z Z (SqT.of c3) dn ⟨g,L,yy,_,Z,bx,B.ok.fourq ew,by show((l+1:Nat):Int)≠0;lia,λtq b3=>(xq1 Z (xq2 Z Z (xq4 Z Z (SqT.of b3) dp ⟨Z,?_⟩)))⟩)))))⟩;rw[fb,C0];rfl
      .rintro aa H5 ⟨rfl,rfl⟩ DL dy;show c5 _ (upd HT DL (.lst (([qO L ya 3,qO L yb 2,qO L yp 1,qO L yd 0].take 4).map toV)));generalize bp:upd HT DL _=gd;obtain⟨b8,dw⟩:=alc (o:=(.lst ([(qO L ya 3:Int),(qO L yb 2:Int),(qO L yp 1:Int),(qO L yd 0:Int)].map V.int))) dy bp;have bf:=bx.same b8;refine aq ?_;have x4:x<4:=by lia
       have dq:atI ([(qO G m 0:Int),(qO G m 1:Int),(qO G m 2:Int),(qO G m 3:Int)].map V.int) (x:Int)=some (toV (qO G m x)):=by
        match x,x4 with
        |0,_=>rfl
        |1,_=>rfl
        |2,_=>rfl
        |3,_=>rfl
       refine xq1 Z (xq3 Z bf.hp (BL g) (xq1 Z (xq1 Z (xq4 Z Z (SqT.of (b8 _ _ c2)) dq ⟨g,L,qO G m x,_,Z,bf,B.ok.fourq es,by show((l+1:Nat):Int)≠0;lia,λtq b3=>⟨tq,_,Z,.inr (SqT.of b3),λLq co=>?_⟩⟩))));refine xq1 Z ⟨Lq,DL,_,_,Z,Z,SqL.of Ag,SqL.of (Al co _ _ dw),false,?_,Bl ⟨(bb.trans b8).trans (Al co),_,_,_,Z⟩⟩;rw[q0,q1,q2,q3,W1 rfl];rfl
     .rintro σ Hy az;apply AL;intro I u;obtain⟨sy,cg,ch,ci,rfl⟩:=az;apply u;clear u I;refine ap ?_;refine k dj L Hy (bd.trans (Fr.d (Az.fr (s9.trans sy)))) (ah.same (s9.trans sy)) (B.mono A3) (sy _ _ (s9 _ _ cr)) (λd=>?_) de A1;rw[aw,aj]
    .refine CT ?_;clear bg;refine AO ?_;intro b6 b9 el ap bm;refine⟨S_0,λW2 ct=>?_⟩;generalize cV:upd H7 W2 _=H8;obtain⟨s8,d1⟩:=alc ct cV;refine ap ?_;refine AO ?_;intro b7 ca c5 aq bn;refine xq1 Z ⟨Fn,y0,y1,y2,y3,y4,y5,y6,y7,y8,Z,s8 _ _ al,λA4 t0 t1 t2 t3 H9 s9 R h0 h1 h2 h3=>⟨A4,Z,⟨_,SqL.of R⟩,?_⟩⟩;have bv:=s9 _ _ d1;have ay:=s8.trans s9;have W:=ah.same ay;have ez:A4≠W2:=λz=>by
      rw[z,bv]at R;cases R
     have nW:∀{b o},H7 b=some o->b≠W2:=λ{b o} e=>Aj e ct;have dd:W2≠g.lv/\W2≠g.pt:=by
      obtain⟨tg,g3,_⟩:=ah.pt;exact⟨W8 (nW ah.lv),W8 (nW g3)⟩
     refine CZ (xs:=[.ref t0,.ref t1,.ref t2,.ref t3]) (λx σ Hy=>∃(G5:Gv)(fs:J_)(Y:H_)(cc cd ce cf:Option V),σ=[some (.ref g.p),some (.ref cq),some (.ref D),some (.ref U),some (.ref t),some (toV n),some (toV (M+1)),some (toV m),some (.int ((M+1+2:Nat):Int)),some (.ref tf),some (.int (1:Nat)),some (.ref W2),some (.ref Fn),cc,cd,ce,cf,none,none,none]/\(∀b o,H9 b=some o->b≠g.lv->b≠g.pt->b≠g.nm->b≠W2->Hy b=some o)/\AE a Hy g G5/\AR L G5 x/\Hy W2=some (.lst (Y.map V.ref))/\Paired (FY Hy) Y (fs.map λk=>(k,M))/\fs.length=x/\∀(tt y:Nat),fs[tt]?=some y->An G5 y ((M+2:Nat):Int)/\Vw G5 (Bh (rl.map LC4.a) (2^M) (AM L (M+1+2) n)) (M+2) y (2^M+2^(M+1)*(tt%2)) (2^M+2^(M+1)*(tt/2))) ⟨L,[],[],none,none,none,none,Z,λb o e _ _ _ _=>e,W,AR.refl B.ok,bv,.nil,Z,λtt y e=>(nomatch e)⟩ (λx σ Hy _ z=>by
      apply AL;intro I u;obtain⟨_,_,_,_,_,_,_,_,kp,_⟩:=z;obtain⟨tg,g3,g4⟩:=W.pt;apply u;clear u I;have gj:tg.length=L.length:=Y4 g4;have sv:Sv (.lst [V.ref t0,.ref t1,.ref t2,.ref t3]):=.lst (by show 4<=50;decide);exact SqL.of (kp _ _ R (sv.nl R W.lv (by rw[B8];lia)) (sv.nl R g3 (by rw[B8];lia)) (sv.nt R W.nm) ez)) ?_ ?_
     .rintro x v σ Hy ev cj;apply AL;intro I u;obtain⟨G5,fs,Y,cc,cd,ce,cf,rfl,kp,ac,C,an,S,lf,all⟩:=cj;apply u;clear u I;apply AL;intro I u;obtain⟨i,j,ya,yb,yp,yd,tk,hi,hj,ex,rfl,X,ea,eb,ep,ed⟩:=Tc h0 h1 h2 h3 ev;obtain⟨tg,g3,_⟩:=W.pt;apply u;clear u I;have X:=kp _ _ X (Aq X W.lv A2) (Aq X g3 A2) (Aq X W.nm A2) (Aq X bv A2);obtain⟨za,xa,la,_⟩:=nn i j A1 A1;obtain⟨zb,xb,lb,_⟩:=nn (i+1) j A1 A1;obtain⟨zp,xp,lp,_⟩:=nn i (j+1) A1 A1;obtain⟨zd,xd,ld,_⟩:=nn (i+1) (j+1) A1 A1;rw[ea]at xa;rw[eb]at xb;rw[ep]at xp;rw[ed]at xd;cases xa;cases xb;cases xp;cases xd;have x4:x<4:=by lia
      have gh:=C.few;have gf:M<=45:=by have:=(B.ok.lev (Classical.choose_spec O).1).2;have:=(Classical.choose_spec O).2;lia
      have lts:Y.length=x:=by rw[Y4 S,B8,lf]
      refine⟨tk,(xq1 Z ⟨SqT.of X,Z,_,_,Z,_,_,Z,_,_,Z,(xq2 Z Z ?_)⟩)⟩;refine xq1 Z ⟨.inl ⟨Z,_,SqL.of an⟩,(xwn Z Z ac.hp (Dx g) Z (xw3 Z Z Z ⟨g,G5,ya,yb,yp,yd,((M+1:Nat):Int),Z,ac,C.ok,⟨C.lev la,C.lev lb,C.lev lp,C.lev ld⟩,by lia,by lia,λy G6 a0 fr cx a6 e6=>(xwb Z Z Z ⟨S_2,λt' ai=>?_⟩)⟩))⟩;have ax:Az a0 (upd a0 t' (.tup [.int (y:Int),.int (((M+1:Nat):Int)-1)])):=Al ai;have hP:FY (upd a0 t' (.tup [.int (y:Int),.int (((M+1:Nat):Int)-1)])) t' (y,M):=by
       unfold FY;rw[Ag,show((M+1:Nat):Int)-1=(M:Int) by lia];rfl
      show ∃_,_;generalize upd a0 t' (.tup [.int (y:Int),.int (((M+1:Nat):Int)-1)])=a1 at ax hP⊢;have am:=ax _ _ (fr.kps ac (D4 c7 C.le) _ _ an (.lst (by rw[B8];lia)));refine⟨W2,(xq2 Z Z ⟨am,by rw[B8,lts];exact N4 x4 A3,?_⟩)⟩;have vk:=up_four B.ok (C.trans a6) nn hi hj ea eb ep ed e6;obtain⟨th,du,_⟩:=ac.pt;have cb:∀{b ys},Hy b=some (.tup ys)->upd a1 W2 (.lst (Y.map V.ref++[.ref t'])) b=some (.tup ys):=λ{b ys} e=>by
       rw[Ar (Aq e an A2)];exact ax _ _ (fr _ _ e (Aq e ac.lv A2) (Aq e du A2) (Aq e ac.nm A2))
      refine⟨G6,fs++[y],Y++[t'],_,_,_,_,Z,λb o e n1 n2 n3 n4=>?_,?_,C.trans a6,by rw[Ag,C0];rfl,?_,by rw[C6,lf];rfl,λtt z e=>?_⟩
      .rw[Ar n4];exact ax _ _ (fr _ _ (kp _ _ e n1 n2 n3 n4) n1 n2 n3)
      .exact(cx.same ax).put am dd.1 dd.2
      .rw[C0];refine Z5 (Paired.imp (λt d z=>cb z) S) ?_;show upd a1 W2 (.lst (Y.map V.ref++[.ref t'])) t'=some (.tup [toV y,toV M]);rw[Ar (Aq hP am A2)];exact hP
      .by_cases eh:tt<fs.length
       .rw[J3 eh]at e;obtain⟨b1,b2⟩:=all tt z e;exact⟨a6.lev b1,b2.goes C.ok a6 b1⟩
       .have:tt-fs.length<1:=by
         rw[F1 A1]at e;exact(B9.mp e).1
        obtain rfl:tt=i+2*j:=by lia
        rw[F1 A1,lf,ex,O8]at e;cases e;refine⟨⟨_,e6,by show((M+1:Nat):Int)+1=((M+2:Nat):Int);lia⟩,vk.at' ?_ ?_⟩
        .rw[show(i+2*j)%2=i by lia]
        .rw[show(i+2*j)/2=j by lia]
     .rintro σ Hy az;apply AL;intro I u;obtain⟨G5,fs,Y,cc,cd,ce,cf,rfl,kp,ac,C,an,S,lf,all⟩:=az;apply u;clear u I;refine aq ?_;have lf:fs.length=4:=lf;have C:AR L G5 4:=C;have cn:NX (rl.map LC4.a) G5 n M fs:=by
       unfold NX;rw[AQ B.ok C O];refine⟨lf,λi j hi hj=>?_⟩;have ai:i+2*j<fs.length:=by lia
       obtain⟨b1,b2⟩:=all _ _ (F0 ai);exact⟨_,F0 ai,b1,b2.at' (by rw[show(i+2*j)%2=i by lia]) (by rw[show(i+2*j)/2=j by lia])⟩
      have cl:=ag.goes B.ok C;have bh:=C.lev O;apply AL;intro I u;obtain⟨eo,fs',d3,d2,aj⟩:=cl.up_inv bh;apply u;clear u I;have e5:Jb G5 n M ks:=by
       unfold Jb;rw[AQ B.ok C O];exact np.goes B.ok C
      rw[<-GI.one C.ok A3 e5 d3,<-GI.one C.ok A3 cn d2,C0]at aj;obtain⟨af,a4,c0⟩:=Nk (rows:=rows) (ws:=fs.map λk=>(k,M)) λd hd=>dh d (by rw[aj];exact D3.mpr (.inr hd));have et:af.length=4:=by
       have:=Y7 List.length a4;rw[B8,B8,lf]at this;exact this
      obtain⟨tg,g3,_⟩:=W.pt;have ae:∀{b o},H7 b=some o->(∀l,o≠.lst l)->b≠g.nm->Hy b=some o:=λ{b o} e n1 n2=>kp _ _ (ay _ _ e) (Aq (ay _ _ e) W.lv (n1 _)) (Aq (ay _ _ e) g3 (n1 _)) n2 (nW e);have dz:=ae dx A6 dc;have bu:=ae cr A6 a8;have bi:=ae au A6 (Aq au ah.nm A2);have c4:=PZ a4 λq hq=>(bj q (c0 q hq)).goes B.ok C;have ei:=b4.goes B.ok C;refine xw3 Z Z Z ⟨D,U,W2,rows,dj,Y,af,Z,dz,nd,bu,b5,an,by rw[a4];exact S,c0,by lia,by lia,λF2 fc a1 ak fq cp be db e4 fp=>?_⟩;have cy:=ak.gr bu a8 ac;have b0:=ak _ _ bi (Aq bi bu A2);have eF:(af.map λq=>toV q.m)=((af.map T3.m).map λk=>((k:Nat):Int)).map V.int:=by rw[N9,N9];rfl
      rw[eF]at be;have da:(af.map T3.m).length=4:=by rw[B8,et]
      have val:(af.map T3.m).map (λk=>((k:Nat):Int))=[(qO G m 0:Int),(qO G m 1:Int),(qO G m 2:Int),(qO G m 3:Int)]:=by
       have qe:∀x,qO G5 m x=qO G m x:=λx=>SH (B.trans C) em;generalize af.map T3.m=vs at c4 da;apply AL;intro I u;obtain⟨v0,v1,v2,v3,rfl⟩:=IW vs da;obtain⟨f0,f1,f2,f3,rfl⟩:=IW fs lf;apply u;clear u I;have one:∀{i j f v:Nat},i<2->j<2->[f0,f1,f2,f3][i+2*j]?=some f->JR (rl.map LC4.a) G5 M f v->v=qO G m (i+2*j):=λ{i j f v} hi hj ef jv=>by
        apply AL;intro I u;obtain⟨y,ey,eu,vy⟩:=cn.2 i j hi hj;apply u;clear u I;rw[ef]at ey;cases ey;rw[<-qe];exact up_eq C.ok ei bh hi hj eu vy jv
       cases c4 with
       |cons j0 p =>
        cases p with
        |cons j1 p =>
         cases p with
         |cons j2 p =>
          cases p with
          |cons j3 p =>
           rw[one (i:=0) (j:=0) A3 A3 rfl j0,one (i:=1) (j:=0) A3 A3 rfl j1,one (i:=0) (j:=1) A3 A3 rfl j2,one (i:=1) (j:=1) A3 A3 rfl j3];rfl
      refine xq1 Z ⟨tf,(xq1 Z ⟨.inr (SqT.of b0),λLf d0=>?_⟩)⟩;show ∃_,_;generalize bo:upd a1 Lf _=dm;obtain⟨a9,dv⟩:=alc d0 bo;refine⟨F2,Lf,(xq2 Z Z ⟨SqL.of (a9 _ _ be),SqL.of dv,?_⟩)⟩;rw[W1 val];have dt:FrD g U H7 Hy:=λb o e n1 n2 n3 _=>kp _ _ (ay _ _ e) n1 n2 n3 (nW e);refine k fc G5 dm (bd.trans (dt.trans (ak.d.trans (Fr.d (Az.fr a9))))) (cy.same a9) ((B.trans C).mono A3) (a9 _ _ cp) (λd=>?_) (λz=>e4 (de z)) A1;rw[db,aw,a4,aj,D3,or_assoc]
end
theorem Paired.impM{α β:Type}{F G:α->β->Prop}:∀{l:List α}{m:List β},(∀x y,y∈m->F x y->G x y)->Paired F l m->Paired G l m
|_,_,_,.nil=>.nil
|_,_,h,.cons r t=>.cons (h _ _ D8 r) (Paired.impM (λx y a=>h x y (D9 _ a)) t)
theorem FK.kps{H d:Hp}{q:R_}{c:LC4}(k:KpS H d)(ok:c.Ok)(h:FK H q c):FK d q c:=by
 obtain⟨s,u,a,b,j,l,f,m,g⟩:=h;have w:=Y4 f;have x:=Y4 g;have v:=ok.few;have i:((c.wis.map λp=>p.1).length:Int)<=9-0:=Ly (c.wis.map λp=>p.1) 0 A3 (λn o=>by
  obtain⟨p,r,rfl⟩:=D7.mp o;have:=(ok.wis p r).1;lia) (by
   rw[List.pairwise_map];exact ok.asc)
 rw[B8]at i;exact⟨s,u,a,b,k _ _ j (.inl .tup),k _ _ l (.lst (by rw[B8];lia)),Paired.imp (λt p e=>k _ _ e (.inl .tup)) f,k _ _ m (.lst (by rw[B8];lia)),Paired.imp (λt p e=>k _ _ e (.inl .tup)) g⟩
theorem EO.kps{H a:Hp}{q:R_}{r:List LC4}(k:KpS H a)(ok:Lz r)(h:EO H q r):EO a q r:=by
 obtain⟨i,d,b⟩:=h;have j:=Y4 b;have f:=ok.few;exact⟨i,k _ _ d (.lst (by rw[B8];lia)),Paired.impM (λt c g e=>e.kps k (ok.ok c g)) b⟩
theorem kit_ll(K:O_):kitOne K (.type "list") (.type "list")=some true:=by kernel_rfl
theorem OY{α β:Type}{F:α->β->Prop}:∀{us:List α}{a:List β}{l:β},Paired F us (a++[l])->∃vs t,us=vs++[t]/\Paired F vs a/\F t l
|_,[],_,.cons h .nil=>⟨[],_,Z,.nil,h⟩
|_,_::_,_,.cons h t=>by
 apply AL;intro c b;obtain⟨vs,t',rfl,p,q⟩:=OY t;apply b;clear b c;exact⟨_::vs,t',Z,.cons h p,q⟩
section
variable{P:N_}{w:Q_}{K:O_}{mg:C_}{base:T_}{a:Ad}
inductive SpWa(a:Ad)(vs:List V)(H:Hp)(Q:VK):Prop
|mk (g:GA) (G:Gv) (cq R:R_) (rl:List LC4) (n e mm C:Nat) (ts:H_) (init:List T3) (_:vs=[.ref g.p,.ref cq,.ref R,.int n,.int e]) (_:AE a H g G) (_:GOk G) (_:56<=G.length) (_:C<=200000) (_:G.length+20*C<6900000) (_:EO H cq rl) (_:Lz rl) (_:H R=some (.lst (ts.map V.ref))) (_:R≠g.lv/\R≠g.pt) (_:Paired (DW H) ts (init++[⟨n,e,mm⟩])) (_:Rsn (rl.map LC4.a) G [] (init++[⟨n,e,mm⟩]) [(n,e)]) (_:init.length+1<=C)
  (_:∀(G':Gv)(H':Hp),Fr g H H'->AE a H' g G'->AR G G' (20*C)->Q (.bl true) H'):SpWa a vs H Q
def spWa(a:Ad):Sp:=λvs H Q _=>SpWa a vs H Q
theorem ok_wa(F:Fun K "_law_walked" "_law_walked" Ga f fd)(T:Top K mg a)(bX:Cal P w K mg base CX0 1 "_law_three" Ib spTh)(bC:Cal P w K mg base CX0 7 "_law_row_right" Ei (spRr a)):AT P w K mg base CX0 8 f fd Gm (spWa a):=by
 refine F.ok DE (λvs H Q E h=>?_) (λce A bj s H vs Q E hr h=>?_)
 .apply AL;intro O l;obtain⟨g,G,cq,R,rl,n,e,L,C,ts,c,rfl,_⟩:=h;apply l;clear l O;rfl
 .apply AL;intro O l;obtain⟨g,G,cq,R,rl,n,e,L,C,ts,c,rfl,hg,ok,az,bz,few,hq,rok,hR,nR,ao,M,len,k⟩:=h;apply l;clear l O;refine⟨_,(Ae (AS (PW.pt (Ir (CB (Cv (AU Dk Z T.b_isinstance Y9 (Aa (pv 2) (Aa (Ev (v:=.ty "list") Z T.b_list K4 Z) Ab))))) (Ft (AF Ci (AU BK Z T.b_len Z2 (Aa (pv 2) Ab)) Ac (AI _))))) (Af (Ax Df)) AD) (Ae (Av (i:=5) DE.nd Z O_9 IF) (Ae (Av (i:=6) DE.nd Z O_9 IF) (Ae (BQ Y5 Z (Bu (pv 2)) (AN (i:=7) DE.nd Z O_9) (Ae (AS (PW.pt (Ir (CB (Cv (AB bX (rm hr) Z Ao (Aa (pv 7) Ab)))) (Ft (Pr (pc_din (DY hr) (CD (Aa (Ah Ap (pv 7) Ac R_9) (Aa (Ah Ap (pv 7) Ac R_9) Ab))) (pv 5)))))) (Af (Ax Df)) AD) (Ae (AS (CB (Cv (AB bC (rm hr) Z Ao (Aa (pv 0) (Aa (pv 1) (Aa (pv 5) (Aa (pv 6) (Aa (pv 7) Ab)))))))) (Af (Ax Df)) AD) (Af (FT (DY hr) (pv 5) (CD (Aa (Ah Ap (pv 7) Ac R_9) (Aa (Ah Ap (pv 7) Ac R_9) Ab))) (Ah Ap (pv 7) Ac R_9) Z))))) (Af (Ax (LO (Do (TU hr.units) (CD (Aa (Ah Ap (Ah Au (pv 2) (JV GL Ac) R_9) Ac R_9) (Aa (Ah Ap (Ah Au (pv 2) (JV GL Ac) R_9) Ac R_9) Ab))) (CD (Aa (pv 3) (Aa (pv 4) Ab))) (AI _)) (Jy (Do Ci (AU UA Z T.b_len Z2 (Aa (pv 6) Ab)) (AG BU (AU BK Z T.b_len Z2 (Aa (pv 2) Ab)) Ac) (AI _)))))))))),?_⟩
  try dsimp only[cxK]
  have lts:ts.length=c.length+1:=by rw[Y4 ao,C6];rfl
  refine AO ?_;intro b1 b7 k1 a8 br;refine xq1 Z ⟨_,_,_,.type "list",true,Z,Z,.of (.lst hR),kit_ll K,true,Z,Bl ?_⟩;refine xq1 Z ⟨R,(xq1 Z ⟨.inl (SqL.of hR),Z,false,?_,Bl ?_⟩)⟩
  .exact Y7 V.bl (W3 (by intro z;injection z with z;rw[B8,lts]at z;lia))
  refine a8 ?_;refine AO ?_;intro b2 b8 k2 a9 bt;intro N ah;show k2 _ (upd H N (.dT []));generalize b9:upd H N _=H1;obtain⟨s1,ag⟩:=alc ah b9;refine a9 ?_;refine AO ?_;intro b3 ca k3 ba bu;intro X ai;show k3 _ (upd H1 X (.dT []));generalize cH:upd H1 X _=H2;obtain⟨s2,a5⟩:=alc ai cH;refine ba ?_;have ak:N≠X:=Aj ag ai;have a4:=s2 _ _ ag;have ap:=s1.trans s2;have a1:H X=none:=Az.noneN s1 ai;have am:N≠g.nm:=W8 (Aj hg.nm ah);have bg:X≠g.nm:=W8 (Aj hg.nm a1);clear s1 s2 ag;refine AO ?_;intro b4 cb k4 bb bv;refine xq1 Z ⟨R,Z,⟨_,SqL.of (ap _ _ hR)⟩,?_⟩;have ar:∀{r:Hp}{t:R_}{ys:List V},Fr g H r->H t=some (.tup ys)->r t=some (.tup ys):=λ{r t ys} f h=>by
   obtain⟨tg,g3,_⟩:=hg.pt;exact f _ _ h (Aq h hg.lv A2) (Aq h g3 A2) (Aq h hg.nm A2)
  refine CZ (xs:=ts.map V.ref) (λi σ r=>∃(G5:Gv)(us:List (Nat×Nat))(u7:Option V),σ=[some (.ref g.p),some (.ref cq),some (.ref R),some (.int n),some (.int e),some (.ref N),some (.ref X),u7]/\Fr g H r/\AE a r g G5/\AR G G5 (20*i)/\r N=some (.dT (kvT ((c++[(⟨n,e,L⟩:T3)]).take i)))/\r X=some (.dT (kvS us))/\us.Nodup/\us.length<=20*i/\∀d,d∈us ↔ ∃q∈(c++[(⟨n,e,L⟩:T3)]).take i,∃ds,Dep (rl.map LC4.a) G q.n q.e ds/\d∈ds) ⟨G,[],none,Z,Az.fr ap,hg.same ap,AR.refl ok,a4,a5,O6,C9 _,λd=>⟨λz=>(nomatch z),λ⟨q,hq,_⟩=>(nomatch hq)⟩⟩ (λi σ r _ z=>by obtain⟨_,_,_,_,fr,_⟩:=z;exact SqL.of (fr _ _ hR nR.1 nR.2 (Aq hR hg.nm A2))) ?_ ?_
  .rintro i v σ r ev bq;apply AL;intro O l;obtain⟨G5,us,u7,rfl,fr,I,u,B,ab,an,lu,y⟩:=bq;apply l;clear l O;rw[C7]at ev;obtain⟨t,et,rfl⟩:=D5.mp ev;obtain⟨q,eq,ht⟩:=Paired.get ao et;have hi:i<c.length+1:=by have:=(B9.mp et).1;lia
   have x:r t=some (.tup [toV q.n,toV q.e,toV q.m]):=ar fr ht;have cf:=u.few;have tk:(c++[(⟨n,e,L⟩:T3)]).take (i+1)=(c++[(⟨n,e,L⟩:T3)]).take i++[q]:=by rw[F9,eq,L6]
   have U:q.key∉((c++[(⟨n,e,L⟩:T3)]).take i).map T3.key:=by
    have W:=M.nd;rw[<-U1 (i+1) (c++[(⟨n,e,L⟩:T3)]),tk,C0,C0]at W;have bh:=(N5.mp (N5.mp W).1).2.2;exact λz=>bh _ z _ (C8.mpr Z) Z
   have a2:(((c++[(⟨n,e,L⟩:T3)]).take i).map T3.key).Nodup:=by
    have W:=M.nd;rw[<-U1 i (c++[(⟨n,e,L⟩:T3)]),C0]at W;exact(N5.mp W).1
   obtain⟨ds,Y,S⟩:=M.dep i q eq;rw[T9]at S;have ae:∀p∈(c++[(⟨n,e,L⟩:T3)]).take i,JR (rl.map LC4.a) G5 p.e p.n p.m:=λp hp=>(M.ok p (List.mem_of_mem_take hp)).goes ok u;have jq:=(M.ok q (D6 eq)).goes ok u;generalize (c++[(⟨n,e,L⟩:T3)]).take i=rows at B y tk U a2 S ae;refine AO ?_;intro b5 cc k5 bc bw;refine xq1 Z ⟨t,q.n,q.e,q.m,Z,x,true,Z,Bl ?_⟩;refine xwi Z Z Z (SqT.of x) (Am (j:=0) Z) (xwi Z Z Z (SqT.of x) (Am (j:=1) Z) ⟨S_2,λtq ay=>(xq1 Z ⟨N,(xq1 Z ⟨FM.t (k:=pk q.key) (Al ay _ _ B) Ag,?_⟩)⟩)⟩);rw[show BP (kvT rows) (pk q.key)=none from Lj T3.key _ U];have s6:Az r (upd r tq (.tup [toV q.n,toV q.e])):=Al ay;refine⟨false,Z,Bl ?_⟩;show k5 _ (upd r tq (.tup [toV q.n,toV q.e]));generalize upd r tq (.tup [toV q.n,toV q.e])=H6 at s6⊢;refine bc ?_;refine AO ?_;intro b6 cd k6 bd bx;refine xw3 Z Z Z (xw2 Z Z ⟨g,G5,cq,N,X,t,rl,rows,us,q.n,q.e,q.m,ds,Z,I.same s6,u.ok,D4 az u.le,by lia,(hq.kps (fr.kps hg az) rok).same s6,rok,s6 _ _ B,a2,s6 _ _ ab,ak,am,bg,s6 _ _ x,jq,Y.goes ok u,S,ae,by lia,λbm G7 H7 af a7 a3 a6 a0 bi b0=>⟨true,Z,Bl ?_⟩⟩);refine bd ?_;obtain⟨tg,g3,_⟩:=I.pt;have au:H7 N=some (.dT (kvT rows)):=af _ _ (s6 _ _ B) (Aq B I.lv A2) (Aq B g3 A2) am ak;have aj:H7 t=some (.tup [toV q.n,toV q.e,toV q.m]):=af _ _ (s6 _ _ x) (Aq x I.lv A2) (Aq x g3 A2) (Aq x I.nm A2) (Aq x ab A2);have lr:rows.length<8000000:=by
    have:=Y7 List.length tk;rw[M6,C6,C6]at this;simp only[N6]at this;lia
   refine xwi Z Z Z (SqT.of aj) (Am (j:=2) Z) (xwj Z Z Z Z (SqT.of aj) (Am (j:=0) Z) (xwi Z Z Z (SqT.of aj) (Am (j:=1) Z) ⟨S_2,λtp ax=>⟨N,(xq1 Z ⟨LB.t (k:=pk q.key) (Al ax _ _ au) Ag (by rw[show(kvT rows).length=rows.length from B8 _];exact N4 lr A3),?_⟩)⟩⟩));rw[show EI (kvT rows) (pk q.key) (toV q.m)=kvT (rows++[q])from SQ T3.key (λq=>toV q.m) U];have s8:Az H7 (upd H7 tp (.tup [toV q.n,toV q.e])):=Al ax;show ∃_,_;generalize upd H7 tp (.tup [toV q.n,toV q.e])=H8 at s8⊢;have up:∀{b o},H8 b=some o->b≠N->upd H8 N (.dT (kvT (rows++[q]))) b=some o:=λ{b o} e n=>by rw[Ar n];exact e
   have aa:=s8 _ _ au;refine⟨G7,bm,(xq1 Z ⟨λb o e n1 n2 n3=>?_,?_,?_,?_,?_,bi an,by lia,λd=>?_⟩)⟩
   .exact up (s8 _ _ (af _ _ (s6 _ _ (fr _ _ e n1 n2 n3)) n1 n2 n3 (Aj e a1))) (Aj e ah)
   .have D:=a7.same s8;obtain⟨th,g4,g5⟩:=D.pt;exact⟨up D.hp (Aq D.hp aa A2),up D.lv (Aq D.lv aa A2),⟨th,up g4 (Aq g4 aa A2),PairedM.imp (λt q z=>up z (Aq z aa A2)) g5⟩,up D.nm (W8 am),D.ne⟩
   .exact(u.trans a3).mono A1
   .rw[Ag,tk]
   .exact up (s8 _ _ a6) (W8 ak)
   .rw[a0,y,tk];constructor
    .rintro(⟨p,hp,es,h1,h2⟩|z)
     .exact⟨p,D3.mpr (.inl hp),es,h1,h2⟩
     .exact⟨q,D3.mpr (.inr (C8.mpr Z)),ds,Y,z⟩
    .rintro bo;apply AL;intro O l;obtain⟨p,hp,es,h1,h2⟩:=bo;apply l;clear l O;rcases D3.mp hp with z|z
     .exact .inl ⟨p,z,es,h1,h2⟩
     .rw[C8.mp z]at h1;exact .inr (Dep.one ok h1 Y▸h2)
  .rintro σ r bp;apply AL;intro O l;obtain⟨G5,us,u7,rfl,fr,I,u,B,ab,an,lu,y⟩:=bp;apply l;clear l O;refine bb ?_;have e1:(ts.map V.ref).length=(c++[(⟨n,e,L⟩:T3)]).length:=by rw[B8,lts,C6];rfl
   rw[e1,J7]at y;rw[B8,lts]at u;have as:=fr _ _ hR nR.1 nR.2 (Aq hR hg.nm A2);have bn:∃ti tl,ts=ti++[tl]/\Paired (DW H) ti c/\DW H tl ⟨n,e,L⟩:=OY ao;apply AL;intro O l;obtain⟨ti,tl,rfl,cg,be⟩:=bn;apply l;clear l O;have aw:r tl=some (.tup [toV n,toV e,toV L]):=ar fr be;have ul:us.length=c.length:=Rsn.used ok (d:=(n,e)) M an y;have ad:r R=some (.lst (ti.map V.ref++[.ref tl])):=by rw[as,C0];rfl
   have al:atI (ti.map V.ref++[V.ref tl]) (-1)=some (.ref tl):=Lx (by rw[R8];rfl);refine xwj Z Z Z Z (SqL.of ad) al (xq4 Z Z (SqT.of aw) (Am (j:=0) Z) (xwj Z Z Z Z (SqL.of ad) al (xq4 Z Z (SqT.of aw) (Am (j:=1) Z) ⟨S_2,λta bf=>?_⟩)));refine xw2 Z Z ⟨S_2,λtb av=>?_⟩;have sa:Az r (upd r ta (.tup [toV n,toV e])):=Al bf;have ha:upd r ta (.tup [toV n,toV e]) ta=some (.tup ([(n:Int),(e:Int)].map V.int)):=Ag;generalize upd r ta (.tup [toV n,toV e])=Ha at sa ha av⊢;generalize aq:upd Ha tb _=Hb;obtain⟨sb,hb⟩:=alc (o:=(.tup ([(n:Int),(e:Int)].map V.int))) av aq;have ac:=sa.trans sb;refine⟨ta,tb,[(n:Int),(e:Int)],[(n:Int),(e:Int)],Z,Z,SqT.of (sb _ _ ha),SqT.of hb,true,Y7 V.bl (W1 Z),CT ?_⟩;refine xq1 Z ⟨X,(xq1 Z ⟨.inl (ac _ _ ab),(xq1 Z ⟨R,(xq1 Z ⟨.inl (SqL.of (ac _ _ as)),(xq2 Z Z ⟨Z,?_⟩)⟩)⟩)⟩)⟩;rw[PY,ul,B8,lts,W1 (Y7 V.int (show(c.length:Int)=((c.length+1:Nat):Int)-1 by lia))];exact k G5 Hb (fr.trans (Az.fr ac)) (I.same ac) (u.mono A1)
end
end J
namespace J
open PySem L2
noncomputable def sF(r:AA)(φ:D_):Int->Int->Nat:=λx y=>(Co r (φ x y:Nat) [((φ (x-1) (y-1):Nat):Int),((φ x (y-1):Nat):Int),((φ (x+1) (y-1):Nat):Int),((φ (x-1) y:Nat):Int),((φ (x+1) y:Nat):Int),((φ (x-1) (y+1):Nat):Int),((φ x (y+1):Nat):Int),((φ (x+1) (y+1):Nat):Int)]).toNat
noncomputable def sFN(r:AA):Nat->(Int->Int->Nat)->Int->Int->Nat
|0,φ=>φ
|n+1,φ=>sF r (sFN r n φ)
theorem SB(r:AA)(φ:D_)(n:Nat):∀m,sFN r (m+n) φ=sFN r m (sFN r n φ)
|0=>by rw[M5];rfl
|m+1=>by
 rw[show m+1+n=(m+n)+1 by lia];show sF r (sFN r (m+n) φ)=sF r (sFN r m (sFN r n φ));rw[SB r φ n m]
theorem SA(r:AA){φ ψ:D_}{X Y:Int}:∀(k:Nat)(x y:Int),(∀u v,x-k<=u->u<=x+k->y-k<=v->v<=y+k->φ u v=ψ (u+X) (v+Y))->sFN r k φ x y=sFN r k ψ (x+X) (y+Y)
|0,x,y,h=>h x y A1 A1 A1 A1
|k+1,x,y,h=>by
 have c:∀u v,x-1<=u->u<=x+1->y-1<=v->v<=y+1->sFN r k φ u v=sFN r k ψ (u+X) (v+Y):=λu v d e f g=>SA r k u v λa b i j l m=>h a b A1 A1 A1 A1;show sF r (sFN r k φ) x y=sF r (sFN r k ψ) (x+X) (y+Y);unfold sF;rw[c x y A1 A1 A1 A1,c (x-1) (y-1) A1 A1 A1 A1,c x (y-1) A1 A1 A1 A1,c (x+1) (y-1) A1 A1 A1 A1,c (x-1) y A1 A1 A1 A1,c (x+1) y A1 A1 A1 A1,c (x-1) (y+1) A1 A1 A1 A1,c x (y+1) A1 A1 A1 A1,c (x+1) (y+1) A1 A1 A1 A1];rw[show x-1+X=x+X-1 by lia,show y-1+Y=y+Y-1 by lia,show x+1+X=x+X+1 by lia,show y+1+Y=y+Y+1 by lia]
theorem Nj{r:AA}(h:Co r 0 Cb=0):∀k,sFN r k (λ_ _=>0)=λ_ _=>0
|0=>rfl
|k+1=>by
 show sF r (sFN r k λ_ _=>0)=_;rw[Nj h k]
 funext x y
 show(Co r ((0:Nat):Int) Cb).toNat=0;rw[show((0:Nat):Int)=0 from rfl,h];rfl
theorem Vh{r:AA}(h:Co r 0 Cb=0){φ:D_}{k:Nat}{x y:Int}(z:sFN r k φ x y≠0):∃u v,x-k<=u/\u<=x+k/\y-k<=v/\v<=y+k/\φ u v≠0:=by
 refine X9 λno=>z ?_;have:=SA r (φ:=φ) (ψ:=λ_ _=>0) (X:=0) (Y:=0) k x y λu v a b c d=>X9 λq=>no ⟨u,v,a,b,c,d,q⟩;rw[this,Nj h]
theorem bec_nn{r:AA}(h:Mh r){cell:Int}(f:0<=cell)(a:I_):0<=Co r cell a:=by
 cases e:MC r cell a with
 |none=>rw[NU e];exact f
 |some i =>
  obtain⟨c,b,d⟩:=NT e;rw[d];exact(h.ok c (D6 b)).makes.1
theorem Pi{r:AA}(e:Mh r){c:Nat->Nat->Int}{φ:D_}{X Y:Int}:∀(k x y:Nat),k<=x->k<=y->(∀u v:Nat,x-k<=u->u<=x+k->y-k<=v->v<=y+k->c u v=(φ ((u:Int)+X) ((v:Int)+Y):Nat))->Bh r k c x y=(sFN r k φ ((x:Int)+X) ((y:Int)+Y):Nat)
|0,x,y,_,_,h=>h x y A1 A1 A1 A1
|k+1,x,y,hx,hy,h=>by
 have d:∀u v:Nat,x-1<=u->u<=x+1->y-1<=v->v<=y+1->Bh r k c u v=(sFN r k φ ((u:Int)+X) ((v:Int)+Y):Nat):=λu v f g i j=>Pi e k u v A1 A1 λa b l m n o=>h a b A1 A1 A1 A1;show Co r (Bh r k c x y) [Bh r k c (x-1) (y-1),Bh r k c x (y-1),Bh r k c (x+1) (y-1),Bh r k c (x-1) y,Bh r k c (x+1) y,Bh r k c (x-1) (y+1),Bh r k c x (y+1),Bh r k c (x+1) (y+1)]=((sF r (sFN r k φ) ((x:Int)+X) ((y:Int)+Y):Nat):Int)
 unfold sF;rw[S0 (bec_nn e (Int.natCast_nonneg _) _)];rw[d x y A1 A1 A1 A1,d (x-1) (y-1) A1 A1 A1 A1,d x (y-1) A1 A1 A1 A1,d (x+1) (y-1) A1 A1 A1 A1,d (x-1) y A1 A1 A1 A1,d (x+1) y A1 A1 A1 A1,d (x-1) (y+1) A1 A1 A1 A1,d x (y+1) A1 A1 A1 A1,d (x+1) (y+1) A1 A1 A1 A1];rw[show((x-1:Nat):Int)+X=x+X-1 by lia,show((y-1:Nat):Int)+Y=y+Y-1 by lia,show((x+1:Nat):Int)+X=x+X+1 by lia,show((y+1:Nat):Int)+Y=y+Y+1 by lia]
noncomputable def wl(W T l:Nat):Nat:=(W+2*T)/2^l+5
noncomputable def Ji(ψ:D_)(l:Nat)(i j:Int):Sht:=λx y=>(ψ ((x:Int)+2^l*i) ((y:Int)+2^l*j):Nat)
theorem MR{α β:Type}(f:α->List β)(m:Nat):∀l:List α,(∀x∈l,(f x).length<=m)->(l.flatMap f).length<=l.length*m
|[],_=>by simp
|a::l,h=>by
 have:=MR f m l λx b=>h x (D9 _ b);have:=h a D8;rw[List.flatMap_cons,C6,F7,T2];lia
theorem UK{l T W t:Nat}{x:Nat}{i X u:Int}(z:x<2^(l+2))(y:t<=T)(r:(x:Int)+2^l*i-t<=u)(s:u<=(x:Int)+2^l*i+t)(v:X<=u)(w:u<X+W):∃d,d<wl W T l/\i=(X-T)/2^l-3+((d:Nat):Int):=by
 have a:(0:Int)<2^l:=by have:=Q8 l;have e:((2^l:Nat):Int)=2^l:=O7 2 l;lia
 have A:((2^(l+2):Nat):Int)=2^l*4:=by rw[O7];show(2:Int)^(l+2)=_;rw[Int.pow_succ,Int.pow_succ];lia
 have n:(((W+2*T)/2^l:Nat):Int)=((W:Int)+2*T)/2^l:=by rw[Int.natCast_ediv,O7];rfl
 generalize k:(2:Int)^l=P at *
 generalize g:(X-T)/P=q;have f:=Int.emod_add_mul_ediv (X-T) P;have h:=N2 (X-T) (Int.ne_of_gt a);have j:=M8 (X-T) a;rw[g]at f;have o:=Int.emod_add_mul_ediv ((W:Int)+2*T) P;have p:=M8 ((W:Int)+2*T) a;generalize m:((W:Int)+2*T)/P=b at *
 have lo:P*(q-4)<P*i:=by rw[Int.mul_sub];lia
 have c:P*i<P*(q+b+2):=by rw[U4,U4];lia
 have lo:=Int.lt_of_mul_lt_mul_left lo (Int.le_of_lt a);have c:=Int.lt_of_mul_lt_mul_left c (Int.le_of_lt a);refine⟨(i-q+3).toNat,?_,by lia⟩;unfold wl;lia
def Kp(r:AA)(φ:D_)(Tt:Nat->Nat->Nat->Prop):KTy:=λl e ψ=>l<47/\((∀x y,x<2^(l+2)->y<2^(l+2)->ψ x y=0)\/∃(t:Nat)(i j:Int),Tt l e t/\∀x y,x<2^(l+2)->y<2^(l+2)->ψ x y=Ji (sFN r t φ) l i j x y)
structure TtC(Tt:Nat->Nat->Nat->Prop):Prop where
c1:∀{l e t},Tt (l+1) e t->e<=l->Tt l e t
c2:∀{l t},Tt (l+1) (l+1) t->Tt l l t
c3:∀{l t},Tt (l+1) (l+1) t->Tt l l (t+2^l)
theorem kp_cl{r:AA}(A:Mh r)(K:Co r 0 Cb=0){φ:D_}{d:Nat->Nat->Nat->Prop}(tc:TtC d):ClK r (Kp r φ d):=by
 have p:∀l,2^(l+1)=2^l*2:=λl=>L7 ..;have w:∀l:Nat,(2:Int)^(l+1)=2^l*2:=λl=>Int.pow_succ ..;have q:∀l,2^(l+2)=2^l*2*2:=λl=>by rw[L7,L7]
 have s:∀l,2^(l+1+2)=2^l*2*2*2:=λl=>by rw[L7,L7,L7]
 have nine:∀{l e k ψ},Kp r φ d (l+1) e ψ->(∀t,d (l+1) e t->d l k t)->∀i j,i<3->j<3->Kp r φ d l k λx y=>ψ (x+2^(l+1)*i) (y+2^(l+1)*j):=λ{l e k ψ} h m i j H I=>by
  have B:2^(l+1)*i<=2^(l+1)*2:=N1 _ A1;have C:2^(l+1)*j<=2^(l+1)*2:=N1 _ A1;have a1:=p l;have a2:=q l;have a3:=s l;refine⟨by have:=h.1;lia,?_⟩;rcases h.2 with z|⟨t,a,g,b,z⟩
  .exact .inl λx y n o=>z _ _ A1 A1
  .refine .inr ⟨t,2*a+2*(i:Int),2*g+2*(j:Int),m t b,λx y n o=>?_⟩;show ψ _ _=_;rw[z _ _ A1 A1];have f:∀(x i:Nat)(a:Int),((x+2^(l+1)*i:Nat):Int)+2^(l+1)*a=(x:Int)+2^l*(2*a+2*(i:Int)):=λx i a=>by
    rw[U0,Int.natCast_mul,O7];show(x:Int)+2^(l+1)*(i:Int)+2^(l+1)*a=_;rw[w,U4,U9,U9];lia
   unfold Ji;rw[f,f]
 refine⟨λh m=>nine h λt b=>tc.c1 b m,λ{l φ} h=>nine h λt b=>tc.c2 b,λ{l ψ} h i j H I=>?_⟩;have B:2^(l+1)*i<=2^(l+1)*1:=N1 _ A1;have C:2^(l+1)*j<=2^(l+1)*1:=N1 _ A1;have a1:=p l;have a2:=q l;have a3:=s l;refine⟨by have:=h.1;lia,?_⟩;rcases h.2 with z|⟨t,a,g,b,z⟩
 .refine .inl λx y n o=>?_;have:=Pi A (c:=ψ) (φ:=λ_ _=>0) (X:=0) (Y:=0) (2^l) (x+(2^(l+1)*i+2^l)) (y+(2^(l+1)*j+2^l)) A1 A1 λu v D E F G=>z u v A1 A1;rw[Nj K]at this;exact this
 .refine .inr ⟨t+2^l,2*a+(2*(i:Int)+1),2*g+(2*(j:Int)+1),tc.c3 b,λx y n o=>?_⟩;have:=Pi A (c:=ψ) (φ:=sFN r t φ) (X:=2^(l+1)*a) (Y:=2^(l+1)*g) (2^l) (x+(2^(l+1)*i+2^l)) (y+(2^(l+1)*j+2^l)) A1 A1 λu v D E F G=>z u v A1 A1;show Bh r (2^l) ψ _ _=_;rw[this,<-SB,Q3];have f:∀(x i:Nat)(a:Int),((x+(2^(l+1)*i+2^l):Nat):Int)+2^(l+1)*a=(x:Int)+2^l*(2*a+(2*(i:Int)+1)):=λx i a=>by
   rw[U0,U0,Int.natCast_mul,O7,O7];show(x:Int)+(2^(l+1)*(i:Int)+2^l)+2^(l+1)*a=_;rw[w,U4,U4,U9,U9,Int.mul_one];lia
  unfold Ji;rw[f,f]
noncomputable def it(f:L_):Nat->Nat->Nat
|0,s=>s
|k+1,s=>f (it f k s)
structure Mp(f:L_):Prop where
z:f 0=0
le:∀s,s<=7->f s<=7
section
variable{f:L_}
theorem VU(n s:Nat):∀m,it f (m+n) s=it f m (it f n s)
|0=>by rw[M5];rfl
|m+1=>by
 rw[show m+1+n=(m+n)+1 by lia];show f (it f (m+n) s)=f (it f m (it f n s));rw[VU n s m]
theorem Mp.it0(h:Mp f):∀k,it f k 0=0
|0=>rfl
|k+1=>by show f (it f k 0)=0;rw[h.it0 k,h.z]
theorem Mp.itl(h:Mp f){s:Nat}(a:s<=7):∀k,it f k s<=7
|0=>a
|k+1=>h.le _ (h.itl a k)
end
def Gl(r:AA)(f:L_)(dx dy:Int):Prop:=∀φ:Int->Int->Nat,(∀x y,φ x y<=7)->∀x y,sF r φ x y=f (φ (x+dx) (y+dy))
theorem SZ{r:AA}{f:L_}{a b:Int}(mp:Mp f)(c:Gl r f a b){φ:D_}(h:∀x y,φ x y<=7):∀(k:Nat)(x y:Int),sFN r k φ x y=it f k (φ (x+k*a) (y+k*b))
|0,x,y=>by
 show φ x y=φ (x+(0:Nat)*a) (y+(0:Nat)*b);rw[show((0:Nat):Int)=0 from rfl,Int.zero_mul,Int.zero_mul,O1,O1]
|k+1,x,y=>by
 have d:=SZ mp c h k;show sF r (sFN r k φ) x y=f (it f k _);rw[c _ (λu v=>by rw[d];exact mp.itl (h _ _) k),d];have e:∀x a:Int,x+a+(k:Int)*a=x+((k+1:Nat):Int)*a:=λx a=>by
  rw[U0,Int.add_mul];lia
 rw[e,e]
theorem UM{a b c d:Nat}(e:a<c)(f:b<d):a+c*b<c*d/\(a+c*b)%c=a/\(a+c*b)/c=b:=by
 refine⟨?_,by rw[S2,Nat.mod_eq_of_lt e],by rw[P8 _ _ A1,Nat.div_eq_of_lt e,M5]⟩;have:c*(b+1)<=c*d:=N1 _ f;rw[U2]at this;lia
noncomputable def wnB(χ:D_)(X Y:Int)(W D l:Nat):List Sht:=(List.range ((W+2^(l+2))*(D+2^(l+2)))).map λd=>λx y=>((χ ((x:Int)+(X-2^(l+2)+((d%(W+2^(l+2)):Nat):Int))) ((y:Int)+(Y-2^(l+2)+((d/(W+2^(l+2)):Nat):Int))):Nat):Int)
theorem wnB_mem{χ:D_}{X Y:Int}{W D l:Nat}(j:∀u v,χ u v≠0->X<=u/\u<X+W/\Y<=v/\v<Y+D){a b:Int}{x y:Nat}(q:x<2^(l+2))(r:y<2^(l+2))(z:χ ((x:Int)+a) ((y:Int)+b)≠0):(λ(x y:Nat)=>((χ ((x:Int)+a) ((y:Int)+b):Nat):Int))∈wnB χ X Y W D l:=by
 obtain⟨k,m,n,o⟩:=j _ _ z;have p:((2^(l+2):Nat):Int)=2^(l+2):=O7 2 (l+2);unfold wnB;rw[<-p];generalize 2^(l+2)=P at *
 obtain⟨e,h⟩:∃d:Nat,a=X-(P:Int)+d:=⟨(a-X+P).toNat,by lia⟩
 obtain⟨f,i⟩:∃d:Nat,b=Y-(P:Int)+d:=⟨(b-Y+P).toNat,by lia⟩
 obtain⟨lt,g,dd⟩:=UM (a:=e) (b:=f) (c:=W+P) (d:=D+P) A1 A1;refine D7.mpr ⟨e+(W+P)*f,J8.mpr lt,?_⟩;rw[g,dd,<-h,<-i]
noncomputable def kw(W D l:Nat):Nat:=wl W 0 l*wl D 0 l
noncomputable def wnA(χ:D_)(X Y:Int)(W D l:Nat):List Sht:=(List.range (kw W D l)).map λd=>Ji χ l (X/2^l-3+((d%wl W 0 l:Nat):Int)) (Y/2^l-3+((d/wl W 0 l:Nat):Int))
theorem wnA_in{χ:D_}{X Y:Int}{W D l:Nat}{i j:Int}{x y:Nat}(m:x<2^(l+2))(n:y<2^(l+2))(f:X<=(x:Int)+2^l*i)(g:(x:Int)+2^l*i<X+W)(h:Y<=(y:Int)+2^l*j)(k:(y:Int)+2^l*j<Y+D):Ji χ l i j∈wnA χ X Y W D l:=by
 obtain⟨c,o,a⟩:=UK (T:=0) (t:=0) (W:=W) (i:=i) (X:=X) (u:=(x:Int)+2^l*i) m (C9 _) A1 A1 f g;obtain⟨d,p,b⟩:=UK (T:=0) (t:=0) (W:=D) (i:=j) (X:=Y) (u:=(y:Int)+2^l*j) n (C9 _) A1 A1 h k;obtain⟨lt,e,dd⟩:=UM o p;refine D7.mpr ⟨c+wl W 0 l*d,J8.mpr lt,?_⟩;have q:∀x:Int,x-((0:Nat):Int)=x:=λx=>Int.sub_zero x;rw[q]at a b;rw[e,dd,<-a,<-b]
def Tq(E l e t:Nat):Prop:=e=min E l/\∃m,m<2^(E-l)/\t=m*2^l
theorem UP{E l t:Nat}(h:Tq E (l+1) (l+1) t):l=min E l/\∃m,m+1<2^(E-l)/\t=m*2^l:=by
 obtain⟨a,m,b,rfl⟩:=h;refine⟨by lia,2*m,?_,by rw[L7,<-U7,V5 2 m,Nat.mul_right_comm]⟩;rw[show E-l=E-(l+1)+1 by lia,L7];lia
theorem tq_c(E:Nat):TtC (Tq E):=by
 refine⟨λ{l e t} h d=>?_,λ{l t} h=>?_,λ{l t} h=>?_⟩
 .obtain⟨a,m,b,rfl⟩:=h;rw[show E-(l+1)=0 by lia]at b;obtain rfl:m=0:=by lia
  exact⟨by lia,0,Q8 _,by rw[V4,V4]⟩
 .obtain⟨a,m,b,c⟩:=UP h;exact⟨a,m,by lia,c⟩
 .obtain⟨a,m,b,rfl⟩:=UP h;exact⟨a,m+1,b,(T2 _ _).symm⟩
noncomputable def mq(E:Nat)(c:L_)(e:Nat):Nat:=((List.range 47).map λl=>1+if e=min E l then c l else 0).sum
def Lv(l:Nat)(ψ:Sht):Prop:=∃x y,x<2^(l+2)/\y<2^(l+2)/\ψ x y≠0
theorem Wb{r:AA}{φ:D_}{E N:Nat}(c:L_)(s:s47 (mq E c)<=N)(k:∀l,∃n:List Sht,n.length<=c l/\∀m i j,m<2^(E-l)->Lv l (Ji (sFN r (m*2^l) φ) l i j)->∃ψ∈n,UE l (Ji (sFN r (m*2^l) φ) l i j) ψ):GC (Kp r φ (Tq E)) N:=by
 refine⟨⟨mq E c,s,λe=>⟨(List.range 47).flatMap λl=>(l,λ_ _=>0)::if e=min E l then(k l).choose.map fun ψ=>(l,ψ)else [],NN _ _ _ λl _=>?_,λl ψ h=>?_⟩⟩,λ{l e A ψ} h q=>⟨h.1,?_⟩⟩
 .rw[F7];split
  .rw[B8];have:=(k l).choose_spec.1;lia
  .exact C9 1
 .obtain⟨f,h⟩:=h;by_cases z:∀x y,x<2^(l+2)->y<2^(l+2)->ψ x y=0
  .exact⟨λ_ _=>0,Q4.mpr ⟨l,J8.mpr f,D8⟩,z⟩
  .rcases h with h|⟨t,i,j,⟨o,m,u,rfl⟩,h⟩
   .exact absurd h z
   .have w:Lv l (Ji (sFN r (m*2^l) φ) l i j):=X9 λno=>z λx y a b=>X9 λq=>no ⟨x,y,a,b,by rw[<-h x y a b];exact q⟩;obtain⟨g,p,d⟩:=(k l).choose_spec.2 m i j u w;exact⟨g,Q4.mpr ⟨l,J8.mpr f,D9 _ (by rw[W9 o];exact D7.mpr ⟨g,p,Z⟩)⟩,λx y a b=>(h x y a b).trans (d x y a b)⟩
 .rcases h.2 with d|⟨t,i,j,v,d⟩
  .exact .inl λx y a b=>(q x y a b).symm.trans (d x y a b)
  .exact .inr ⟨t,i,j,v,λx y a b=>(q x y a b).symm.trans (d x y a b)⟩
def InA(k W:Nat)(χ:D_):Prop:=∃As:List (Int×Int),As.length<=k/\∀u v,χ u v≠0->∃q∈As,q.1<=u/\u<q.1+W/\q.2<=v/\v<q.2+W
theorem InA.ws{k W:Nat}{χ:D_}(h:InA k W χ)(l:Nat):∃b:List Sht,b.length<=k*kw W W l/\∀i j,Lv l (Ji χ l i j)->Ji χ l i j∈b:=by
 obtain⟨a,g,m⟩:=h;refine⟨a.flatMap λq=>wnA χ q.1 q.2 W W l,?_,λi j ⟨x,y,o,p,z⟩=>?_⟩
 .have:=MR (λq:Int×Int=>wnA χ q.1 q.2 W W l) (kw W W l) a λq _=>by unfold wnA;rw[B8,M0];exact C9 _
  exact D4 this (Nat.mul_le_mul_right _ g)
 .obtain⟨q,n,c,d,e,f⟩:=m _ _ (λq=>z (by unfold Ji;rw[q];rfl));exact Q4.mpr ⟨q,n,wnA_in o p c d e f⟩
theorem ws_t{r:AA}{φ:D_}{k W:Nat}(l:Nat)(a:J_)(h:∀t∈a,InA k W (sFN r t φ)):∃b:List Sht,b.length<=a.length*(k*kw W W l)/\∀t∈a,∀i j,Lv l (Ji (sFN r t φ) l i j)->Ji (sFN r t φ) l i j∈b:=by
 induction a with
 |nil=>exact⟨[],L5 _,λt d=>nomatch d⟩
 |cons t a n =>
  obtain⟨b,p,m⟩:=n λt d=>h t (D9 _ d);obtain⟨f,o,g⟩:=(h t D8).ws l;refine⟨f++b,by rw[C6,F7,T2];lia,λs c i j e=>D3.mpr ?_⟩;rcases D1.mp c with rfl|c
  .exact .inl (g i j e)
  .exact .inr (m s c i j e)
theorem Tf {r:AA} {φ:D_} {E N k W:Nat} (f:s47 (mq E λl=>2^(E-l)*(k*kw W W l))<=N) (h:∀t,t<2^E->InA k W (sFN r t φ)):GC (Kp r φ (Tq E)) N:=by
 refine Wb _ f λl=>?_;obtain⟨c,b,e⟩:=ws_t l ((List.range (2^(E-l))).map λm=>m*2^l) (k:=k) (W:=W) (r:=r) (φ:=φ) λt g=>by
  obtain⟨m,a,rfl⟩:=D7.mp g;have a:=J8.mp a;by_cases d:l<=E
  .refine h _ ?_;have:2^E=2^(E-l)*2^l:=by rw[<-Nat.pow_add,Nat.sub_add_cancel d]
   rw[this];exact Nat.mul_lt_mul_of_pos_right a (Q8 _)
  .rw[show E-l=0 by lia]at a;obtain rfl:m=0:=by lia
   rw[V4];exact h 0 (Q8 _)
 rw[B8,M0]at b;exact⟨c,b,λm i j a n=>⟨_,e _ (D7.mpr ⟨m,J8.mpr a,Z⟩) i j n,λ_ _ _ _=>Z⟩⟩
theorem OL {r:AA} {φ:D_} {E N k W p:Nat} (n:s47 (mq E λl=>p*(k*kw W W l))<=N) (b:∀t,∃t',t'<p/\sFN r t φ=sFN r t' φ) (h:∀t,t<p->InA k W (sFN r t φ)):GC (Kp r φ (Tq E)) N:=by
 refine Wb _ n λl=>?_;obtain⟨f,c,g⟩:=ws_t l (List.range p) (k:=k) (W:=W) (r:=r) (φ:=φ) λt a=>h t (J8.mp a);rw[M0]at c;refine⟨f,c,λm i j o d=>?_⟩;obtain⟨t',a,e⟩:=b (m*2^l);rw[e]at d⊢;exact⟨_,g t' (J8.mpr a) i j d,λ_ _ _ _=>Z⟩
theorem fin_far {r:AA} {φ:D_} {E N W p:Nat} (B:s47 (mq E λl=>if l<4 then p*((W+2^(l+2))*(W+2^(l+2)))else 2^(E-l)*(1*kw W W l))<=N) (X Y:Nat->Int) (h:∀t u v,sFN r t φ u v≠0->X t<=u/\u<X t+W/\Y t<=v/\v<Y t+W) (d:∀t,∃t',t'<p/\∃a b:Int,∀u v,sFN r t φ u v=sFN r t' φ (u+a) (v+b)):GC (Kp r φ (Tq E)) N:=by
 refine Wb _ B λl=>?_;by_cases o:l<4
 .rw[W9 o];refine⟨(List.range p).flatMap λt=>wnB (sFN r t φ) (X t) (Y t) W W l,?_,λm i j g c=>?_⟩
  .have:=MR (λt=>wnB (sFN r t φ) (X t) (Y t) W W l) ((W+2^(l+2))*(W+2^(l+2))) (List.range p) λt _=>by unfold wnB;rw[B8,M0];exact C9 _
   rw[M0]at this;exact this
  .obtain⟨t',n,a,b,e⟩:=d (m*2^l);obtain⟨x,y,C,D,z⟩:=c;have w:Ji (sFN r (m*2^l) φ) l i j=λ(x y:Nat)=>((sFN r t' φ ((x:Int)+(2^l*i+a)) ((y:Int)+(2^l*j+b)):Nat):Int):=by
    funext x y
    unfold Ji;rw[e,Int.add_assoc,Int.add_assoc]
   rw[w]at z⊢;exact⟨_,Q4.mpr ⟨t',J8.mpr n,wnB_mem (h t') C D (λq=>z (by dsimp only;rw[q];rfl))⟩,λ_ _ _ _=>Z⟩
 .rw[W4 o];obtain⟨s,f,A⟩:=ws_t l ((List.range (2^(E-l))).map λm=>m*2^l) (k:=1) (W:=W) (r:=r) (φ:=φ) λt n=>⟨[(X t,Y t)],C9 _,λu v z=>⟨_,C8.mpr Z,h t u v z⟩⟩
  rw[B8,M0]at f;exact⟨s,f,λm i j g c=>⟨_,A _ (D7.mpr ⟨m,J8.mpr g,Z⟩) i j c,λ_ _ _ _=>Z⟩⟩
theorem nq_c:∀E,E<8->s47 (mq E λl=>2^(E-l)*(2*kw 2 2 l))<=60000:=by decide +kernel
theorem nq_b:∀E,E<14->s47 (mq E λl=>if l<4 then 8*((2+2^(l+2))*(2+2^(l+2)))else 2^(E-l)*(1*kw 2 2 l))<=60000:=by decide +kernel
theorem nq_d:∀E,E<3->s47 (mq E λl=>2^(E-l)*(2*kw 10 10 l))<=60000:=by decide +kernel
theorem nq_a:∀E,E<47->s47 (mq E λl=>2*(2*kw 2 2 l))<=60000:=by decide +kernel
seal L2.PA L2.PE L2.PS L2.PSs L2.PT L2.PW
noncomputable def MB(M:L_)(w s:Nat):LC4:=if w=8 then⟨(s:Int),[],[],(M s:Int)⟩else⟨8,[],[((w:Int),(s:Int))],(M s:Int)⟩
noncomputable def gl4(M:L_)(w:Nat):List LC4:=(List.range 8).map (MB M w)
theorem RQ{M:L_}(f:∀s,M s<=7){w:Nat}(g:w<=8):Lz (gl4 M w):=by
 refine⟨by unfold gl4;rw[B8,M0];decide,λc e=>?_⟩;obtain⟨s,b,rfl⟩:=D7.mp e;have b:=J8.mp b;have d:DC (M s:Int):=⟨by lia,by have:=f s;lia⟩
 unfold MB;split
 .exact⟨⟨by lia,by lia⟩,(λp a=>nomatch a),L5 _,(λp a=>nomatch a),.nil,d⟩
 .refine⟨⟨by show(0:Int)<=8;decide,by show(8:Int)<=8;decide⟩,(λp a=>nomatch a),L5 _,λp a=>?_,List.pairwise_singleton _ _,d⟩;rw[C8.mp a];exact⟨⟨by lia,by lia⟩,⟨by lia,by lia⟩⟩
theorem UJ{w:Nat}(a:w<8)(k a0 a1 a2 a3 a4 a5 a6 a7:Int):(BE.pl (Da [((w:Int),k)])).holds [a0,a1,a2,a3,a4,a5,a6,a7]=decide (k=[a0,a1,a2,a3,a4,a5,a6,a7].getD w 0):=by
 match w,a with
 |0,_=>simp[BE.holds,Da,Cc,M9,List.find?]
 |1,_=>simp[BE.holds,Da,Cc,M9,List.find?]
 |2,_=>simp[BE.holds,Da,Cc,M9,List.find?]
 |3,_=>simp[BE.holds,Da,Cc,M9,List.find?]
 |4,_=>simp[BE.holds,Da,Cc,M9,List.find?]
 |5,_=>simp[BE.holds,Da,Cc,M9,List.find?]
 |6,_=>simp[BE.holds,Da,Cc,M9,List.find?]
 |7,_=>simp[BE.holds,Da,Cc,M9,List.find?]
theorem find8{C:Nat->Bc}{p:Bc->Bool}{v:Nat}(c:v<=7)(b:∀k,k<8->p (C k)=decide (k=v)):((List.range 8).map C).find? p=some (C v):=by
 have e:(List.range 8).map C=C 0::C 1::C 2::C 3::C 4::C 5::C 6::C 7::[]:=rfl;rw[e];have q:∀(k:Nat)(K:List Bc),k<8->(C k::K).find? p=if k=v then some (C k)else K.find? p:=λk K a=>by
  rw[O0,b k a];by_cases z:k=v
  .rw[W9 z,W1 z]
  .rw[W4 z,W3 z]
 rw[q 0 _ A3,q 1 _ A3,q 2 _ A3,q 3 _ A3,q 4 _ A3,q 5 _ A3,q 6 _ A3,q 7 _ A3]
 match v,c with
 |0,_|1,_|2,_|3,_|4,_|5,_|6,_|7,_=>rfl
theorem Ta(M:L_){w v:Nat}(d:v<=7){c a0 a1 a2 a3 a4 a5 a6 a7:Int}(e:(w=8/\c=v)\/(w<8/\[a0,a1,a2,a3,a4,a5,a6,a7].getD w 0=(v:Int))):Co ((gl4 M w).map LC4.a) c [a0,a1,a2,a3,a4,a5,a6,a7]=(M v:Int):=by
 unfold Co gl4;rw[N9,find8 (C:=LC4.a ∘ MB M w) d λk f=>?_]
 .show(MB M w v).ms=_;unfold MB;split<;>rfl
 .show((MB M w k).a.fits c _)=_;unfold MB;rcases e with ⟨rfl,rfl⟩|⟨b,e⟩
  .rw[W9 rfl];unfold LC4.a Bc.fits;dsimp only;rw[W4 (show ¬(k:Int)=8 by lia)];show(decide ((k:Int)=(v:Int)) && true)=_;rw[Bool.and_true];exact decide_eq_decide.mpr A1
  .rw[W4 A1];show(true && ((BE.pl (Da [((w:Int),(k:Int))])).holds _ && true))=_;rw[UJ b,e,Bool.true_and,Bool.and_true];exact decide_eq_decide.mpr A1
noncomputable def ofX:Nat->Int
|0=>-1|1=>0|2=>1|3=>-1|4=>1|5=>-1|6=>0|7=>1|_=>0
noncomputable def ofY:Nat->Int
|0=>-1|1=>-1|2=>-1|3=>0|4=>0|5=>1|6=>1|7=>1|_=>0
theorem RS(M:L_){w:Nat}(d:w<=8):Gl ((gl4 M w).map LC4.a) M (ofX w) (ofY w):=fun φ c x y=>by
 unfold sF;rw[Ta M (v:=φ (x+ofX w) (y+ofY w)) (c _ _) ?_,N3];by_cases z:w=8
 .subst z;refine .inl ⟨Z,?_⟩;show((φ x y:Nat):Int)=(φ (x+0) (y+0):Nat)
  rw[O1,O1]
 .have b:w<8:=by lia
  refine .inr ⟨b,?_⟩
  match w,b with
  |0,_=>rfl
  |1,_=>show((φ x (y-1):Nat):Int)=(φ (x+0) (y-1):Nat);rw[O1]
  |2,_=>rfl
  |3,_=>show((φ (x-1) y:Nat):Int)=(φ (x-1) (y+0):Nat);rw[O1]
  |4,_=>show((φ (x+1) y:Nat):Int)=(φ (x+1) (y+0):Nat);rw[O1]
  |5,_=>rfl
  |6,_=>show((φ x (y+1):Nat):Int)=(φ (x+0) (y+1):Nat);rw[O1]
  |7,_=>rfl
theorem NK{M:L_}(d:M 0=0){w:Nat}(e:w<=8):Co ((gl4 M w).map LC4.a) 0 Cb=0:=by
 have:=Ta M (w:=w) (v:=0) (c:=0) (a0:=0) (a1:=0) (a2:=0) (a3:=0) (a4:=0) (a5:=0) (a6:=0) (a7:=0) A3 (by
  by_cases z:w=8
  .exact .inl ⟨z,Z⟩
  .have b:w<8:=by lia
   refine .inr ⟨b,?_⟩
   match w,b with
   |0,_|1,_|2,_|3,_|4,_|5,_|6,_|7,_=>rfl)
 rw[d]at this;exact this
section
variable{P:N_}{w:Q_}{K:O_}{mg:C_}{base:T_}{a:Ad}
structure MpS(so:Nat)(M:L_):Prop where
z:M 0=0
le:∀s,M s<=7
dn:so=1->∀s,s<=7->M s<=s
id:so=2->∀s,s<=7->M s=0\/M s=s
inductive SpMb(K:O_)(vs:List V)(H:Hp)(Q:VK):Prop
|mk (l:R_) (ns:I_) (so:Nat) (_:vs=[.ref l,.int (so:Int)]) (_:SqL K H l (ns.map V.int)) (_:so<=2) (_:∀(L:R_)(M:L_)(H':Hp),Az H H'->MpS so M->H' L=some (.lst ((List.range 8).map λi=>V.int (M i:Int)))->Q (.ref L) H'):SpMb K vs H Q
def spMb(K:O_):Sp:=λvs H Q _=>SpMb K vs H Q
theorem ok_mb(F:Fun K "_law_map_by" "_law_map_by" Gc f fd)(T:Top K mg a)(R:Cal P w K mg base CX0 1 "_law_at" Uc (TJ K)):AT P w K mg base CX0 2 f fd Gp (spMb K):=by
 refine F.ok DF D_9 λS A C s H vs Q E hr h=>?_
 obtain⟨l,c,d,rfl,Y,aa,k⟩:=h;refine⟨_,(Ae (Av (i:=2) DF.nd Z O_9 (Bq (AJ Ab))) (Ae (BQ Y5 Z (LM Z T.b_range (AJ (AJ Ab))) (AN (i:=3) DF.nd Z O_9) (Ae (Av (i:=4) DF.nd Z O_9 (AB R (rm hr) Z Ao (Aa (pv 0) (BI Be Ac (pv 3) Ab)))) (Af (AS (AF Ci (pv 1) Ac (AI _)) (Af (Ba (Cf W5 W6 W7 Bd (pv 2) (BI AZ (pv 4) Ac Ab)))) (Af (AS (AF Ci (pv 1) Ac (AI _)) (Af (Ba (Cf W5 W6 W7 Bd (pv 2) (BI AZ (pv 4) (AG Be (pv 3) Ac) Ab)))) (Af (Ba (Cf W5 W6 W7 Bd (pv 2) (BI Py (AG AZ (pv 4) Ac) (pv 3) Ab)))))))))) (Af (Ax (pv 2))))),?_⟩
 try dsimp only[cxK]
 refine⟨S_1,λL I=>?_⟩;generalize D:upd H L _=H1;obtain⟨O,X⟩:=alc I D;clear D;generalize r:(λs:Nat=>if s=0\/7<s then 0 else if d=0 then(atN c (5+(s:Int))%8).toNat else if d=1 then(atN c (5+(s:Int))%((s:Int)+1)).toNat else(atN c (5+(s:Int))%2*(s:Int)).toNat)=M;refine⟨1,8,Z,⟨by decide,by decide,by decide,by decide⟩,?_⟩;refine CM (n:=7) (λi σ m=>∃t u:Option V,σ=[some (.ref l),some (.int (d:Int)),some (.ref L),t,u]/\Az H m/\m L=some (.lst ((List.range (i+1)).map λj=>V.int (M j:Int)))) ⟨none,none,Z,O,by rw[X,<-r];rfl⟩ ?_ ?_
 .rintro i σ m hi ⟨t,u,rfl,x,g⟩;have put:∀v:Int,v=(M (i+1):Int)->∃t u:Option V,[some (V.ref l),some (.int (d:Int)),some (.ref L),some (.int (1+(i:Int))),some (.int (atN c (5+(1+(i:Int)))))]=[some (V.ref l),some (.int (d:Int)),some (.ref L),t,u]/\Az H (upd m L (.lst (((List.range (i+1)).map λj=>V.int (M j:Int))++[.int v])))/\upd m L (.lst (((List.range (i+1)).map λj=>V.int (M j:Int))++[.int v])) L=some (.lst ((List.range (i+1+1)).map λj=>V.int (M j:Int))):=λv W=>⟨_,_,Z,λb o e=>by rw[Ar (Aj e I)];exact x _ _ e,by rw[Ag,M9 (n:=i+1),C0,W];rfl⟩
  have p:M (i+1)=if d=0 then(atN c (5+(1+(i:Int)))%8).toNat else if d=1 then(atN c (5+(1+(i:Int)))%(1+(i:Int)+1)).toNat else(atN c (5+(1+(i:Int)))%2*(1+(i:Int))).toNat:=by
   rw[<-r];dsimp only;rw[W4 A1,show((i+1:Nat):Int)=1+(i:Int) by lia]
  have B:((List.range (i+1)).map λj=>V.int (M j:Int)).length<sizeLine:=by rw[B8,M0];exact Jr A1
  refine AO ?_;intro r1 O k1 y E1;refine xw2 Z Z (xq2 Z Z ⟨l,c,_,Z,x.seq Y,by lia,y ?_⟩);refine xq1 Z ⟨Z,(xq1 Z (FG (λq=>?_) (λq=>?_)))⟩
  .have U:d=0:=by
    have:=Z0 q;injection this with this
    lia
   refine xq1 Z ⟨.inl ⟨Z,_,SqL.of g⟩,(xwb Z Z Z ⟨B2,⟨L,(xq2 Z Z ⟨g,B,put _ ?_⟩)⟩⟩)⟩;rw[p,W9 U];lia
  .have N:¬d=0:=λz=>q (W1 (by rw[z];rfl));refine xq1 Z ⟨Z,(xq1 Z (FG (λq=>?_) (λq=>?_)))⟩
   .have G:d=1:=by
     have:=Z0 q;injection this with this
     lia
    refine xq1 Z ⟨.inl ⟨Z,_,SqL.of g⟩,(xw2 Z Z (xq2 Z Z (xq2 Z Z ⟨A1,⟨L,(xq2 Z Z ⟨g,B,put _ ?_⟩)⟩⟩)))⟩;rw[p,W4 N,W9 G,S0 (N2 _ A1)]
   .have n1:¬d=1:=λz=>q (W1 (by rw[z];rfl));refine xq1 Z ⟨.inl ⟨Z,_,SqL.of g⟩,(xwb Z Z Z ⟨B7,(xq1 Z (xq2 Z Z ⟨.inl ⟨by lia,by lia⟩,⟨L,(xq2 Z Z ⟨g,B,put _ ?_⟩)⟩⟩))⟩)⟩;rw[p,W4 N,W4 n1,S0 (Int.mul_nonneg A1 A1)]
 .rintro σ m ⟨t,u,rfl,x,g⟩;refine xq1 Z (k L M m x ⟨by rw[<-r];rfl,λs=>?_,λG s hs=>?_,λe2 s hs=>?_⟩ g)
  .rw[<-r];dsimp only;split
   .exact L5 _
   .split
    .lia
    .split
     .have:=M8 (atN c (5+(s:Int))) (show 0<(s:Int)+1 by lia);lia
     .have:atN c (5+(s:Int))%2=0\/atN c (5+(s:Int))%2=1:=by lia
      rcases this with e|e<;>rw[e]<;>lia
  .rw[<-r];dsimp only;split
   .exact L5 _
   .rw[W4 (show ¬d=0 by lia)];have:=M8 (atN c (5+(s:Int))) (show 0<(s:Int)+1 by lia);lia
  .rw[<-r];dsimp only;split
   .exact .inl Z
   .rw[W4 (show ¬d=0 by lia),W4 (show ¬d=1 by lia)];have:atN c (5+(s:Int))%2=0\/atN c (5+(s:Int))%2=1:=by lia
    rcases this with e|e<;>rw[e]
    .left;lia
    .right;lia
end
noncomputable def IV(H:Hp)(C:R_):Hp:=λb=>if b=C then none else H b
theorem Qb(H:Hp)(C:R_):Az (IV H C) H:=λb o e=>by
 unfold IV at e;split at e
 .cases e
 .exact e
theorem OJ{H a:Hp}{C:R_}(s:Az H a):Az (IV H C) (IV a C):=λb o e=>by
 unfold IV at e⊢;split at e
 .cases e
 .rename_i n;rw[W4 n];exact s _ _ e
theorem EV{H:Hp}{C b:R_}{o:HO}(e:H b=some o)(n:b≠C):IV H C b=some o:=by
 unfold IV;rw[W4 n];exact e
theorem QW(H:Hp)(C:R_)(o:HO):IV (upd H C o) C=IV H C:=by
 funext b
 unfold IV;split
 .rfl
 .rename_i n;rw[Ar n]
section
variable{P:N_}{w:Q_}{K:O_}{mg:C_}{base:T_}{a:Ad}
inductive SpGl(K:O_)(vs:List V)(H:Hp)(Q:VK):Prop
|mk (l:R_) (ns:I_) (so w:Nat) (_:vs=[.ref l,.int (so:Int),.int (w:Int)]) (_:SqL K H l (ns.map V.int)) (_:so<=2) (_:w<=8) (_:∀(q:R_)(M:L_)(H':Hp),Az H H'->MpS so M->EO H' q (gl4 M w)->Q (.ref q) H'):SpGl K vs H Q
def spGl(K:O_):Sp:=λvs H Q _=>SpGl K vs H Q
theorem ok_gl(F:Fun K "_law_gliding" "_law_gliding" Fj f fd)(T:Top K mg a)(bT:Cal P w K mg base CX0 2 "_law_map_by" Gp (spMb K)):AT P w K mg base CX0 3 f fd Fz (spGl K):=by
 refine F.ok Dl D_9 λah A af s H vs Q E hr h=>?_
 obtain⟨l,ns,so,w,rfl,hS,ag,w8,k⟩:=h;refine⟨_,(Ae (Av (i:=3) Dl.nd Z O_9 (Bq Ab)) (Ae (BQ Y5 Z (Ps false Z T.b_enumerate (Aa (AB bT (rm hr) Z Ao (Aa (pv 0) (Aa (pv 1) Ab))) Ab)) (EJ Z (AX (AN (i:=4) Dl.nd Z O_9) (AX (AN (i:=5) Dl.nd Z O_9) Dm))) (Af (AS (AF Ci (pv 2) Ac (AI _)) (Af (Ba (Cf W5 W6 W7 Bd (pv 3) (BC (Aa (pv 4) (Gi Ab (Gi Ab (Aa (pv 5) Ab)))) Ab)))) (Af (Ba (Cf W5 W6 W7 Bd (pv 3) (BC (AJ (Gi Ab (Gi (BC (Aa (pv 2) (Aa (pv 4) Ab)) Ab) (Aa (pv 5) Ab)))) Ab))))))) (Af (Ax (pv 3))))),?_⟩
 try dsimp only[cxK]
 refine AO ?_;intro r1 ai k1 ac E1;refine⟨S_0,λC hC=>ac ?_⟩;generalize b9:upd H C _=H1;obtain⟨s1,h1⟩:=alc hC b9;clear b9;refine AO ?_;intro r2 s2 k2 ad E2;refine xw2 Z Z ⟨l,ns,so,Z,s1.seq hS,ag,λL M H2 aa ms u=>?_⟩;have O:=aa _ _ h1;have ae:L≠C:=λz=>by
  rw[z,O]at u;injection u with u
  injection u with u
  cases u
 refine⟨L,Z,⟨_,SqL.of u⟩,?_⟩;refine NM (b:=false) (xs:=(List.range 8).map λi=>V.int (M i:Int)) (λi σ g=>∃(r:H_)(u4 u5:Option V),σ=[some (.ref l),some (.int (so:Int)),some (.int (w:Int)),some (.ref C),u4,u5]/\Az (IV H2 C) (IV g C)/\g C=some (.lst (r.map V.ref))/\Paired (FK (IV g C)) r ((List.range i).map (MB M w))) ⟨[],none,none,Z,Az.refl _,O,.nil⟩ (λi σ g _ z=>by obtain⟨_,_,_,_,sy,_⟩:=z;exact SqL.of (Qb _ _ _ _ (sy _ _ (EV u ae)))) ?_ ?_
 .rintro i v σ g TT ev ⟨r,u4,u5,rfl,sy,d,W⟩ nT;have hi:i<8:=by have:=(B9.mp ev).1;rw[B8,M0]at this;exact this
  rw[C7,O4 hi]at ev;cases ev;have lt:r.length=i:=by rw[Y4 W,B8,M0]
  have ll:(r.map V.ref).length<sizeLine:=by rw[B8,lt];exact Jr A1
  generalize dC:upd g TT _=HT;obtain⟨p,hT⟩:=alc nT dC;clear dC;refine Lk hT ?_;have fin:∀(q:R_)(G:Hp),Az g G->FK (IV G C) q (MB M w i)->∃(ab:H_)(u4 u5:Option V),[some (V.ref l),some (V.int (so:Int)),some (V.int (w:Int)),some (V.ref C),some (V.int (i:Int)),some (V.int (M i:Int))]=[some (V.ref l),some (V.int (so:Int)),some (V.int (w:Int)),some (V.ref C),u4,u5]/\Az (IV H2 C) (IV (upd G C (.lst (r.map V.ref++[.ref q]))) C)/\upd G C (.lst (r.map V.ref++[.ref q])) C=some (.lst (ab.map V.ref))/\Paired (FK (IV (upd G C (.lst (r.map V.ref++[.ref q]))) C)) ab ((List.range (i+1)).map (MB M w)):=λq G sx lc=>by
   refine⟨r++[q],_,_,Z,?_,?_,?_⟩
   .rw[QW];exact sy.trans (OJ sx)
   .rw[Ag,C0];rfl
   .rw[QW,M9,C0];exact Z5 (Paired.imp (λt c z=>z.same (OJ sx)) W) lc
  refine xq1 Z ⟨Z,(xq1 Z (FG (λhc=>?_) (λhc=>?_)))⟩
  .have e8:w=8:=by
    have:=Z0 hc;injection this with this
    lia
   subst e8;refine xq1 Z ⟨.inl ⟨Z,_,SqL.of (p _ _ d)⟩,(xq1 Z ⟨S_0,λS j=>?_⟩)⟩;show _/\_;generalize cD:upd HT S _=H3;obtain⟨y,h3⟩:=alc j cD;refine⟨S_0,λU m=>(xq1 Z ⟨S_4,λq D=>?_⟩)⟩;show ∃_,_;generalize cP:upd H3 U _=H4 at D⊢;obtain⟨I,h4⟩:=alc m cP;generalize cE:upd H4 q _=H5;obtain⟨N,h5⟩:=alc D cE;have X:=I.trans N;have n:=(p.trans y).trans X;have x:∀{b:R_}{B:Hp},B b=none->Az g B->b≠C:=λ{b B} e s z=>by rw[z,s _ _ d]at e;cases e
   refine⟨C,_,_,Z,Z,n _ _ d,ll,fin q H5 n ?_⟩;unfold MB;rw[W9 rfl];exact⟨S,U,[],[],EV h5 (x D ((p.trans y).trans I)),EV (X _ _ h3) (x j p),.nil,EV (N _ _ h4) (x m (p.trans y)),.nil⟩
  .have n8:w≠8:=λz=>hc (W1 (by rw[z];rfl));refine xq1 Z ⟨.inl ⟨Z,_,SqL.of (p _ _ d)⟩,⟨S_0,λS j=>?_⟩⟩;show ∃_,_;generalize cD:upd HT S _=H3;obtain⟨y,h3⟩:=alc j cD;refine xw2 Z Z ⟨S_2,λtp R=>?_⟩;show _/\_;generalize cW:upd H3 tp _=H6;obtain⟨s6,h6⟩:=alc R cW;refine⟨S_1,λU m=>(xq1 Z ⟨S_4,λq D=>?_⟩)⟩;show ∃_,_;generalize cP:upd H6 U _=H4 at D⊢;obtain⟨I,h4⟩:=alc m cP;generalize cE:upd H4 q _=H5;obtain⟨N,h5⟩:=alc D cE;have Y:=s6.trans (I.trans N);have n:=(p.trans y).trans Y;have x:∀{b:R_}{B:Hp},B b=none->Az g B->b≠C:=λ{b B} e s z=>by rw[z,s _ _ d]at e;cases e
   refine⟨C,_,_,Z,Z,n _ _ d,ll,fin q H5 n ?_⟩;unfold MB;rw[W4 n8];exact⟨S,U,[],[tp],EV h5 (x D (((p.trans y).trans s6).trans I)),EV (Y _ _ h3) (x j p),.nil,EV (N _ _ h4) (x m ((p.trans y).trans s6)),.cons (EV ((I.trans N) _ _ h6) (x R (p.trans y))) .nil⟩
 .rintro σ g ⟨r,u4,u5,rfl,sy,d,W⟩;refine ad (xq1 Z ?_);rw[B8,M0]at W;exact k C M g (λb o e=>Qb _ _ _ _ (sy _ _ (EV (aa _ _ (s1 _ _ e)) (Aj e hC)))) ms ⟨r,d,Paired.imp (λt c z=>z.same (Qb _ _)) W⟩
end
end J
namespace J
open PySem L2
theorem MZ{G:Gv}:∀{l n:Nat},Sol G 0 l n->∀x y,AM G l n x y=0
|0,n,h,x,y=>by
 have h:n=0:=h;subst h;rfl
|l+1,n,h,x,y=>by
 obtain⟨m,c,d⟩:=h;obtain⟨g,i,j,k⟩:=Cw d;have f:=MZ c x y;have e:qO G n (x/2^l%2+2*(y/2^l%2))=m:=by
  have a:x/2^l%2=0\/x/2^l%2=1:=by lia
  have b:y/2^l%2=0\/y/2^l%2=1:=by lia
  rcases a with a|a<;>rcases b with b|b<;>rw[a,b]<;>assumption
 show((cel G l (qO G n (x/2^l%2+2*(y/2^l%2))) x y:Nat):Int)=0;rw[e];exact f
def Blk(G:Gv)(l n c:Nat):Prop:=∃As:List (Nat×Nat),As.length<=c/\∀x y,x<2^l->y<2^l->AM G l n x y≠0->∃q∈As,q.1<=x/\x<q.1+2/\q.2<=y/\y<q.2+2
theorem Blk.goes{G a:Gv}{i l n c:Nat}(ok:GOk G)(d:AR G a i)(g:An G n (l:Int))(h:Blk G l n c):Blk a l n c:=by
 obtain⟨b,e,f⟩:=h;exact⟨b,e,by rw[AQ ok d g];exact f⟩
theorem LD{k x:Nat}(h:x<2^(k+1)):∃u i,u<2^k/\i<2/\x=u+2^k*i:=⟨x%2^k,x/2^k,V0 _ (Q8 _),P7 (by rw[L7]at h;exact h),(T8 _ _).symm⟩
theorem Blk.join{G:Gv}{k n m c:Nat}(h:Blk G k n c)(ps:J_)(a:∀p,p<4->(p∈ps/\qO G m p=n)\/∀x y,AM G k (qO G m p) x y=0):Blk G (k+1) m (ps.length*c):=by
 obtain⟨f,g,l⟩:=h;refine⟨ps.flatMap λp=>f.map λq=>(q.1+2^k*(p%2),q.2+2^k*(p/2)),?_,λx y t w z=>?_⟩
 .refine D4 (MR _ c ps λp _=>?_) (C9 _);rw[B8];exact g
 .obtain⟨u,i,b,o,rfl⟩:=LD t;obtain⟨v,j,d,r,rfl⟩:=LD w;rw[Ja G k m b d o r]at z;rcases a (i+2*j) A1 with ⟨s,e⟩|A
  .rw[e]at z;obtain⟨q,a,B,C,D,E⟩:=l u v b d z;refine⟨_,Q4.mpr ⟨_,s,D7.mpr ⟨q,a,Z⟩⟩,?_⟩;rw[show(i+2*j)%2=i by lia,show(i+2*j)/2=j by lia];exact⟨by lia,by lia,by lia,by lia⟩
  .exact absurd (A u v) z
theorem Blk.wide{G:Gv}{l n m c:Nat}(h:Blk G (l+1) n c)(s:∀i j b d,i<2->j<2->b<2->d<2->(b=1-i/\d=1-j/\qO G (qO G m (i+2*j)) (b+2*d)=qO G n (i+2*j))\/∀x y,AM G l (qO G (qO G m (i+2*j)) (b+2*d)) x y=0):Blk G (l+2) m c:=by
 obtain⟨B,C,D⟩:=h;refine⟨B.map λq=>(q.1+2^l,q.2+2^l),by rw[B8];exact C,λx y E F z=>?_⟩;obtain⟨u,i,w,a,rfl⟩:=LD E;obtain⟨v,j,A,r,rfl⟩:=LD F;rw[Ja G (l+1) m w A a r]at z;obtain⟨H,b,k,f,rfl⟩:=LD w;obtain⟨I,d,o,g,rfl⟩:=LD A;rw[Ja G l _ k o f g]at z;rcases s i j b d a r f g with ⟨rfl,rfl,e⟩|K
 .rw[e,<-Ja G l n k o a r]at z;have p:2^(l+1)=2^l*2:=L7 ..;have L:2^l*i<=2^l*1:=N1 _ A1;have M:2^l*j<=2^l*1:=N1 _ A1;obtain⟨q,s,P,Q,R,S⟩:=D _ _ A1 A1 z;refine⟨_,D7.mpr ⟨q,s,Z⟩,?_⟩;have t:∀i,i<2->2^l*(1-i)+2^(l+1)*i=2^l*i+2^l:=λi a=>by
   rw[p]
   match i,a with
   |0,_=>lia
   |1,_=>lia
  have N:=t i a;have O:=t j r;exact⟨by lia,by lia,by lia,by lia⟩
 .exact absurd (K H I) z
noncomputable def sqF(G:Gv)(l n:Nat):Int->Int->Nat:=λu v=>if 0<=u/\u<((2^l:Nat):Int)/\0<=v/\v<((2^l:Nat):Int)then cel G l n u.toNat v.toNat else 0
theorem sqF_in{G:Gv}{l n x y:Nat}(a:x<2^l)(b:y<2^l):AM G l n x y=((sqF G l n (x:Int) (y:Int):Nat):Int):=by
 unfold sqF;rw[W9 ⟨by lia,by lia,by lia,by lia⟩,N3,N3];rfl
theorem Blk.inA{G:Gv}{l n c:Nat}(h:Blk G l n c):InA c 2 (sqF G l n):=by
 obtain⟨a,d,f⟩:=h;refine⟨a.map λq=>((q.1:Int),(q.2:Int)),by rw[B8];exact d,λu v z=>?_⟩;unfold sqF at z;split at z
 .rename_i b;obtain⟨q,g,i,j,k,m⟩:=f u.toNat v.toNat A1 A1 (λe=>z (by unfold AM at e;lia));exact⟨_,D7.mpr ⟨q,g,Z⟩,by dsimp only;lia,by dsimp only;lia,by dsimp only;lia,by dsimp only;lia⟩
 .exact absurd Z z
theorem cel_7{G:Gv}(ok:GOk G):∀(l n:Nat),An G n (l:Int)->∀x y,cel G l n x y<=7
|0,n,h,x,y=>by
 have:=ok.cell h;show n<=7;lia
|l+1,n,h,x,y=>cel_7 ok l _ (Cu ok h A1) x y
theorem sqF_7{G:Gv}(ok:GOk G){l n:Nat}(h:An G n (l:Int))(u v:Int):sqF G l n u v<=7:=by
 unfold sqF;split
 .exact cel_7 ok l n h _ _
 .exact L5 _
theorem kp_top{G:Gv}{r:AA}{l e n:Nat}(a:l<47)(d:e<=l):Kp r (sqF G (l+2) n) (Tq e) l e (AM G (l+2) n):=by
 refine⟨a,.inr ⟨0,0,0,⟨by lia,0,Q8 _,by rw[V4]⟩,λx y b c=>?_⟩⟩;rw[sqF_in b c];unfold Ji;rw[Int.mul_zero,O1,O1];rfl
theorem InA.mono{k a W:Nat}{χ:D_}(h:InA k W χ)(e:k<=a):InA a W χ:=by
 obtain⟨b,c,d⟩:=h;exact⟨b,D4 c e,d⟩
theorem InA.step{k W c:Nat}{χ ψ:D_}(h:InA k W χ)(a b:Int)(d:Nat)(r:W+2*d<=c)(n:∀u v,ψ u v≠0->∃x y,u+a-d<=x/\x<=u+a+d/\v+b-d<=y/\y<=v+b+d/\χ x y≠0):InA k c ψ:=by
 obtain⟨e,f,g⟩:=h;refine⟨e.map λq=>(q.1-a-d,q.2-b-d),by rw[B8];exact f,λu v z=>?_⟩;obtain⟨x,y,s,t,w,A,j⟩:=n u v z;obtain⟨q,i,l,m,o,p⟩:=g x y j;exact⟨_,D7.mpr ⟨q,i,Z⟩,by dsimp only;lia,by dsimp only;lia,by dsimp only;lia,by dsimp only;lia⟩
theorem MpS.mp{a:Nat}{M:L_}(h:MpS a M):Mp M:=⟨h.z,λs _=>h.le s⟩
theorem it_id{M:L_}(h:MpS 2 M){s:Nat}(a:s<=7):∀t,it M (t+1) s=it M 1 s
|0=>rfl
|t+1=>by
 show M (it M (t+1) s)=M s;rw[it_id h a t];show M (M s)=M s;rcases h.id rfl s a with e|e
 .rw[e,h.z]
 .rw[e,e]
theorem it_dn{M:L_}(h:MpS 1 M){s:Nat}(m:s<=7)(t:Nat):it M (t+7) s=it M 7 s:=by
 have f:∀j,it M (j+1) s=it M j s->∀k,it M (j+k) s=it M j s:=λj e k=>by
  induction k with
  |zero=>rfl
  |succ k d =>
   show M (it M (j+k) s)=_;rw[d];exact e
 have g:∀k,(∃j,j<k/\it M (j+1) s=it M j s)\/it M k s+k<=s:=λk=>by
  induction k with
  |zero=>exact .inr (C9 _)
  |succ k d =>
   rcases d with ⟨j,i,c⟩|d
   .exact .inl ⟨j,by lia,c⟩
   .have le:it M (k+1) s<=it M k s:=h.dn Z _ A1;by_cases e:it M (k+1) s=it M k s
    .exact .inl ⟨k,by lia,e⟩
    .exact .inr A1
 rcases g 7 with ⟨j,i,c⟩|z
 .have a:=f j c (t+7-j);have b:=f j c (7-j);rw[show j+(t+7-j)=t+7 by lia]at a;rw[show j+(7-j)=7 by lia]at b;rw[a,b]
 .have l:it M 7 s=0:=by lia
  rw[VU,l,h.mp.it0]
inductive Kd(l e:Nat)(rl:List LC4):Prop
|a (M:L_) (h:MpS 2 M) (er:rl=gl4 M 8)
|b (M:L_) (w:Nat) (h:MpS 1 M) (w8:w<=8) (l13:l<=13) (er:rl=gl4 M w)
|c (M:L_) (w:Nat) (h:MpS 0 M) (w8:w<=8) (l7:l<=7) (er:rl=gl4 M w)
|d (ok:Lz rl) (rest:Co (rl.map LC4.a) 0 Cb=0) (e2:e<=2)
theorem Kd.ok{l e:Nat}{d:List LC4}(h:Kd l e d):Lz d/\Co (d.map LC4.a) 0 Cb=0:=by
 rcases h with ⟨M,h,rfl⟩|⟨M,w,h,c,_,rfl⟩|⟨M,w,h,c,_,rfl⟩|⟨ok,b,_⟩
 .exact⟨RQ h.le (C9 _),NK h.z (C9 _)⟩
 .exact⟨RQ h.le c,NK h.z c⟩
 .exact⟨RQ h.le c,NK h.z c⟩
 .exact⟨ok,b⟩
theorem VW{i E w c:Nat}{M:L_}{φ:D_}(h:MpS i M)(j:w<=8)(f:∀u v,φ u v<=7)(g:InA c 2 φ)(d:c<=2)(b:E<8):GC (Kp ((gl4 M w).map LC4.a) φ (Tq E)) 60000:=by
 refine Tf (k:=2) (W:=2) (nq_c E b) λt _=>(g.mono d).step (t*ofX w) (t*ofY w) 0 A3 λu v z=>?_;rw[SZ h.mp (RS M j) f]at z;exact⟨u+t*ofX w,v+t*ofY w,by lia,by lia,by lia,by lia,λe=>z (by rw[e,h.mp.it0])⟩
theorem Kd.fin{G:Gv}(ok:GOk G){l e n c:Nat}{C:List LC4}(h:Kd l e C)(N:An G n ((l+2:Nat):Int))(P:e<=l)(L:l<47)(E:Blk G (l+2) n c)(j:c<=2)(F:8<=l->c<=1):GC (Kp (C.map LC4.a) (sqF G (l+2) n) (Tq e)) 60000:=by
 have f:=E.inA;have b:=sqF_7 ok N;generalize sqF G (l+2) n=φ at f b;rcases h with ⟨M,h,rfl⟩|⟨M,w,h,r,K,rfl⟩|⟨M,w,h,r,U,rfl⟩|⟨rok,i,m⟩
 .have d:∀t u v,sFN ((gl4 M 8).map LC4.a) t φ u v=it M t (φ u v):=λt u v=>by
   rw[SZ h.mp (RS M (C9 8)) b];show it M t (φ (u+t*0) (v+t*0))=_;rw[Int.mul_zero,O1,O1]
  refine OL (k:=2) (W:=2) (p:=2) (nq_a e A1) (λt=>?_) λt _=>(f.mono j).step 0 0 0 A3 λu v z=>?_
  .match t with
   |0=>exact⟨0,by decide,Z⟩
   |t+1=>exact⟨1,by decide,funext λu=>funext λv=>by rw[d,d,it_id h (b u v)]⟩
  .rw[d]at z;exact⟨u,v,by lia,by lia,by lia,by lia,λe=>z (by rw[e,h.mp.it0])⟩
 .by_cases V:l<8
  .exact VW h r b f j A1
  .obtain⟨D,a1,a2⟩:=f.mono (F A1);have one:∃X Y:Int,∀u v,φ u v≠0->X<=u/\u<X+2/\Y<=v/\v<Y+2:=by
    match D,a1 with
    |[],_=>exact⟨0,0,λu v z=>by obtain⟨q,A,_⟩:=a2 u v z;cases A⟩
    |[q],_=>exact⟨q.1,q.2,λu v z=>by
      obtain⟨q',A,g⟩:=a2 u v z;rw[C8.mp A]at g;exact g⟩
   obtain⟨X,Y,s⟩:=one;have d:=λt u v=>SZ h.mp (RS M r) b t u v;refine fin_far (W:=2) (p:=8) (nq_b e A1) (λt=>X-t*ofX w) (λt=>Y-t*ofY w) (λt u v z=>?_) λt=>?_
   .rw[d]at z;have:=s _ _ λe=>z (by rw[e,h.mp.it0]);lia
   .by_cases O:t<8
    .exact⟨t,O,0,0,λu v=>by rw[O1,O1]⟩
    .refine⟨7,by decide,((t-7:Nat):Int)*ofX w,((t-7:Nat):Int)*ofY w,λu v=>?_⟩;rw[d,d];have B:=it_dn h (b (u+t*ofX w) (v+t*ofY w)) (t-7);rw[show t-7+7=t by lia]at B;rw[B];have m:∀(u o:Int),u+((t-7:Nat):Int)*o+((7:Nat):Int)*o=u+(t:Int)*o:=λu o=>by
      rw[Int.add_assoc,<-Int.add_mul];congr 2;lia
     rw[m,m]
 .exact VW h r b f j A1
 .refine Tf (k:=2) (W:=10) (nq_d e A1) λt I=>(f.mono j).step 0 0 4 A3 λu v z=>?_;obtain⟨x,y,Q,R,S,T,H⟩:=Vh i z;have t4:t<4:=J6 I (Nat.pow_le_pow_right (show 0<2 by decide) m);exact⟨x,y,by lia,by lia,by lia,by lia,H⟩
theorem Ry(φ:D_):∀t,sFN [] t φ=φ
|0=>rfl
|t+1=>by
 show sF [] (sFN [] t φ)=φ;rw[Ry φ t];rfl
theorem nil_fin{G:Gv}{l e n c:Nat}(d:e<47)(a:Blk G (l+2) n c)(b:c<=2):GC (Kp [] (sqF G (l+2) n) (Tq e)) 60000:=by
 refine OL (k:=2) (W:=2) (p:=2) (nq_a e d) (λt=>⟨0,by decide,Ry _ t⟩) λt _=>?_;rw[Ry];exact a.inA.mono b
theorem JF:Lz []/\Co (([]:List LC4).map LC4.a) 0 Cb=0:=⟨⟨L5 _,λc b=>nomatch b⟩,Z⟩
seal L2.PA L2.PE L2.PS L2.PSs L2.PT L2.PW
section
variable{P:N_}{w:Q_}{K:O_}{mg:C_}{base:T_}{a:Ad}
inductive SpWd(a:Ad)(vs:List V)(H:Hp)(Q:VK):Prop
|mk (g:GA) (G:Gv) (n l:Nat) (_:vs=[.ref g.p,.int (n:Int),.int (l:Int)]) (_:AE a H g G) (_:GOk G) (_:An G n ((l+1:Nat):Int)) (_:l<=46) (_:G.length<6900000) (_:∀(L:R_)(f0 f1 f2 f3 z:Nat)(G':Gv)(H':Hp),Fr g H H'->AE a H' g G'->AR G G' (l+4)->Sol G' 0 l z->H' L=some (.lst [toV f0,toV f1,toV f2,toV f3])->G'[f0]?=some ⟨[(z:Int),(z:Int),(z:Int),(qO G n 0:Int)],(l:Int)+1⟩->G'[f1]?=some ⟨[(z:Int),(z:Int),(qO G n 1:Int),(z:Int)],(l:Int)+1⟩->G'[f2]?=some ⟨[(z:Int),(qO G n 2:Int),(z:Int),(z:Int)],(l:Int)+1⟩->G'[f3]?=some ⟨[(qO G n 3:Int),(z:Int),(z:Int),(z:Int)],(l:Int)+1⟩->Q (.ref L) H'):SpWd a vs H Q
def spWd(a:Ad):Sp:=λvs H Q _=>SpWd a vs H Q
theorem ok_wd(F:Fun K "_law_widened" "_law_widened" Fe f fd)(T:Top K mg a)(aA:BD P w K mg base CX0 4 a.c_Grove "quarters" IR (Ml a))(aW:BD P w K mg base CX0 4 a.c_Grove "solid" Ex (MF a))(V:BD P w K mg base CX0 4 a.c_Grove "joined" BX (Js a)):AT P w K mg base CX0 5 f fd Fy (spWd a):=by
 refine F.ok Cd D_9 λak A aj s H vs Q E C h=>?_
 obtain⟨g,G,n,l,rfl,x,ok,hl,ap,few,k⟩:=h;refine⟨_,(Ae (Av (i:=3) Cd.nd Z O_9 (Aw (pv 0) aA (rm C) Ao (Aa (pv 1) Ab))) (Ae (Av (i:=4) Cd.nd Z O_9 (Aw (pv 0) aW (rm C) Ao (Aa (pv 2) (AJ Ab)))) (Ae (Av (i:=5) Cd.nd Z O_9 (Aw (pv 0) V (rm C) Ao (Aa (pv 4) (Aa (pv 4) (Aa (pv 4) (Aa (Ah Ap (pv 3) Ac R_9) Ab)))))) (Ae (Av (i:=6) Cd.nd Z O_9 (Aw (pv 0) V (rm C) Ao (Aa (pv 4) (Aa (pv 4) (Aa (Ah Ap (pv 3) Ac R_9) (Aa (pv 4) Ab)))))) (Ae (Av (i:=7) Cd.nd Z O_9 (Aw (pv 0) V (rm C) Ao (Aa (pv 4) (Aa (Ah Ap (pv 3) Ac R_9) (Aa (pv 4) (Aa (pv 4) Ab)))))) (Af (Ax (Bq (Aa (pv 5) (Aa (pv 6) (Aa (pv 7) (Aa (Aw (pv 0) V (rm C) Ao (Aa (Ah Ap (pv 3) Ac R_9) (Aa (pv 4) (Aa (pv 4) (Aa (pv 4) Ab))))) Ab)))))))))))),?_⟩
 try dsimp only[cxK]
 have W:∀j,j<4->An G (qO G n j) (l:Int):=λj hj=>Cu ok hl hj;refine AO ?_;intro r1 s1 k1 ae E1;refine xwn Z Z x.hp (BL g) Z ⟨g,G,n,_,Z,x,ok.fourq hl,by show((l+1:Nat):Int)≠0;lia,λtf p=>ae ?_⟩;refine AO ?_;intro r2 s2 k2 af E2;refine xwn Z Z x.hp (QJ g) Z ⟨g,G,l,0,Z,x,ok,by lia,by decide,by lia,λz G1 H1 N O e sz=>af ?_⟩;have al:=e.few;have y:=sz.lev e.ok A3;have r:∀{X:Hp},Fr g H X->X tf=some (.tup [.int (qO G n 0:Int),.int (qO G n 1:Int),.int (qO G n 2:Int),.int (qO G n 3:Int)]):=λ{X} f=>by
  obtain⟨tg,g3,_⟩:=x.pt;exact f _ _ p (Aq p x.lv A2) (Aq p g3 A2) (Aq p x.nm A2)
 refine AO ?_;intro r3 s3 k3 ag E3;refine xwn Z Z O.hp (Dx g) Z (xw2 Z Z (xwi Z Z Z (SqT.of (r N)) (Am (j:=0) Z) ⟨g,G1,z,z,z,qO G n 0,l,Z,O,e.ok,⟨y,y,y,e.lev (W 0 A3)⟩,by lia,by lia,λf0 G2 H2 Y R b e0=>ag ?_⟩));have am:=b.few;have t:=e.trans b;have D:=N.trans Y;refine AO ?_;intro r4 s4 k4 ah E4;refine xwn Z Z R.hp (Dx g) Z (xq1 Z (xwi Z Z Z (SqT.of (r D)) (Am (j:=1) Z) (xq1 Z ⟨g,G2,z,z,qO G n 1,z,l,Z,R,b.ok,⟨b.lev y,b.lev y,t.lev (W 1 A3),b.lev y⟩,by lia,by lia,λf1 G3 H3 aa S d e1=>ah ?_⟩)));have an:=d.few;have u:=t.trans d;have I:=D.trans aa;refine AO ?_;intro r5 s5 k5 ai E5;have q:=(b.trans d).lev y;refine xwn Z Z S.hp (Dx g) Z (xwi Z Z Z (SqT.of (r I)) (Am (j:=2) Z) (xw2 Z Z ⟨g,G3,z,qO G n 2,z,z,l,Z,S,d.ok,⟨q,u.lev (W 2 A3),q,q⟩,by lia,by lia,λf2 G4 H4 ab U c e2=>ai ?_⟩));have ao:=c.few;have v:=u.trans c;have M:=I.trans ab;have B:=c.lev q;refine xw3 Z Z Z (xq1 Z (xq3 Z U.hp (Dx g) (xwi Z Z Z (SqT.of (r M)) (Am (j:=3) Z) (xw3 Z Z Z ⟨g,G4,qO G n 3,z,z,z,l,Z,U,c.ok,⟨v.lev (W 3 A3),B,B,B⟩,by lia,by lia,λf3 G5 H5 ac ad m e3=>?_⟩))));refine⟨S_4,λL hL=>?_⟩;have s6:=CP (o:=.lst [toV f0,toV f1,toV f2,toV f3]) hL;exact k L f0 f1 f2 f3 z G5 _ ((M.trans ac).trans (Az.fr s6)) (ad.same s6) ((v.trans m).mono A1) (sz.goes (((b.trans d).trans c).trans m)) Ag ((d.trans (c.trans m)).get e0) ((c.trans m).get e1) (m.get e2) e3
inductive SpMi(a:Ad)(vs:List V)(H:Hp)(Q:VK):Prop
|mk (g:GA) (G:Gv) (n l:Nat) (_:vs=[.ref g.p,.int (n:Int)]) (_:AE a H g G) (_:GOk G) (_:An G n ((l+2:Nat):Int)) (_:∀(L:R_)(H':Hp),Az H H'->H' L=some (.lst [toV (qO G (qO G n 0) 3),toV (qO G (qO G n 1) 2),toV (qO G (qO G n 2) 1),toV (qO G (qO G n 3) 0)])->Q (.ref L) H'):SpMi a vs H Q
def spMi(a:Ad):Sp:=λvs H Q _=>SpMi a vs H Q
theorem ok_mi(F:Fun K "_law_middle" "_law_middle" Et f fd)(T:Top K mg a)(R:BD P w K mg base CX0 4 a.c_Grove "quarters" IR (Ml a)):AT P w K mg base CX0 5 f fd ET (spMi a):=by
 refine F.ok Iz D_9 λW A O s H vs Q E U h=>?_
 obtain⟨g,G,n,l,rfl,C,ok,S,k⟩:=h;refine⟨_,(Ae (CW (i:=2) Z Iz.nd Z Z (Bn.of (So:=Ai Et) (No:=Jp) (N:=["_law_one","_law_grove"]) (k:=1) (cs:=[0]) Z Z A0) (Jx (Aw (pv 0) R (rm U) Ao (Aa (pv 1) Ab))) (λ_ _ _=>(AY (i:=0) A0 Z Z)) (λ_ _ _=>BB) (λ_ _ _=>(Aw (pv 1) R (rm U) Ao (Aa (pv 0) Ab)))) (Af (Ax (Bq (Aa (Ah Ap (Ah Au (pv 2) Ac R_9) Ac R_9) (Aa (Ah Ap (Ah Au (pv 2) Ac R_9) Ac R_9) (Aa (Ah Ap (Ah Au (pv 2) Ac R_9) Ac R_9) (Aa (Ah Ap (Ah Au (pv 2) Ac R_9) Ac R_9) Ab)))))))),?_⟩
 try dsimp only[cxK]
 refine AO ?_;intro r1 s1 k1 I E1;refine xwn Z Z C.hp (BL g) Z ⟨g,G,n,_,Z,C,ok.fourq (l:=l+1) S,by show((l+1+1:Nat):Int)≠0;lia,λtf o=>⟨tf,Z,⟨_,SqT.of o⟩,?_⟩⟩;refine Lw (xs:=[(qO G n 0:Int),(qO G n 1:Int),(qO G n 2:Int),(qO G n 3:Int)].map V.int) (λi c y=>H=y/\∃m:List Addr,c=m.map V.ref/\m.length=i/\∀(j:Nat) t,m[j]?=some t->H t=some (.tup [toV (qO G (qO G n j) 0),toV (qO G (qO G n j) 1),toV (qO G (qO G n j) 2),toV (qO G (qO G n j) 3)])) ⟨Z,[],Z,Z,λj t e=>(nomatch e)⟩ (λi c y _ z=>z.1▸SqT.of o) ?_ ?_
 .rintro i v c y d ⟨rfl,m,rfl,lt,b⟩;have M:i<4:=(B9.mp d).1;have d:v=.int (qO G n i:Int):=by
   match i,M,d with
   |0,_,d|1,_,d|2,_,d|3,_,d=>cases d;rfl
  subst d;have lq:=Cu ok (l:=l+1) S M;refine⟨⟨[some (.int (qO G n i:Int))],Z,Z⟩,by rw[B8,lt];exact N4 M A3,EQ (xwn Z Z C.hp (BL g) Z ⟨g,G,qO G n i,_,Z,C,ok.fourq (l:=l) lq,by show((l+1:Nat):Int)≠0;lia,λt ht=>⟨Z,m++[t],by rw[C0];rfl,by rw[C6,lt];rfl,?_⟩⟩)⟩;exact MS (P:=λ(j:Nat) t=>H t=some (.tup [toV (qO G (qO G n j) 0),toV (qO G (qO G n j) 1),toV (qO G (qO G n j) 2),toV (qO G (qO G n j) 3)])) lt b ht
 .rintro c y ⟨rfl,m,rfl,lt,b⟩ A hA;obtain⟨q,r,u,x,rfl⟩:∃q r u x,m=[q,r,u,x]:=by
   match m,lt with
   |[q,r,u,x],_=>exact⟨q,r,u,x,Z⟩
  have X:=b 0 q Z;have Y:=b 1 r Z;have h2:=b 2 u Z;have h3:=b 3 x Z;clear b;generalize D:upd H A _=H6;obtain⟨p,B⟩:=alc hA D;refine I ?_;refine xwi Z Z Z (SqL.of B) (Am (j:=0) Z) (xq4 Z Z (SqT.of (p _ _ X)) (Am (j:=3) Z) ?_);refine xwi Z Z Z (SqL.of B) (Am (j:=1) Z) (xq4 Z Z (SqT.of (p _ _ Y)) (Am (j:=2) Z) ?_);refine xwi Z Z Z (SqL.of B) (Am (j:=2) Z) (xq4 Z Z (SqT.of (p _ _ h2)) (Am (j:=1) Z) ?_);refine xwi Z Z Z (SqL.of B) (Am (j:=3) Z) (xq4 Z Z (SqT.of (p _ _ h3)) (Am (j:=0) Z) ?_);refine⟨S_4,λL hL=>?_⟩;exact k L _ (p.trans (CP hL)) Ag
end
def Fo(G:Gv)(k c f0 f1 f2 f3:Nat):Prop:=(An G f0 (k:Int)/\An G f1 (k:Int)/\An G f2 (k:Int)/\An G f3 (k:Int))/\∀(G':Gv)(j m:Nat),AR G G' j->G'[m]?=some ⟨[(f0:Int),(f1:Int),(f2:Int),(f3:Int)],(k:Int)+1⟩->Blk G' (k+1) m c
theorem Fo.wide{G:Gv}(ok:GOk G){l n c E F H I z:Nat}(K:An G n ((l+1:Nat):Int))(P:Blk G (l+1) n c)(sz:Sol G 0 l z)(y:G[E]?=some ⟨[(z:Int),(z:Int),(z:Int),(qO G n 0:Int)],(l:Int)+1⟩)(A:G[F]?=some ⟨[(z:Int),(z:Int),(qO G n 1:Int),(z:Int)],(l:Int)+1⟩)(B:G[H]?=some ⟨[(z:Int),(qO G n 2:Int),(z:Int),(z:Int)],(l:Int)+1⟩)(C:G[I]?=some ⟨[(qO G n 3:Int),(z:Int),(z:Int),(z:Int)],(l:Int)+1⟩):Fo G (l+1) c E F H I:=by
 have g:∀{f:Nat}{ps:I_},G[f]?=some ⟨ps,(l:Int)+1⟩->An G f ((l+1:Nat):Int):=λ{f ps} e=>⟨_,e,by show(l:Int)+1=((l+1:Nat):Int);lia⟩
 refine⟨⟨g y,g A,g B,g C⟩,λw j m b Y=>(P.goes ok b K).wide λi j i' j' hi hj s t=>?_⟩;obtain⟨h,k,o,q⟩:=Cw Y;have z0:=MZ (sz.goes b);obtain⟨d,D,_⟩:=id K;have r:=b.get D;have d:∀p,qO w n p=qO G n p:=λp=>by unfold qO;rw[D,r]
 obtain⟨a0,a1,a2,a3⟩:=Cw (b.get y);obtain⟨L,M,N,O⟩:=Cw (b.get A);obtain⟨Q,R,S,T⟩:=Cw (b.get B);obtain⟨U,V,W,X⟩:=Cw (b.get C);have a:∀{x:Nat},x=z->(∀u v,AM w l x u v=0):=λ{x} e=>e▸z0
 match i,j,i',j',hi,hj,s,t with
 |0,0,0,0,_,_,_,_=>exact .inr (a (by rw[h];exact a0))
 |0,0,1,0,_,_,_,_=>exact .inr (a (by rw[h];exact a1))
 |0,0,0,1,_,_,_,_=>exact .inr (a (by rw[h];exact a2))
 |0,0,1,1,_,_,_,_=>exact .inl ⟨Z,Z,by rw[h,d];exact a3⟩
 |1,0,0,0,_,_,_,_=>exact .inr (a (by rw[k];exact L))
 |1,0,1,0,_,_,_,_=>exact .inr (a (by rw[k];exact M))
 |1,0,0,1,_,_,_,_=>exact .inl ⟨Z,Z,by rw[k,d];exact N⟩
 |1,0,1,1,_,_,_,_=>exact .inr (a (by rw[k];exact O))
 |0,1,0,0,_,_,_,_=>exact .inr (a (by rw[o];exact Q))
 |0,1,1,0,_,_,_,_=>exact .inl ⟨Z,Z,by rw[o,d];exact R⟩
 |0,1,0,1,_,_,_,_=>exact .inr (a (by rw[o];exact S))
 |0,1,1,1,_,_,_,_=>exact .inr (a (by rw[o];exact T))
 |1,1,0,0,_,_,_,_=>exact .inl ⟨Z,Z,by rw[q,d];exact U⟩
 |1,1,1,0,_,_,_,_=>exact .inr (a (by rw[q];exact V))
 |1,1,0,1,_,_,_,_=>exact .inr (a (by rw[q];exact W))
 |1,1,1,1,_,_,_,_=>exact .inr (a (by rw[q];exact X))
noncomputable def Pt(n z:Nat)(ps:J_)(p:Nat):Nat:=if p∈ps then n else z
theorem Fo.put{G:Gv}(ok:GOk G){k n c z:Nat}(d:An G n (k:Int))(g:Blk G k n c)(sz:Sol G 0 k z)(ps:J_):Fo G k (ps.length*c) (Pt n z ps 0) (Pt n z ps 1) (Pt n z ps 2) (Pt n z ps 3):=by
 have o:=sz.lev ok A3;have a:∀p,An G (Pt n z ps p) (k:Int):=λp=>by
  unfold Pt;split
  .exact d
  .exact o
 refine⟨⟨a 0,a 1,a 2,a 3⟩,λf j m b i=>(g.goes ok b d).join ps λp l=>?_⟩;obtain⟨q,r,s,t⟩:=Cw i;have e:qO f m p=Pt n z ps p:=by
  match p,l with
  |0,_=>exact q
  |1,_=>exact r
  |2,_=>exact s
  |3,_=>exact t
 rw[e];unfold Pt;by_cases h:p∈ps
 .rw[W9 h];exact .inl ⟨h,Z⟩
 .rw[W4 h];exact .inr (MZ (sz.goes b))
theorem Vk{n z:Nat}(ps:J_){p:Nat}(a:p<4):[toV (Pt n z ps 0),toV (Pt n z ps 1),toV (Pt n z ps 2),toV (Pt n z ps 3)].set p (toV n)=[toV (Pt n z (p::ps) 0),toV (Pt n z (p::ps) 1),toV (Pt n z (p::ps) 2),toV (Pt n z (p::ps) 3)]:=by
 have e:∀q,q=p->Pt n z (p::ps) q=n:=λq e=>by
  unfold Pt;rw[W9 (by rw[e];exact D8)]
 have d:∀q,q≠p->Pt n z (p::ps) q=Pt n z ps q:=λq e=>by
  unfold Pt;by_cases h:q∈ps
  .rw[W9 h,W9 (D9 _ h)]
  .rw[W4 h,W4 λy=>by rcases D1.mp y with y|y;exact e y;exact h y]
 match p,a with
 |0,_=>rw[e 0 rfl,d 1 A3,d 2 A3,d 3 A3];rfl
 |1,_=>rw[e 1 rfl,d 0 A3,d 2 A3,d 3 A3];rfl
 |2,_=>rw[e 2 rfl,d 0 A3,d 1 A3,d 3 A3];rfl
 |3,_=>rw[e 3 rfl,d 0 A3,d 1 A3,d 2 A3];rfl
theorem ix4{k:Int}(a:0<=k)(b:k<4):ixN 4 k=some k.toNat:=by
 rcases(show k=0\/k=1\/k=2\/k=3 by lia)with rfl|rfl|rfl|rfl<;>rfl
section
variable{P:N_}{w:Q_}{K:O_}{mg:C_}{base:T_}{a:Ad}
inductive SpHi(a:Ad)(K:O_)(vs:List V)(H:Hp)(Q:VK):Prop
|mk (g:GA) (G:Gv) (l:R_) (ns:I_) (n lv tw:Nat) (mid:Bool) (_:vs=[.ref l,.ref g.p,.int (n:Int),.int (lv:Int),.bl mid,.int (tw:Int)]) (_:∀H',Fr g H H'->SqL K H' l (ns.map V.int)) (_:AE a H g G) (_:GOk G) (_:An G n ((1:Nat):Int)) (_:Blk G 1 n 1) (_:1<=lv) (_:lv<=48) (_:tw<=1) (_:G.length<6000000) (_:∀(m:Nat)(G':Gv)(H':Hp),Fr g H H'->AE a H' g G'->AR G G' 10000->An G' m (lv:Int)->Blk G' lv m (1+tw)->Q (.int m) H'):SpHi a K vs H Q
def spHi(a:Ad)(K:O_):Sp:=λvs H Q _=>SpHi a K vs H Q
theorem ok_hi(F:Fun K "_law_higher" "_law_higher" Gd f fd)(T:Top K mg a)(aE:Cal P w K mg base CX0 1 "_law_at" Uc (TJ K))(aJ:Cal P w K mg base CX0 1 "_law_stir" FU Pa)(bM:Cal P w K mg base CX0 5 "_law_widened" Fy (spWd a))(aW:BD P w K mg base CX0 4 a.c_Grove "solid" Ex (MF a))(aB:BD P w K mg base CX0 4 a.c_Grove "joined" BX (Js a)):AT P w K mg base CX0 6 f fd Gq (spHi a K):=by
 refine F.ok BG D_9 λa4 A ax s H vs Q E hr h=>?_
 obtain⟨g,G,l,ns,n,M,tw,mid,rfl,hS,hg,ok,ln,bl,a8,a0,a9,few,k⟩:=h;refine⟨_,(Ae (BQ Y5 Z (LM Z T.b_range (AJ (Aa (pv 3) Ab))) (AN (i:=6) BG.nd Z O_9) (Ae (Av (i:=7) BG.nd Z O_9 (Aw (pv 1) aW (rm hr) Ao (Aa (pv 6) (AJ Ab)))) (Ae (AS (Cv (pv 4)) (Af (Av (i:=8) BG.nd Z O_9 (AB bM (rm hr) Z Ao (Aa (pv 1) (Aa (pv 2) (BI BU (pv 6) Ac Ab)))))) (Ae (Av (i:=9) BG.nd Z O_9 (AB aE (rm hr) Z Ao (Aa (pv 0) (BI Be Ac (pv 6) Ab)))) (Ae (AS (AF op_ge (AG Be Ac (pv 6)) (AU BK Z T.b_len Z2 (Aa (pv 0) Ab)) (AI _)) (Af (Av (i:=9) BG.nd Z O_9 (AB aJ (rm hr) Z Ao (Aa (AB aE (rm hr) Z Ao (Aa (pv 0) (AJ Ab))) (Aa (pv 6) Ab))))) AD) (Ae (Av (i:=8) BG.nd Z O_9 (Bq (Aa (pv 7) (Aa (pv 7) (Aa (pv 7) (Aa (pv 7) Ab)))))) (Ae (Nm (pv 2) (RA (pv 8) (AG AZ (pv 9) Ac) Na)) (Af (AS (PW.pt (Pp (AF Ci (AG AZ (AG Dp (pv 9) Ac) Ac) Ac (AI _)) (Pp (AF Oy (pv 6) Ac (AI _)) (Po (AF Oy (pv 5) Ac (AI _)))))) (Ae (Av (i:=5) BG.nd Z O_9 (AG BU (pv 5) Ac)) (Af (Nm (pv 2) (RA (pv 8) (AG AZ (AG Dp (pv 9) Ac) Ac) Na)))) AD))))))) (Af (Av (i:=2) BG.nd Z O_9 (Aw (pv 1) aB (rm hr) Ao (Aa (Ah Au (pv 8) Ac R_9) (Aa (Ah Au (pv 8) Ac R_9) (Aa (Ah Au (pv 8) Ac R_9) (Aa (Ah Au (pv 8) Ac R_9) Ab)))))))))) (Af (Ax (pv 2)))),?_⟩
 try dsimp only[cxK]
 refine AO ?_;intro r1 s1 k1 ao E1;refine xq1 Z ⟨1,(M:Int),Z,⟨by decide,by decide,by lia,by lia⟩,?_⟩;rw[show((M:Int)-1).toNat=M-1 by lia];refine CM (n:=M-1) (λi σ Hy=>∃(G':Gv)(m t c:Nat)(u6 u7 u8 u9:Option V),σ=[some (.ref l),some (.ref g.p),some (.int (m:Int)),some (.int (M:Int)),some (.bl mid),some (.int (t:Int)),u6,u7,u8,u9]/\Fr g H Hy/\AE a Hy g G'/\AR G G' (120*i)/\An G' m ((i+1:Nat):Int)/\Blk G' (i+1) m c/\c<=1+tw/\(c=1\/t=0)/\t<=tw) ⟨G,n,tw,1,none,none,none,none,Z,Fr.refl _ _,hg,AR.refl ok,ln,bl,by lia,.inl Z,C9 _⟩ ?_ ?_
 .rintro i σ Hy hi ⟨G1,m,t,c,u6,u7,u8,u9,rfl,aj,ae,O,lm,N,c1,ct,ab⟩;have a5:=O.few;have ei:1+(i:Int)=((i+1:Nat):Int):=by lia
  refine AO ?_;intro r2 s2 k2 ap E2;refine xwn Z Z ae.hp (QJ g) Z ⟨g,G1,i+1,0,Y7 (λz=>[V.ref g.p,V.int z,V.int 0]) ei,ae,O.ok,by lia,by decide,by lia,λz G2 X ak af x sz=>ap ?_⟩;have a6:=x.few;have D:=x.lev lm;have ac:=N.goes O.ok x lm;have C:=aj.trans ak;refine AO ?_;intro r3 s3 k3 aq E3;apply Li (T:=k3) (fun σ' y=>∃(S:Gv)(L:R_)(f0 f1 f2 f3 q c2:Nat)(u9:Option V),σ'=[some (.ref l),some (.ref g.p),some (.int (m:Int)),some (.int (M:Int)),some (.bl mid),some (.int (q:Int)),some (.int (1+(i:Int))),some (.int (z:Int)),some (.ref L),u9]/\Fr g H y/\AE a y g S/\AR G2 S 60/\y L=some (.lst [toV f0,toV f1,toV f2,toV f3])/\Fo S (i+1) c2 f0 f1 f2 f3/\c2<=1+tw/\(c2=1\/q=0)/\q<=tw)
  .intro W;refine xw2 Z Z (FG (λ_=>?_) (λ_=>?_))
   .refine xw2 Z Z (xwb Z Z Z ⟨g,G2,m,i,Y7 (λz=>[V.ref g.p,V.int (m:Int),V.int z]) A1,af,x.ok,D,by lia,by lia,λL f0 f1 f2 f3 z' S y Y R r ay B e0 e1 e2 e3=>W _ _ ⟨S,L,f0,f1,f2,f3,t,c,u9,Z,C.trans Y,R,r.mono A1,B,?_,c1,ct,ab⟩⟩);have qn:∀p,qO G2 m p=qO S m p:=λp=>by
     obtain⟨qq,eq,_⟩:=id D;unfold qO;rw[eq,r.get eq]
    rw[qn]at e0 e1 e2 e3;exact Fo.wide r.ok (r.lev D) (ac.goes x.ok r D) ay e0 e1 e2 e3
   .refine AO ?_;intro r4 s4 k4 ar E4;refine xw2 Z Z (xq2 Z Z ⟨l,ns,_,Z,hS _ C,by lia,ar ?_⟩);refine AO ?_;intro r5 s5 k5 as E5;apply Li (T:=k5) (fun σ' y=>X=y/\∃v:Int,σ'=[some (.ref l),some (.ref g.p),some (.int (m:Int)),some (.int (M:Int)),some (.bl mid),some (.int (t:Int)),some (.int (1+(i:Int))),some (.int (z:Int)),u8,some (.int v)])
    .intro I;refine xq1 Z (xq2 Z Z (xq1 Z ⟨l,(xq1 Z ⟨.inl (hS _ C),(xq2 Z Z (xq1 Z (FG (λ_=>?_) (λ_=>I _ _ ⟨Z,_,Z⟩))))⟩)⟩));exact xq1 Z ⟨l,ns,16,Z,hS _ C,by decide,(xq1 Z ⟨_,_,Z,by lia,by lia,λv _=>I _ _ ⟨Z,v,Z⟩⟩)⟩
    .rintro σ' y ⟨rfl,v,rfl⟩;refine as ?_;refine AO ?_;intro r6 s6 k6 au E6;refine xw2 Z Z (xw2 Z Z ⟨S_4,λL hL=>au ?_⟩);have s3:=CP (o:=.lst [toV (Pt m z [] 0),toV (Pt m z [] 1),toV (Pt m z [] 2),toV (Pt m z [] 3)]) hL;have h3:upd X L (.lst [toV (Pt m z [] 0),toV (Pt m z [] 1),toV (Pt m z [] 2),toV (Pt m z [] 3)]) L=some (.lst [toV (Pt m z [] 0),toV (Pt m z [] 1),toV (Pt m z [] 2),toV (Pt m z [] 3)]):=Ag;show r6 _ (upd X L (.lst [toV (Pt m z [] 0),toV (Pt m z [] 1),toV (Pt m z [] 2),toV (Pt m z [] 3)]));generalize upd X L (.lst [toV (Pt m z [] 0),toV (Pt m z [] 1),toV (Pt m z [] 2),toV (Pt m z [] 3)])=y at s3 h3⊢;refine AO ?_;intro r7 s7 k7 av E7;refine xw2 Z Z (xwb Z Z Z ⟨B1,L,_,_,(v%4).toNat,Z,Z,h3,ix4 A1 A1,av ?_⟩);have es:=Vk (n:=m) (z:=z) [] (p:=(v%4).toNat) A1;show r7 _ (upd y L (.lst ([toV (Pt m z [] 0),toV (Pt m z [] 1),toV (Pt m z [] 2),toV (Pt m z [] 3)].set (v%4).toNat (toV m))));rw[es];have lp:(v%4).toNat<4:=by lia
     generalize (v%4).toNat=d at lp;have oth:∀{o:HO}{b:R_}{u:HO},X b=some u->upd y L o b=some u:=λ{o b u} e=>by rw[Ar (Aj e hL)];exact s3 _ _ e
     have fin:∀(q:Nat)(ps:J_)(U:Hp),Az X U->U L=some (.lst [toV (Pt m z ps 0),toV (Pt m z ps 1),toV (Pt m z ps 2),toV (Pt m z ps 3)])->ps.length*c<=1+tw->(ps.length*c=1\/q=0)->q<=tw->k3 [some (.ref l),some (.ref g.p),some (.int (m:Int)),some (.int (M:Int)),some (.bl mid),some (.int (q:Int)),some (.int (1+(i:Int))),some (.int (z:Int)),some (.ref L),some (.int v)] U:=λq ps U s4 h4 a1 a2 a3=>W _ _ ⟨G2,L,_,_,_,_,q,ps.length*c,_,Z,C.trans (Az.fr s4),af.same s4,(AR.refl x.ok).mono A1,h4,Fo.put x.ok D ac sz ps,a1,a2,a3⟩;have aa:Az X (upd y L (.lst [toV (Pt m z [d] 0),toV (Pt m z [d] 1),toV (Pt m z [d] 2),toV (Pt m z [d] 3)])):=λb u e=>oth e;have h4:upd y L (.lst [toV (Pt m z [d] 0),toV (Pt m z [d] 1),toV (Pt m z [d] 2),toV (Pt m z [d] 3)]) L=some (.lst [toV (Pt m z [d] 0),toV (Pt m z [d] 1),toV (Pt m z [d] 2),toV (Pt m z [d] 3)]):=Ag;clear es h3 oth;generalize upd y L (.lst [toV (Pt m z [d] 0),toV (Pt m z [d] 1),toV (Pt m z [d] 2),toV (Pt m z [d] 3)])=U at aa h4⊢;have no:=fin t [d] U aa h4 (by show 1*c<=_;lia) (by show 1*c=1\/_;lia) ab;refine xwb Z Z Z ⟨⟨by decide,by decide⟩,(xq2 Z Z ⟨B1,Z,(xq1 Z (FG (λ_=>?_) (λ_=>Bl no)))⟩)⟩;refine xwb Z Z Z (xq1 Z (FG (λ_=>?_) (λ_=>Bl no)));refine xwb Z Z Z (xq1 Z (FG (λhc=>?_) (λ_=>no)));have az:t=1/\c=1:=by
      have:=Z0 hc;lia
     obtain⟨rfl,rfl⟩:=az;refine AO ?_;intro r8 s8 k8 aw E8;refine xwb Z Z Z (aw ?_);refine xw2 Z Z (xwb Z Z Z ⟨⟨by decide,by decide⟩,(xq2 Z Z ⟨B1,L,_,_,(v/16%4).toNat,Z,Z,h4,ix4 A1 A1,?_⟩)⟩);have es:=Vk (n:=m) (z:=z) [d] (p:=(v/16%4).toNat) A1;show k3 _ (upd U L (.lst ([toV (Pt m z [d] 0),toV (Pt m z [d] 1),toV (Pt m z [d] 2),toV (Pt m z [d] 3)].set (v/16%4).toNat (toV m))));rw[es];exact fin 0 [_,d] _ (λb u e=>by rw[Ar (Aj e hL)];exact aa _ _ e) Ag (by show 2*1<=_;lia) (.inr Z) A1
  .rintro σ' y ⟨S,L,f0,f1,f2,f3,q,c2,u9,rfl,Y,R,r,B,fo,ah,ai,ag⟩;refine aq ?_;obtain⟨⟨l0,l1,l2,l3⟩,fo⟩:=fo;have a7:=r.few;refine xwn Z Z R.hp (Dx g) Z (xq4 Z Z (SqL.of B) (Am (j:=0) Z) (xwi Z Z Z (SqL.of B) (Am (j:=1) Z) (xwi Z Z Z (SqL.of B) (Am (j:=2) Z) (xwi Z Z Z (SqL.of B) (Am (j:=3) Z) ⟨g,S,f0,f1,f2,f3,_,Z,R,r.ok,⟨l0,l1,l2,l3⟩,by lia,by lia,λm' G4 U al am ad em=>?_⟩))));exact⟨G4,m',q,c2,_,_,_,_,Z,Y.trans al,am,(((O.trans x).trans r).trans ad).mono A1,⟨_,em,by show((i+1:Nat):Int)+1=_;lia⟩,fo G4 1 m' ad em,ah,ai,ag⟩
 .rintro σ Hy ⟨G',m,t,c,u6,u7,u8,u9,rfl,fr,an,go,lm,N,c1,ct,ab⟩;refine ao (xq1 Z ?_);rw[show M-1+1=M by lia]at lm N;obtain⟨As,a1,a2⟩:=N;exact k m G' Hy fr an (go.mono A1) lm ⟨As,by lia,a2⟩
end
theorem md2{a x m b:Int}(h:0<m)(e:a+m<=b+1):a<=a+x%m/\a+x%m<=b:=by
 have c:=N2 x (Int.ne_of_gt h);have d:=M8 x h;lia
section
variable{P:N_}{w:Q_}{K:O_}{mg:C_}{base:T_}{a:Ad}
inductive SpPl(K:O_)(vs:List V)(H:Hp)(Q:VK):Prop
|mk (l:R_) (ns:I_) (_:vs=[.ref l]) (_:SqL K H l (ns.map V.int)) (_:∀(t q:R_)(rl:List LC4)(v e:Nat)(H':Hp),Az H H'->H' t=some (.tup [.ref q,.int ((v+2:Nat):Int),.int (e:Int)])->EO H' q rl->Kd v e rl->e<=v->v<=46->Q (.ref t) H'):SpPl K vs H Q
def spPl(K:O_):Sp:=λvs H Q _=>SpPl K vs H Q
theorem ok_pl(F:Fun K "_law_plan" "_law_plan" FQ f fd)(T:Top K mg a)(B:Cal P w K mg base CX0 1 "_law_at" Uc (TJ K))(aZ:Cal P w K mg base CX0 3 "_law_gliding" Fz (spGl K))(bA:Cal P w K mg base CX0 3 "_law_clauses_by" DR Vd):AT P w K mg base CX0 4 f fd II (spPl K):=by
 refine F.ok BF D_9 λan A aj s H vs Q E p h=>?_
 obtain⟨l,j,rfl,r,k⟩:=h;refine⟨_,(Ae (Av (i:=1) BF.nd Z O_9 (AG AZ (AB B (rm p) Z Ao (Aa (pv 0) (AJ Ab))) Ac)) (Ae (Av (i:=2) BF.nd Z O_9 (AG Dp (AB B (rm p) Z Ao (Aa (pv 0) (AJ Ab))) Ac)) (Ae (AS (AF Ci (pv 1) Ac (AI _)) (Ae (Av (i:=3) BF.nd Z O_9 (AG Be Ac (AG AZ (pv 2) Ac))) (Ae (AS (AF Ci (AG AZ (AG Dp (pv 2) Ac) Ac) Ac (AI _)) (Af (Av (i:=3) BF.nd Z O_9 (AG Be Ac (AG AZ (AG Dp (pv 2) Ac) Ac)))) AD) (Af (Ax (CD (Aa (AB aZ (rm p) Z Ao (Aa (pv 0) (AJ (AJ Ab)))) (Aa (pv 3) (BI AZ (AG Dp (pv 2) Ac) (AG BU (pv 3) Ac) Ab)))))))) AD) (Ae (AS (AF Ci (pv 1) Ac (AI _)) (Ae (Av (i:=3) BF.nd Z O_9 (AG Be Ac (AG AZ (pv 2) Ac))) (Af (Ax (CD (Aa (AB aZ (rm p) Z Ao (Aa (pv 0) (AJ (BI AZ (AB B (rm p) Z Ao (Aa (pv 0) (AJ Ab))) Ac Ab)))) (Aa (pv 3) (BI AZ (AG Dp (pv 2) Ac) (AG BU (pv 3) Ac) Ab))))))) AD) (Ae (AS (AF Ci (pv 1) Ac (AI _)) (Ae (Av (i:=4) BF.nd Z O_9 (Bq (AJ (BI Be Ac (AG AZ (AB B (rm p) Z Ao (Aa (pv 0) (AJ Ab))) Ac) (BI Be Ac (AG AZ (AB B (rm p) Z Ao (Aa (pv 0) (AJ Ab))) Ac) (BI AZ (AB B (rm p) Z Ao (Aa (pv 0) (AJ Ab))) Ac Ab)))))) (Ae (Av (i:=5) BF.nd Z O_9 (AB bA (rm p) Z Ao (Aa (BZ Z (Bn.of (So:=Ai FQ) (No:=Mo) (N:=["_law_k","_law_script"]) (k:=1) (cs:=[0]) Z Z A0) (Ce Z T.b_range (BI AZ (AB B (rm p) Z Ao (Aa (pv 0) (AJ Ab))) Ac Ab)) (λ_ _ _=>(AY (i:=0) A0 Z Z)) (λ_ _ _=>BB) (λ_ _ _=>(AB B (rm p) Z Ao (Aa (pv 1) (BI Be Ac (pv 0) Ab))))) (Aa (pv 4) Ab)))) (Ae (Av (i:=3) BF.nd Z O_9 (AG Be Ac (AG AZ (pv 2) Ac))) (Af (Ax (CD (Aa (pv 5) (Aa (pv 3) (Aa (AU (Uy Z) Z T.b_min PyProof.Rows.boot_min (BI AZ (AG Dp (pv 2) Ac) Ac (BI BU (pv 3) Ac (BI Vu Ac (pv 3) Ab)))) Ab))))))))) AD) (Ae (Av (i:=3) BF.nd Z O_9 (AG Be Ac (AG AZ (pv 2) Ac))) (Ae (AS (AF Ci (pv 1) Ac (AI _)) (Af (Av (i:=3) BF.nd Z O_9 (AG Be Ac (AG AZ (pv 2) Ac)))) AD) (Af (Ax (CD (Aa (AB aZ (rm p) Z Ao (Aa (pv 0) (AJ (BI AZ (AB B (rm p) Z Ao (Aa (pv 0) (AJ Ab))) Ac Ab)))) (Aa (pv 3) (BI AZ (AG Dp (pv 2) Ac) (AG BU (pv 3) Ac) Ab))))))))))))),?_⟩
 try dsimp only[cxK]
 refine AO ?_;intro r1 s1 k1 af E1;refine xq1 Z ⟨l,j,0,Z,r,by decide,(xq2 Z Z ⟨B2,af ?_⟩)⟩;refine AO ?_;intro r2 s2 k2 ag E2;refine xq1 Z ⟨l,j,1,Z,r,by decide,(xq2 Z Z ⟨⟨by decide,by decide⟩,ag ?_⟩)⟩;have fin:∀(q:R_)(U:List LC4)(g ee:Int)(W:Hp)(v e:Nat),Az H W->EO W q U->g=((v+2:Nat):Int)->ee=(e:Int)->Kd v e U->e<=v->v<=46->[V.ref q,.int g,.int ee].length<=sizeLine/\∀t,W t=none->Q (.ref t) (upd W t (.tup [.ref q,.int g,.int ee])):=λq U g ee W v e sm C e1 e2 kd ev al=>⟨by show 3<=sizeLine;decide,λt ht=>k t q U v e _ (sm.trans (CP ht)) (by rw[Ag,e1,e2]) (C.same (CP ht)) kd ev al⟩
 refine AO ?_;intro r3 s3 k3 ah E3;refine xq1 Z ⟨Z,(xq1 Z (FG (λhc=>?_) (λhc=>ah ?_)))⟩
 .refine AO ?_;intro r4 s4 k4 I E4;refine xwb Z Z Z ⟨(by show(0:Int)<23;decide),(xq2 Z Z (I ?_))⟩;refine AO ?_;intro r5 s5 k5 u E5;apply Li (T:=k5) (fun σ' D=>H=D/\∃g:Int,σ'=[some (.ref l),some (.int (atN j 0%8)),some (.int (atN j 1/2)),some (.int g),none,none]/\2<=g/\g<=48)
  .intro o;refine xwb Z Z Z ⟨⟨by decide,by decide⟩,(xq2 Z Z ⟨B2,Z,(xq1 Z (FG (λ_=>?_) (λ_=>o _ _ ⟨Z,2+(atN j 1/2)%23,Z,md2 A3 A3⟩)))⟩)⟩;exact xwb Z Z Z ⟨⟨by decide,by decide⟩,(xq2 Z Z ⟨(by show(0:Int)<47;decide),(xq2 Z Z (o _ _ ⟨Z,2+(atN j 1/2)/184%47,Z,md2 A3 A3⟩))⟩)⟩
  .rintro σ' D ⟨rfl,g,rfl,a1,a2⟩;refine u ?_;have b1:=N2 ((atN j 1/2)/29) (show g-1≠0 by lia);have b2:=M8 ((atN j 1/2)/29) (show 0<g-1 by lia);refine xq1 Z ⟨l,j,2,8,Z,r,by decide,by decide,λq M X y ms C=>(xw2 Z Z (xq2 Z Z ⟨⟨by decide,by decide⟩,(xwb Z Z Z (xq2 Z Z ⟨by lia,?_⟩))⟩))⟩;exact fin q _ _ _ X (g-2).toNat ((atN j 1/2)/29%(g-1)).toNat y C A1 A1 (.a M ms Z) A1 A1
 .refine AO ?_;intro r4 s4 k4 I E4;refine xq1 Z ⟨Z,(xq1 Z (FG (λac=>?_) (λac=>I ?_)))⟩
  .refine AO ?_;intro r5 s5 k5 u E5;refine xwb Z Z Z ⟨(by show(0:Int)<12;decide),(xq2 Z Z (u ?_))⟩;obtain⟨S,hw⟩:=M7 (N2 (atN j 2) (by decide:(8:Int)≠0));have w8:S<=8:=by lia
   have b1:=N2 ((atN j 1/2)/12) (show 4+(atN j 1/2)%12-1≠0 by lia);have b2:=M8 ((atN j 1/2)/12) (show 0<4+(atN j 1/2)%12-1 by lia);refine xq1 Z (xq1 Z ⟨l,j,2,Z,r,by decide,(xq2 Z Z ⟨B2,l,j,1,S,by rw[<-hw];rfl,r,by decide,w8,λq M X y ms C=>(xw2 Z Z (xq2 Z Z ⟨⟨by decide,by decide⟩,(xwb Z Z Z (xq2 Z Z ⟨by lia,?_⟩))⟩))⟩)⟩);exact fin q _ _ _ X (4+(atN j 1/2)%12-2).toNat ((atN j 1/2)/12%(4+(atN j 1/2)%12-1)).toNat y C A1 A1 (.b M S ms w8 A1 Z) A1 A1
  .refine AO ?_;intro r5 s5 k5 u E5;refine xq1 Z ⟨Z,(xq1 Z (FG (λad=>?_) (λad=>u ?_)))⟩
   .refine AO ?_;intro r6 s6 k6 L E6;refine xq1 Z ⟨l,j,13,Z,r,by decide,(xq2 Z Z ⟨B6,(xq2 Z Z ?_)⟩)⟩;refine xq1 Z ⟨l,j,14,Z,r,by decide,(xq2 Z Z ⟨B6,(xq2 Z Z ?_)⟩)⟩;refine xq1 Z ⟨l,j,15,Z,r,by decide,(xq2 Z Z ⟨B2,⟨S_4,λfw ae=>L ?_⟩⟩)⟩;generalize b9:upd H fw _=H1;obtain⟨R,h1⟩:=alc ae b9;clear b9;have ab:Ro H1 fw:=⟨_,_,_,_,h1,by unfold DC;lia,by unfold DC;lia,by unfold DC;lia,by unfold DC;lia⟩
    clear h1;refine AO ?_;intro r7 s7 k7 O E7;obtain⟨c4,Y⟩:=M7 (N2 (atN j 2) (by decide:(5:Int)≠0));have am:c4<=4:=by have:=M8 (atN j 2) (by decide:(0:Int)<5);lia
    refine xq1 Z ⟨l,j,2,Z,R.seq r,by decide,(xq2 Z Z ⟨(by show(0:Int)<5;decide),?_⟩)⟩;refine⟨(c4:Int),Y7 (λz=>[V.int z]) Y,by lia,by lia,?_⟩;rw[N3];refine GH (n:=c4) (λi G H2=>H1=H2/\∃xs:List Int,G=xs.map V.int/\xs.length=i) ⟨Z,[],Z,Z⟩ ?_ ?_
    .rintro i G H2 hi ⟨rfl,xs,rfl,lx⟩;exact⟨⟨[some (.int (0+(i:Int)))],Z,Z⟩,by rw[B8,lx];exact Jr A1,EQ (xw2 Z Z (xq2 Z Z ⟨l,j,_,Z,R.seq r,by lia,Z,xs++[_],by rw[C0];rfl,by rw[C6,lx];rfl⟩))⟩
    .rintro G H2 ⟨rfl,xs,rfl,lx⟩ A hA;refine xq1 Z ⟨A,fw,xs,Z,Ag,by lia,ab.same (CP hA),λq U D ak C rok o=>O ?_⟩;have aa:=(R.trans (CP hA)).trans ak;refine AO ?_;intro r8 s8 k8 ai E8;refine xwb Z Z Z ⟨(by show(0:Int)<46;decide),(xq2 Z Z (ai ?_))⟩;have b0:=md2 (a:=3) (x:=atN j 1/2) (m:=46) (b:=48) A3 A3;have b1:=N2 (atN j 1/2/46) (by decide:(3:Int)≠0);have b2:=M8 (atN j 1/2/46) (by decide:(0:Int)<3);refine xw2 Z Z (xwb Z Z Z ⟨⟨by decide,by decide⟩,(xq2 Z Z ⟨(by show(0:Int)<3;decide),(xwb Z Z Z (xq1 Z (xq2 Z Z ⟨⟨by lia,by lia⟩,_,_,_,Z,λm m1 m2 m3 me=>?_⟩)))⟩)⟩);have m0:0<=m:=by
      have:=Int.ediv_nonneg (a:=12) (b:=3+atN j 1/2%46) A3 A1;lia
     exact fin q U _ _ D (3+atN j 1/2%46-2).toNat m.toNat aa C A1 A1 (.d rok o A1) A1 A1
   .refine AO ?_;intro r6 s6 k6 L E6;refine xwb Z Z Z ⟨B7,(xq2 Z Z (L ?_))⟩;refine AO ?_;intro r7 s7 k7 O E7;apply Li (T:=k7) (fun σ' D=>H=D/\∃g:Int,σ'=[some (.ref l),some (.int (atN j 0%8)),some (.int (atN j 1/2)),some (.int g),none,none]/\3<=g/\g<=9)
    .intro o;refine xq1 Z ⟨Z,(xq1 Z (FG (λ_=>?_) (λ_=>o _ _ ⟨Z,3+(atN j 1/2)%2,Z,md2 A3 A3⟩)))⟩;exact xwb Z Z Z ⟨B6,(xq2 Z Z (o _ _ ⟨Z,3+(atN j 1/2)%7,Z,md2 A3 A3⟩))⟩
    .rintro σ' D ⟨rfl,g,rfl,a1,a2⟩;refine O ?_;obtain⟨S,hw⟩:=M7 (N2 (atN j 2) (by decide:(9:Int)≠0));have w8:S<=8:=by lia
     have b1:=N2 ((atN j 1/2)/7) (show g-1≠0 by lia);have b2:=M8 ((atN j 1/2)/7) (show 0<g-1 by lia);refine xq1 Z (xq1 Z ⟨l,j,2,Z,r,by decide,(xq2 Z Z ⟨(by show(0:Int)<9;decide),l,j,0,S,by rw[<-hw];rfl,r,by decide,w8,λq M X y ms C=>(xw2 Z Z (xq2 Z Z ⟨⟨by decide,by decide⟩,(xwb Z Z Z (xq2 Z Z ⟨by lia,?_⟩))⟩))⟩)⟩);exact fin q _ _ _ X (g-2).toNat ((atN j 1/2)/7%(g-1)).toNat y C A1 A1 (.c M S ms w8 A1 Z) A1 A1
end
end J
namespace J
open PySem L2
theorem BV.kps{a:Ad}{H c:Hp}{p:R_}{x:Str}{r:AA}(k:KpS H c)(h:BV a H p x r):BV a c p x r:=h.kp λb o e n=>k b o e (.inl n)
def Dj(m m':MA):Prop:=m.kc≠m'.kc/\∀d∈m.ds,d∉m'.ds
theorem EM.nds{H:Hp}{g:GA}{G:Gv}{N M:Nat}{r:AA}{m:MA}(h:EM H g G N M r m){b:R_}{o:HO}(e:H b=some o)(n:∀d,o≠.dK d):b∉m.ds:=λz=>by
 obtain⟨j,c⟩:=F6 z;obtain⟨f,a,_⟩:=h.sq j b c;rw[e]at a;cases a;exact n _ Z
theorem EM.new{a:Ad}{H b:Hp}{g:GA}{G:Gv}{N M:Nat}{r:AA}{m:MA}(c:AE a H g G)(nl:H m.l=none)(nk:H m.kc=none)(j:b m.tp=some (.tup [.ref m.l,.ref m.kc]))(k:b m.l=some (.lst (m.ds.map V.ref)))(o:b m.kc=some (.dT []))(q:∀d∈m.ds,b d=some (.dK []))(s:m.ds.length=47)(t:m.ds.Nodup):EM b g G N M r m:=by
 obtain⟨x,i,_⟩:=c.pt;exact⟨j,k,⟨W8 (Aj c.lv nl),W8 (Aj i nl),W8 (Aj c.nm nk)⟩,s,t,λe d h=>⟨[],q d (D6 h),L5 _,λp u=>(nomatch u),λn v f=>by cases f⟩,⟨[],o,L5 _,λw v f=>by cases f⟩⟩
theorem FrJ.mem{a:Ad}{H c:Hp}{g:GA}{G:Gv}{N M:Nat}{r:AA}{m:MA}{x:R_}{k:List (Key×V)}(f:FrJ g m H c)(b:AE a H g G)(i:EM H g G N M r m)(e:H x=some (.dK k))(n:x∉m.ds):c x=some (.dK k):=by
 obtain⟨l,h,_⟩:=b.pt;obtain⟨j,d,_⟩:=i.ce;exact f _ _ e (Aq e b.lv A2) (Aq e h A2) (Aq e b.nm A2) (Aq e d A2) n
variable{a:Ad}{H H':Hp}{g:GA}{G G':Gv}{N M i:Nat}{b1 b2:JB}
theorem FrJ.atL{a:Ad}{H H':Hp}{g:GA}{G:Gv}{N M:Nat}{r:AA}{m:MA}{x:R_}{xs:List V}(f:FrJ g m H H')(d:EM H g G N M r m)(k:AE a H g G)(e:H x=some (.lst xs))(n:x≠g.lv)(o:x≠g.pt):H' x=some (.lst xs):=by
 obtain⟨p,h,_⟩:=d.ce;refine f _ _ e n o (Aq e k.nm A2) (Aq e h A2) λz=>?_;obtain⟨j,b⟩:=F6 z;obtain⟨l,c,_⟩:=d.sq j x b;rw[e]at c;cases c
section
variable{a:Ad}{H H':Hp}{g:GA}{G G':Gv}{Κ Κ':KTy}{N M b b' i:Nat}{p dx mem pr:R_}{r r':AA}{m m':MA}{ms ms':List (Str×MA)}
theorem Tj{p dx mem f c pr l n:R_}{k:List (Key×V)}(j:H p=some (.ins a.c_Jumps dx (jf5 f c pr l n)))(h:H mem=some (.dK k))(fr:∀b o,H b=some o->b≠p->b≠mem->H' b=some o):KpS H H':=λb o e s=>fr _ _ e (λz=>by
 rw[z,j]at e;cases e;rcases s with s|⟨_,s,_⟩
 .cases s with
  |ins q d =>
   rw[NJ]at d;exact absurd d (by show ¬5<=3;decide)
 .cases s) (s.nk e h)
structure Pq(H:Hp)(g:GA)(G:Gv)(Κ:KTy)(N b:Nat)(r:AA)(m:MA):Prop where
me:EM H g G N (b+10*N) r m
cn:∃f,Cn H G m Κ b f
theorem JZ.pq(h:JZ a H g G Κ N b p dx mem pr r m):Pq H g G Κ N b r m:=⟨h.jw.me,h.cn⟩
theorem Pq.kp(h:Pq H g G Κ N b r m)(ok:GOk G)(n:AR G G' i)(w:b<=b')(v:G'.length<=b')(k:∀x o,H x=some o->x=m.tp\/x=m.l\/x∈m.ds\/x=m.kc->H' x=some o):Pq H' g G' Κ N b' r m:=by
 obtain⟨f,c⟩:=h.cn;refine⟨(h.me.kp ok n k).mono (C9 _) A1,f,?_⟩;have q:=c.kp ok n (λd t o e=>k d o e (.inr (.inr (.inl t)))) λj e=>⟨j,k _ _ e (.inr (.inr (.inr Z))),Q1 _ _⟩
 obtain⟨j,s,u⟩:=c.ce;exact⟨q.sq,by lia,j,k _ _ s (.inr (.inr (.inr Z))),by lia⟩
theorem EM.part(h:EM H g G N M r m){x:R_}{o:HO}(e:H x=some o)(w:x=m.tp\/x=m.l\/x∈m.ds\/x=m.kc):(∃xs,o=.tup xs)\/((∃xs,o=.lst xs)/\x≠g.lv/\x≠g.pt)\/((∃f,o=.dK f)/\x∈m.ds)\/((∃d,o=.dT d)/\x=m.kc/\x≠g.nm):=by
 rcases w with z|z|z|z
 .have c:=h.tp;rw[<-z,e]at c;cases c;exact .inl ⟨_,Z⟩
 .have c:=h.l;rw[<-z,e]at c;cases c;exact .inr (.inl ⟨⟨_,Z⟩,by rw[z];exact h.ap.1,by rw[z];exact h.ap.2.1⟩)
 .obtain⟨j,k⟩:=F6 z;obtain⟨f,c,_⟩:=h.sq j x k;rw[e]at c;cases c;exact .inr (.inr (.inl ⟨⟨_,Z⟩,z⟩))
 .obtain⟨d,c,_⟩:=h.ce;rw[<-z,e]at c;cases c;exact .inr (.inr (.inr ⟨⟨_,Z⟩,z,by rw[z];exact h.ap.2.2⟩))
theorem Pq.oth(h:Pq H g G Κ N b r m)(d:AE a H g G)(ok:GOk G)(h':EM H g G N M r' m')(n:Dj m m')(f:FrJ g m' H H')(q:AR G G' i)(t:b<=b')(s:G'.length<=b'):Pq H' g G' Κ N b' r m:=by
 obtain⟨z,k,_⟩:=d.pt;obtain⟨u,c,_⟩:=h'.ce;refine h.kp ok q t s λx o e w=>?_;rcases h.me.part e w with ⟨xs,rfl⟩|⟨⟨xs,rfl⟩,j,l⟩|⟨⟨y,rfl⟩,j⟩|⟨⟨v,rfl⟩,j,l⟩
 .exact f _ _ e (Aq e d.lv A2) (Aq e k A2) (Aq e d.nm A2) (Aq e c A2) (h'.nds e A6)
 .exact f _ _ e j l (Aq e d.nm A2) (Aq e c A2) (h'.nds e A6)
 .exact f _ _ e (Aq e d.lv A2) (Aq e k A2) (Aq e d.nm A2) (Aq e c A2) (n.2 _ j)
 .exact f _ _ e (Aq e d.lv A2) (Aq e k A2) l (by rw[j];exact n.1) (h'.nds e A6)
theorem Pq.chg(h:Pq H g G Κ N b r m)(ok:GOk G)(j:G.length<=b)(c:H p=some (.ins a.c_Jumps dx (jf5 g.p mem pr m'.l m'.kc)))(d:H mem=some (.dK (mK ms)))(q:mem∉m.ds)(fr:∀x o,H x=some o->x≠p->x≠mem->H' x=some o):Pq H' g G Κ N b r m:=by
 refine h.kp ok (AR.refl ok) (C9 _) j λx o e w=>?_;rcases h.me.part e w with ⟨xs,rfl⟩|⟨⟨xs,rfl⟩,f,n⟩|⟨⟨s,rfl⟩,f⟩|⟨⟨k,rfl⟩,f,n⟩
 .exact fr _ _ e (Aq e c A2) (Aq e d A2)
 .exact fr _ _ e (Aq e c A2) (Aq e d A2)
 .exact fr _ _ e (Aq e c A2) λz=>q (z▸f)
 .exact fr _ _ e (Aq e c A2) (Aq e d A2)
theorem Pq.new(s:AE a H g G)(nl:H m.l=none)(nk:H m.kc=none)(j:H' m.tp=some (.tup [.ref m.l,.ref m.kc]))(n:H' m.l=some (.lst (m.ds.map V.ref)))(c:H' m.kc=some (.dT []))(f:∀d∈m.ds,H' d=some (.dK []))(o:m.ds.length=47)(q:m.ds.Nodup)(u:G.length<=b):Pq H' g G Κ N b r m:=by
 refine⟨EM.new s nl nk j n c f o q,λ_=>0,λe d h=>⟨[],f d (D6 h),Z,O6,λk t=>nomatch t⟩,by lia,[],c,L5 _⟩
theorem JW.chg(j:JW a H g G N M p dx mem pr r m)(u:H mem=some (.dK (mK ms)))(fr:∀x o,H x=some o->x≠p->x≠mem->H' x=some o):AE a H' g G/\H' g.br=some (.lst ((DZ 48).map V.int)):=by
 have h:∀{x:R_}{o:HO},H x=some o->(∀C d f,o≠.ins C d f)->x≠p:=λ{x o} e n=>Aq e j.hp (n _ _ _);have c:∀{x:R_}{o:HO},H x=some o->(∀k,o≠.dK k)->x≠mem:=λ{x o} e n=>Aq e u (n _);obtain⟨v,l,s⟩:=j.gr.pt;refine⟨⟨fr _ _ j.gr.hp (Aq j.gr.hp j.hp ?_) (c j.gr.hp A6),fr _ _ j.gr.lv (h j.gr.lv B4) (c j.gr.lv A6),⟨v,fr _ _ l (h l B4) (c l A6),PairedM.imp (λt q z=>fr _ _ z (h z B4) (c z A6)) s⟩,fr _ _ j.gr.nm (h j.gr.nm B4) (c j.gr.nm A6),j.gr.ne⟩,fr _ _ j.br (h j.br B4) (c j.br A6)⟩;intro z;injection z with _ _ z
 have:=Gy g;rw[z,En _ _ _ _ _ A0 A0 A0 A0 A0]at this;cases this
theorem JZ.newL(h:JZ a H g G Κ N b p dx mem pr r m){x:R_}(n:∀y o,H y=some o->y≠x):x≠g.lv/\x≠g.pt:=by
 obtain⟨d,c,_⟩:=h.jw.gr.pt;exact⟨W8 (n _ _ h.jw.gr.lv),W8 (n _ _ c)⟩
end
theorem Sk(c:Nat->Nat->Int):∀k,Bh [] k c=c
|0=>rfl
|k+1=>by
 show stp [] (Bh [] k c)=c;rw[Sk c k];rfl
theorem TF{G:Gv}(ok:GOk G){l e n m:Nat}(jr:JR [] G e n m)(o:An G n ((l+2:Nat):Int)):An G m ((l+1:Nat):Int)/\qO G m 0=qO G (qO G n 0) 3/\qO G m 1=qO G (qO G n 1) 2/\qO G m 2=qO G (qO G n 2) 1/\qO G m 3=qO G (qO G n 3) 0:=by
 obtain⟨b,f,_,h,k⟩:=jr;obtain rfl:b=l:=by
  have:=f.one o;lia
 rw[Sk]at k;have r:Vw G (AM G (b+2) n) (b+1) m (2^b) (2^b):=k;have s:Vw G (AM G (b+2) n) (b+1+1) n 0 0:=λx y _ _=>Z;have p:2^(b+1)=2^b*2:=L7 ..;have one:∀i j,i<2->j<2->qO G m (i+2*j)=qO G (qO G n (i+2*j)) (1-i+2*(1-j)):=λi j c d=>by
  refine Vw.one ok (Cu ok h A1) (Cu ok (Cu ok (l:=b+1) f A1) A1) (r.q c d) (((s.q c d).q (i:=1-i) (j:=1-j) A1 A1).at' ?_ ?_)
  .rw[p]
   match i,c with
   |0,_=>lia
   |1,_=>lia
  .rw[p]
   match j,d with
   |0,_=>lia
   |1,_=>lia
 exact⟨h,one 0 0 A3 A3,one 1 0 A3 A3,one 0 1 A3 A3,one 1 1 A3 A3⟩
theorem Vj{r:AA}(z:BO r=BO []):r=[]:=X9 λn=>of_decide_eq_false (SE n) (Y7 V.str (z.trans Z))
section
variable{a:Ad}{H H':Hp}{g:GA}{G G':Gv}{φ:D_}{Tt:Nat->Nat->Nat->Prop}{N b b' i:Nat}{p dx mem pr pr':R_}{r:AA}{m m' m2:MA}{ms' ms2:List (Str×MA)}
def Bk(H:Hp)(g:GA)(G:Gv)(φ:D_)(Tt:Nat->Nat->Nat->Prop)(N b:Nat)(mem:R_)(r:AA)(m m':MA)(ms':List (Str×MA)):Prop:=(r=[]/\m'=m/\ms'=[(BO r,m)])\/(Dj m m'/\Pq H g G (Kp r φ Tt) N b r m/\ms'=[(BO r,m),(BO [],m')]/\BO r≠BO []/\mem∉m.ds)
theorem chg_to(z:JZ a H g G (Kp r φ Tt) N b p dx mem pr r m)(n:H mem=some (.dK (mK [(BO r,m)])))(w:mem∉m.ds)(S:b<=b')(u:G.length<=b')(R:BV a H pr' (BO []) [])(fr:∀x o,H x=some o->x≠p->x≠mem->H' x=some o)(f:H' p=some (.ins a.c_Jumps dx (jf5 g.p mem pr' m'.l m'.kc)))(c:UF H H' (BO []) [(BO r,m)] ms' m'):JZ a H' g G (Kp [] φ Tt) N b' p dx mem pr' [] m'/\mem∉m'.ds/\Bk H' g G φ Tt N b' mem r m m' ms'/\BV a H' pr (BO r) r:=by
 have j:=z.jw;have kp:=Tj j.hp n fr;obtain⟨v,k⟩:=j.chg n fr;have C:∀{m':MA},H' p=some (.ins a.c_Jumps dx (jf5 g.p mem pr' m'.l m'.kc))->Pq H' g G (Kp [] φ Tt) N b' [] m'->JZ a H' g G (Kp [] φ Tt) N b' p dx mem pr' [] m':=λ{m'} f pq=>⟨⟨v,j.ok,j.bs,k,j.nbr,f,R.kps kp,JF.1.t,JF.2,pq.me⟩,pq.cn⟩
 have pk:Pq H' g G (Kp r φ Tt) N b' r m:=(z.pq.kp (b':=b') j.ok (AR.refl j.ok) S u λ_ _ e _=>e).chg j.ok u j.hp n w fr;cases c with
 |old q s =>
  have e:=C8.mp q;have F:=Vj (Y7 Prod.fst e).symm;have E:m'=m:=Y7 Prod.snd e;subst F;subst E;exact⟨C f pk,w,.inl ⟨Z,Z,s⟩,j.ru.kps kp⟩
 |new q s h I K L O P Q =>
  refine⟨C f (Pq.new j.gr h.2.1 h.2.2.1 I K L O P Q u),λz=>?_,.inr ⟨⟨?_,λd T z=>?_⟩,pk,q,s _ (C8.mpr Z),w⟩,j.ru.kps kp⟩
  .have:=h.2.2.2 _ z;rw[n]at this;cases this
  .obtain⟨B,D,_⟩:=j.me.ce;exact Aj D h.2.2.1
  .obtain⟨y,U⟩:=F6 T;obtain⟨V,A,_⟩:=j.me.sq y d U;rw[h.2.2.2 _ z]at A;cases A
theorem Bk.step(h:Bk H g G φ Tt N b mem r m m' ms')(z:JZ a H g G (Kp [] φ Tt) N b p dx mem pr' [] m')(f:FrJ g m' H H')(d:AR G G' i)(n:b<=b')(l:G'.length<=b'):Bk H' g G' φ Tt N b' mem r m m' ms':=by
 rcases h with h|⟨c,pk,e,j,k⟩
 .exact .inl h
 .exact .inr ⟨c,pk.oth z.jw.gr z.jw.ok z.jw.me c f d n l,e,j,k⟩
theorem Bk.tps(h:Bk H g G φ Tt N b mem r m m' ms')(z:JZ a H g G (Kp [] φ Tt) N b p dx mem pr' [] m'):ms'.length<=1000/\∀e∈ms',H e.2.tp=some (.tup [.ref e.2.l,.ref e.2.kc]):=by
 rcases h with ⟨_,rfl,rfl⟩|⟨d,pk,rfl,f,j⟩
 .exact⟨by show 1<=1000;decide,λe c=>by rw[C8.mp c];exact z.jw.me.tp⟩
 .refine⟨by show 2<=1000;decide,λe c=>?_⟩;rcases D1.mp c with rfl|c
  .exact pk.me.tp
  .rw[C8.mp c];exact z.jw.me.tp
theorem Wi(h:Bk H g G φ Tt N b mem r m m' ms')(z:JZ a H g G (Kp [] φ Tt) N b p dx mem pr' [] m')(v:mem∉m'.ds)(q:H mem=some (.dK (mK ms')))(w:G.length<=b)(rok:Mh r)(n:Co r 0 Cb=0)(D:BV a H pr (BO r) r)(fr:∀x o,H x=some o->x≠p->x≠mem->H' x=some o)(u:H' p=some (.ins a.c_Jumps dx (jf5 g.p mem pr m2.l m2.kc)))(c:UF H H' (BO r) ms' ms2 m2):JZ a H' g G (Kp r φ Tt) N b p dx mem pr r m2:=by
 have j:=z.jw;have kp:=Tj j.hp q fr;obtain⟨t,k⟩:=j.chg q fr;have E:Pq H' g G (Kp r φ Tt) N b r m2->JZ a H' g G (Kp r φ Tt) N b p dx mem pr r m2:=λpq=>⟨⟨t,j.ok,j.bs,k,j.nbr,u,D.kps kp,rok,n,pq.me⟩,pq.cn⟩
 refine E ?_;cases c with
 |old f s =>
  rcases h with ⟨A,y,d⟩|⟨F,pk,d,B,C⟩
  .rw[d]at f;have e:m2=m:=Y7 Prod.snd (C8.mp f);subst A;subst y;subst e;exact z.pq.chg j.ok w j.hp q v fr
  .rw[d]at f;rcases D1.mp f with e|f
   .have e:m2=m:=Y7 Prod.snd e;subst e;exact pk.chg j.ok w j.hp q C fr
   .exact absurd (Y7 Prod.fst (C8.mp f)) B
 |new f s _ _ _ _ _ _ _ =>
  rcases h with ⟨_,_,d⟩|⟨_,_,d,_⟩
  .exact absurd Z (s (BO r,m) (by rw[d];exact C8.mpr Z))
  .exact absurd Z (s (BO r,m) (by rw[d];exact D8))
end
seal L2.PA L2.PE L2.PS L2.PSs L2.PT L2.PW
theorem blk_one(G:Gv)(n:Nat):Blk G 1 n 1:=⟨[(0,0)],C9 _,λx y b c _=>⟨_,C8.mpr Z,L5 _,by simpa using b,L5 _,by simpa using c⟩⟩
section
variable{P:N_}{w:Q_}{K:O_}{mg:C_}{base:T_}{a:Ad}
theorem ok_law(F:Fun K "law" "law" Sy f fd)(T:Top K mg a)(cR:Qo P w K mg base CX0 2 "Grove" a.c_Grove Ig (Pg a))(aE:Cal P w K mg base CX0 1 "_law_at" Uc (TJ K))(cA:Cal P w K mg base CX0 4 "_law_plan" II (spPl K))(aO:BD P w K mg base CX0 3 a.c_Grove "leaf" PQ (MW a))(aB:BD P w K mg base CX0 4 a.c_Grove "joined" BX (Js a))(bU:Cal P w K mg base CX0 6 "_law_higher" Gq (spHi a K))(bZ:Cal P w K mg base CX0 2 "_law_text" Mn UX)(bO:Cal P w K mg base CX0 8 "read_rule" Gk (spRR a))(cQ:Qo P w K mg base CX0 3 "Jumps" a.c_Jumps PP (Pf a))(bE:BD P w K mg base CX0 152 a.c_Jumps "after" On (EC a 47))(aA:BD P w K mg base CX0 4 a.c_Grove "quarters" IR (Ml a))(aS:BD P w K mg base CX0 2 a.c_Jumps "change" DT (Ss a))(b8:BD P w K mg base CX0 200 a.c_Jumps "reasons" On (spRs a 47))(bF:Cal P w K mg base CX0 8 "_law_walked" Gm (spWa a))(aY:Cal P w K mg base CX0 1 "_law_same" QO Pb)(bS:Cal P w K mg base CX0 5 "_law_middle" ET (spMi a)):AT P w K mg base CX0 201 f fd ["_law_script"] (Sn K):=by
 refine F.ok (ps:=["_law_script"]) EE (λvs H Q E h=>?_) (λgt A ga s H vs Q E C h=>?_)
 .obtain⟨l,ns,rfl,_⟩:=h;rfl
 .obtain⟨l,ns,rfl,hS,gc,kQ⟩:=h;refine⟨_,(Ae (Av (i:=1) EE.nd Z (Or.inr Z) (Vq cR (rm C) Z Ao)) (Ae (Nm (AB cA (rm C) Z Ao (Aa (pv 0) Ab)) (EJ Z (AX (AN (i:=2) EE.nd Z O_9) (AX (AN (i:=3) EE.nd Z O_9) (AX (AN (i:=4) EE.nd Z O_9) Dm))))) (Ae (CW (i:=5) Z EE.nd Z Z (Bn.of (So:=Ai Sy) (No:=dD) (N:=["_law_k","_law_script","_law_grove"]) (k:=1) (cs:=[0,1]) Z Z A0) (Ce Z T.b_range (AJ Ab)) (λ_ _ _=>(AY (i:=0) A0 Z Z)) (λ_ _ _=>BB) (λ_ _ _=>(Aw (pv 2) aO (rm C) Ao (BI AZ (AB aE (rm C) Z Ao (Aa (pv 1) (BI Be Ac (pv 0) Ab))) Ac Ab)))) (Ae (Ba (Cf W5 W6 W7 Bd (pv 5) (Aa (Aw (pv 1) aO (rm C) Ao (BI Be Ac (AG AZ (AG Dp (AB aE (rm C) Z Ao (Aa (pv 0) (AJ Ab))) Ac) Ac) Ab)) Ab))) (Ae (Av (i:=6) EE.nd Z O_9 (Aw (pv 1) aB (rm C) Ao (Aa (Ah Au (pv 5) Ac R_9) (Aa (Ah Au (pv 5) Ac R_9) (Aa (Ah Au (pv 5) Ac R_9) (Aa (Ah Au (pv 5) Ac R_9) Ab)))))) (Ae (Av (i:=6) EE.nd Z O_9 (AB bU (rm C) Z Ao (Aa (pv 0) (Aa (pv 1) (Aa (pv 6) (Aa (pv 3) (Aa (Do Ci (AG AZ (AB aE (rm C) Z Ao (Aa (pv 0) (AJ Ab))) Ac) Ac (AI _)) (Aa (Bp OP Z T.b_int Z6 (Aa (Do Lb (pv 3) Ac (AI _)) Ab)) Ab)))))))) (Ae (Av (i:=7) EE.nd Z O_9 (AB bO (rm C) Z Ao (Aa (AB bZ (rm C) Z Ao (Aa (pv 2) Ab)) Ab))) (Ae (Av (i:=8) EE.nd Z O_9 (JY cQ (rm C) Z Ao (Aa (pv 1) (Aa (pv 7) Ab)))) (Ae (Av (i:=9) EE.nd Z O_9 (Aw (pv 8) b8 (rm C) Ao (Aa (pv 6) (Aa (pv 4) Ab)))) (Ae (AS (PW.pt (Ir (CB (Cv (AB bF (rm C) Z Ao (Aa (pv 1) (Aa (pv 2) (Aa (pv 9) (Aa (pv 6) (Aa (pv 4) Ab)))))))) (Ft (CB (Cv (AB aY (rm C) Z Ao (Aa (Aw (pv 8) bE (rm C) Ao (Aa (pv 6) (Aa (pv 4) Ab))) (Aa (Ah Ap (Ah Au (pv 9) (JV GL Ac) R_9) Ac R_9) Ab)))))))) (Af (Ax Df)) AD) (Ae (AS (AF Oy (pv 3) Ac (AI _)) (Af (Ax Df)) AD) (Ae (Ba (Aw (pv 8) aS (rm C) Ao (Aa (AB bO (rm C) Z Ao (Px Ab)) Ab))) (Ae (Av (i:=10) EE.nd Z O_9 (Aw (pv 8) b8 (rm C) Ao (Aa (pv 6) (Aa (pv 4) Ab)))) (Ae (AS (CB (Cv (AB bF (rm C) Z Ao (Aa (pv 1) (Gi Ab (Aa (pv 10) (Aa (pv 6) (Aa (pv 4) Ab)))))))) (Af (Ax Df)) AD) (Ae (AS (AF (Nq C.units) (Bp Ik Z T.b_list K4 (Aa (Aw (pv 1) aA (rm C) Ao (Aa (Ah Ap (Ah Au (pv 10) (JV GL Ac) R_9) Ac R_9) Ab)) Ab)) (AB bS (rm C) Z Ao (Aa (pv 1) (Aa (pv 6) Ab))) (AI _)) (Af (Ax Df)) AD) (Ae (Ba (Aw (pv 8) aS (rm C) Ao (Aa (pv 7) Ab))) (Af (Ax (pe_or (Do Oy (pv 3) Ac (AI _)) (Jy (AB aY (rm C) Z Ao (Aa (Aw (pv 8) bE (rm C) Ao (Aa (pv 6) (Aa (pv 4) Ab))) (Aa (Ah Ap (Ah Au (pv 9) (JV GL Ac) R_9) Ac R_9) Ab))))))))))))))))))))))),?_⟩
  try dsimp only[cxK]
  refine AO ?_;intro r0 s0 k0 fw gi;intro x dx nx fb gz;refine⟨x,dx,Z,Ag,λg H1 gp N=>⟨Z,?_⟩⟩;have s1:Az H H1:=λb o e=>N.kp b o (by rw[Ar (Aj e nx),Ar (Aj e fb)];exact e) (gp▸Aj e nx);subst gp;have ef:=N.at';have cm:=N.br;have nb:=And.intro N.n1 N.n2;have bn:∀o,H l=some o->l≠g.lv/\l≠g.pt/\l≠g.nm:=λo e=>by
   have e2:upd (upd H dx (.own g.p)) g.p (.ins a.c_Grove dx []) l=some o:=by rw[Ar (Aj e nx),Ar (Aj e fb)];exact e
   exact⟨Aj e2 N.fresh.1,Aj e2 N.fresh.2.1,Aj e2 N.fresh.2.2.1⟩
  clear N;have eb:=s1.seq hS;refine fw ?_;refine AO ?_;intro r1 g6 k1 fx E1;refine xq1 Z ⟨l,ns,Z,eb,λt q rl v e H2 s2 ht hq kd ev hh=>?_⟩;refine⟨t,_,Z,SqT.of ht,Z,_,_,Z,_,_,Z,_,_,Z,Z,fx ?_⟩;have du:=s1.trans s2;have dd:=du.seq hS;have bu:=ef.same s2;have a5:=s2 _ _ cm;clear ht eb;refine AO ?_;intro r2 g7 k2 fy E2;refine⟨3,Z,by decide,by decide,?_⟩;refine GH (n:=3) (λi c8 Hx=>H2=Hx/\∃ys:List Nat,c8=ys.map toV/\ys.length=i/\∀y∈ys,y<8) ⟨Z,[],Z,Z,λy hy=>nomatch hy⟩ ?_ ?_
  .rintro i c8 Hx hi ⟨rfl,ys,rfl,ly,y8⟩;refine⟨⟨[some (.int (0+(i:Int)))],Z,Z⟩,by rw[B8,ly];exact Jr A1,EQ (xq1 Z (xq3 Z bu.hp (MJ g) (xw2 Z Z (xq2 Z Z ⟨l,ns,_,Z,dd,by lia,(xq2 Z Z ⟨B2,g.p,_,Z,N2 _ A3,M8 _ A3,Z,ys++[(atN ns (3+(0+(i:Int)))%8).toNat],?_,by rw[C6,ly];rfl,λy hy=>?_⟩)⟩))))⟩
   .rw[C0];show _=_++[V.int (((atN ns (3+(0+(i:Int)))%8).toNat:Nat):Int)]
    rw[S0 (N2 _ A3)]
   .rcases D3.mp hy with z|z
    .exact y8 y z
    .rw[C8.mp z];have:=M8 (atN ns (3+(0+(i:Int)))) (by decide:(0:Int)<8);lia
  .rintro c8 Hx ⟨rfl,ys,rfl,ly,y8⟩ FL d7;refine fy ?_;obtain⟨x0,x1,x2,rfl⟩:∃x0 x1 x2,ys=[x0,x1,x2]:=by
    match ys,ly with
    |[x0,x1,x2],_=>exact⟨x0,x1,x2,Z⟩
   generalize cD:upd H2 FL _=H3;obtain⟨s3,db⟩:=alc d7 cD;clear cD;refine AO ?_;intro r3 g8 k3 fz E3;have eg:=bu.same s3;obtain⟨x3,e0⟩:∃x3:Nat,1+atN ns 5/8%7=(x3:Int):=⟨(1+atN ns 5/8%7).toNat,by lia⟩
   have fo:x3<8:=by lia
   refine xq1 Z ⟨.inl ⟨Z,_,SqL.of db⟩,(xq1 Z (xq3 Z eg.hp (MJ g) (xq1 Z ⟨l,ns,5,Z,s3.seq dd,by decide,(xq2 Z Z ⟨⟨by decide,by decide⟩,(xq2 Z Z ⟨B6,(xq2 Z Z ⟨g.p,(x3:Int),Y7 (λz=>[V.ref g.p,V.int z]) e0,by lia,by lia,FL,(xq2 Z Z ⟨db,by show 3<sizeLine;decide,fz ?_⟩)⟩)⟩)⟩)⟩)))⟩;have s4:Az H2 (upd H3 FL (.lst [toV x0,toV x1,toV x2,toV x3])):=λb o e=>by rw[Ar (Aj e d7)];exact s3 _ _ e
   have aw:upd H3 FL (.lst [toV x0,toV x1,toV x2,toV x3]) FL=some (.lst [toV x0,toV x1,toV x2,toV x3]):=Ag;show r3 _ (upd H3 FL (.lst [toV x0,toV x1,toV x2,toV x3]));generalize upd H3 FL (.lst [toV x0,toV x1,toV x2,toV x3])=H4 at s4 aw⊢;clear db s3 eg;have a6:=bu.same s4;have lf:∀{x:Nat},x<8->An G0 x ((0:Nat):Int):=λ{x} h=>⟨_,g0_ok.leaf x h,Z⟩
   refine AO ?_;intro r4 g9 k4 f0 E4;refine xwn Z Z a6.hp (Dx g) Z (xq4 Z Z (SqL.of aw) (Am (j:=0) Z) (xwi Z Z Z (SqL.of aw) (Am (j:=1) Z) (xwi Z Z Z (SqL.of aw) (Am (j:=2) Z) (xwi Z Z Z (SqL.of aw) (Am (j:=3) Z) ⟨g,G0,x0,x1,x2,x3,_,Z,a6,g0_ok,⟨lf (y8 _ B0),lf (y8 _ B0),lf (y8 _ B0),lf fo⟩,by decide,by rw[Qe];decide,λn1 G1 H5 bp eh S d2=>f0 ?_⟩))));have fg:=du.trans s4;have dv:∀H',Fr g H4 H'->SqL K H' l (ns.map V.int):=λH' fr=>by
    have kk:∀o,H l=some o->H' l=some o:=λo e=>fr _ _ (fg _ _ e) (bn o e).1 (bn o e).2.1 (bn o e).2.2;rcases hS with (h|⟨o,h⟩)|h
    .exact .inl (.inl (kk _ h))
    .exact .inl (.inr ⟨o,kk _ h⟩)
    .exact .inr h
   refine AO ?_;intro r5 ha k5 f1 E5;obtain⟨tw,d4,fm,fn⟩:∃tw:Nat,(if decide (((v+2:Nat):Int)<10)=true then(1:Int)else 0)=(tw:Int)/\tw<=1/\(8<=v->tw=0):=by
    by_cases z:((v+2:Nat):Int)<10
    .exact⟨1,by rw[W1 z];rfl,C9 _,λy=>by lia⟩
    .exact⟨0,by rw[W3 z];rfl,L5 _,λ_=>Z⟩
   have l1:G1.length<=57:=by
    have:=S.few;rw[Qe]at this;lia
   refine xw2 Z Z (xw2 Z Z (xq1 Z ⟨l,ns,1,Z,dv H5 bp,by decide,(xq2 Z Z ⟨B7,Z,(xwb Z Z Z (.inr ⟨_,Z,?_⟩))⟩)⟩));refine⟨g,G1,l,ns,n1,v+2,tw,_,by rw[<-d4];rfl,λH' fr=>dv H' (bp.trans fr),eh,S.ok,⟨_,d2,Z⟩,blk_one _ _,by lia,by lia,fm,by lia,λn G2 H6 d5 ei R ln bl=>f1 ?_⟩;have az:=bp.trans d5;have dq:=R.ok;have l2:G2.length<=12000:=by
    have:=R.few;lia
   have d0:Bs G2:=(show Bs G0 from Qf).goes (S.trans R);have e6:=az.kps a6 (by rw[Qe];decide);obtain⟨rok,au⟩:=kd.ok;have df:=(hq.same s4).kps e6 rok;have co:=az _ _ (s4 _ _ a5) nb.1 nb.2 (Aq (s4 _ _ a5) a6.nm A2);have fin:GC (Kp (rl.map LC4.a) (sqF G2 (v+2) n) (Tq e)) 60000:=kd.fin dq ln ev A1 bl A1 (λy=>by have:=fn y;lia);have cl:=kp_cl rok.t au (φ:=sqF G2 (v+2) n) (tq_c e);have top:∀r,Kp r (sqF G2 (v+2) n) (Tq e) v e (AM G2 (v+2) n):=λr=>kp_top A1 ev;have am:GC (Kp [] (sqF G2 (v+2) n) (Tq e)) 60000:=nil_fin A1 bl A1;have d1:=kp_cl (r:=[]) JF.1.t JF.2 (φ:=sqF G2 (v+2) n) (tq_c e);generalize sqF G2 (v+2) n=φ at fin cl top am d1;clear dv bn hS dd ef bu a6 eh S R bp d5 d2 aw s1 s2 s4 du fg cm a5 hq kd fn d4 fm bl az e6 lf y8 e0 fo;refine AO ?_;intro r6 fh k6 f2 E6;have es:fh=[some (.ref l),some (.ref g.p),some (.ref q),some (.int ((v+2:Nat):Int)),some (.int (e:Int)),some (.ref FL),some (.int (n:Int)),none,none,none,none]:=rfl
   clear_value fh
   subst es;refine xq1 Z ⟨q,rl,Z,df,rok,λH7 s7=>⟨rl.map LC4.a,Z,rok.t,au,λpr H8 s8 hR=>f2 ?_⟩⟩;have bz:=s7.trans s8;have de:=ei.same bz;have cp:=bz _ _ co;have ew:=df.same bz;clear s7 s8 bz ei co df;refine AO ?_;intro r7 hc k7 f3 E7;refine xw2 Z Z ?_;intro p I np fa fc;have nq:upd H8 I (.own p) p=none:=by rw[Ar (W8 fc)];exact np
   have sj:Az H8 (upd (upd H8 I (.own p)) p (.ins a.c_Jumps I [])):=(show Az H8 _ from Al fa).trans (Al nq);refine⟨p,I,g.p,pr,BO (rl.map LC4.a),rl.map LC4.a,Z,Ag,hR.same sj,λH9 mem m d6 f9 eu et c9 ez hl ep ee be nd fe=>⟨Z,f3 ?_⟩⟩;have s9:Az H8 H9:=λb o e=>d6 b o (sj b o e) (Aj e np);have z9:JZ a H9 g G2 (Kp (rl.map LC4.a) φ (Tq e)) 60000 12000 p I mem pr (rl.map LC4.a) m:=by
    have pq:Pq H9 g G2 (Kp (rl.map LC4.a) φ (Tq e)) 60000 12000 (rl.map LC4.a) m:=Pq.new de (Az.noneN sj c9.2.1) (Az.noneN sj c9.2.2.1) ez hl ep ee be nd l2;exact⟨⟨de.same s9,dq,d0,s9 _ _ cp,nb,eu,hR.same s9,rok.t,au,pq.me⟩,pq.cn⟩
   have ad:mem∉m.ds:=λz=>fe _ z Z;have ex:=ew.same s9;clear de cp ew hR sj nq np fa fc d6 f9 eu c9 ez hl ep ee be nd fe s9 d0;refine AO ?_;intro r8 hd k8 f4 E8;refine xwn Z Z z9.jw.hp (En _ _ _ _ _ A0 A0 A0 A0 A0) Z (xq1 Z ⟨p,I,mem,pr,g,G2,_,60000,12000,_,m,n,v,e,Z,z9,fin,cl,ln,by lia,ev,top _,by decide,λTr ts e1 mm G3 fp i3 ay bf c da bq ah ai len=>f4 ?_⟩);have ct:=ay.mem z9.jw.gr z9.jw.me et ad;have cz:=ex.kps (ay.kps z9.jw.gr z9.jw.bs.long z9.jw.me) rok;have nT:=z9.newL bf;have e8:=da.lev ln;have c4:∀r,Kp r φ (Tq e) v e (AM G3 (v+2) n):=λr=>by rw[AQ dq da ln];exact top r
   have c:=c.mono (b':=852000) A3;have l3:G3.length<=1452000:=D4 (c.sz fin) A3;clear z9 et ex ay bf top;refine AO ?_;intro r9 hf k9 f5 E9;refine xw3 Z Z Z (xw2 Z Z ⟨g,G3,q,Tr,rl,n,e,mm,60000,ts,e1,Z,c.jw.gr,c.jw.ok,c.jw.bs.long,by decide,F3 (R5 l3 _) A3,cz,rok,bq,nT,ah,ai,len,λG4 c5 X cq a0=>⟨true,Z,Bl ?_⟩⟩);have dk:=a0.lev e8;have bi:∀r,Kp r φ (Tq e) v e (AM G4 (v+2) n):=λr=>by rw[AQ c.jw.ok a0 e8];exact c4 r
   have D:=(c.fr X cq a0).mono (b':=2052000) A3;have cu:=(Fr.j X:FrJ g m fp c5).mem c.jw.gr c.jw.me ct ad;have ci:c5 Tr=some (.lst (ts.map V.ref)):=X _ _ bq nT.1 nT.2 (Aq bq c.jw.gr.nm A2);obtain⟨ti,tl,d3,_,ey⟩:=OY ah;have al:atI (ts.map V.ref) (-1)=some (.ref tl):=Lx (by rw[d3,C0,R8];rfl);have a9:c5 tl=some (.tup [toV n,toV e,toV mm]):=(X.kps c.jw.gr c.jw.bs.long) _ _ ey (.inl .tup);have e4:JR (rl.map LC4.a) G4 e n mm:=(ai.ok ⟨n,e,mm⟩ (D3.mpr (.inr (C8.mpr Z)))).goes c.jw.ok a0;have cc:∀b,b<=6000000->b+10*60000+10*(v+1)<8000000:=λb hb=>F3 (Nat.add_le_add (R5 hb _) (N1 10 (show v+1<=47 by lia))) A3;clear ct bq ah ey d3 ai c c4 l3 cz len cq X;refine xwn Z Z D.jw.hp (OB _ _ _ _ _) Z (xq1 Z ⟨p,I,mem,pr,g,G4,_,60000,2052000,_,m,n,v,e,Z,D,fin,cl,dk,by lia,ev,bi _,cc _ A3,λkk G5 fq i5 an bm S c2 _=>?_⟩);have cv:=an.mem D.jw.gr D.jw.me cu ad;have a2:=an.atL D.jw.me D.jw.gr ci nT.1 nT.2;have dj:=an.kps D.jw.gr D.jw.bs.long D.jw.me;have ag:fq tl=some (.tup [toV n,toV e,toV mm]):=dj _ _ a9 (.inl .tup);have bx:=S.lev dk;have bj:∀r,Kp r φ (Tq e) v e (AM G5 (v+2) n):=λr=>by rw[AQ D.jw.ok S dk];exact bi r
   have di:=e4.goes D.jw.ok S;have bo:kk=mm:=JR.one bm.jw.ok c2 di;clear D cu ci a9 dj an bi c2 e4 S a0 da;refine xwj Z Z Z Z (SqL.of a2) al (xq4 Z Z (SqT.of ag) (Am (j:=2) Z) ⟨(mm:Int),by rw[bo];rfl,true,Z,Bl (f5 ?_)⟩);clear bo;refine AO ?_;intro g0 gd gu ej gj;refine xwb Z Z Z (xq1 Z (FG (λ_=>kQ _) (λ_=>ej ?_)));refine AO ?_;intro g1 c3 gv ek gk;have es:c3=[some (.ref l),some (.ref g.p),some (.ref q),some (.int ((v+2:Nat):Int)),some (.int (e:Int)),some (.ref FL),some (.int (n:Int)),some (.ref pr),some (.ref p),some (.ref Tr),none]:=rfl
   clear_value c3
   subst es;have l5:G5.length<=2652000:=D4 (bm.sz fin) A3;refine xq1 Z (xq3 Z bm.jw.hp (Ny _ _ _ _ _) ⟨[],Z,JF.1.t,JF.2,λff gq bh dc=>?_⟩);have b0:=bm.same bh;have aa:=bh _ _ cv;have aq:=bh _ _ a2;have U:=bh _ _ ag;clear bm cv a2 ag bh;have as:=b0.jw.hp;refine⟨p,I,mem,ff,_,BO [],[],[(BO (rl.map LC4.a),m)],Z,as,SU _ _ _ _ _,by rw[NJ];show 5<=10;decide,aa,by show 1<=1000;decide,λe he=>by rw[C8.mp he];exact b0.jw.me.tp,dc,λdw m' e9 ao a7 cw chg=>ek ?_⟩;rw[ST]at a7;obtain⟨u,dp,b4,cf⟩:=chg_to b0 aa ad (b':=2652000) A3 l5 dc ao a7 chg;have cj:dw Tr=some (.lst (ts.map V.ref)):=ao _ _ aq (Aq aq as A2) (Aq aq aa A2);have ba:dw tl=some (.tup [toV n,toV e,toV mm]):=ao _ _ U (Aq U as A2) (Aq U aa A2);clear b0 aa aq U as a7 ao chg dc ad;refine AO ?_;intro g2 ge dj el gl;refine xwn Z Z u.jw.hp (En _ _ _ _ _ A0 A0 A0 A0 A0) Z (xq1 Z ⟨p,I,mem,ff,g,G5,_,60000,2652000,_,m',n,v,e,Z,u,am,d1,bx,by lia,ev,bj _,by decide,λTs tz f7 mz G6 c6 i6 Y bg ak R bt ah ai len=>el ?_⟩);have bv:=Y.kps u.jw.gr u.jw.bs.long u.jw.me;have cx:=Y.mem u.jw.gr u.jw.me cw dp;have a3:=Y.atL u.jw.me u.jw.gr cj nT.1 nT.2;have bb:c6 tl=some (.tup [toV n,toV e,toV mm]):=bv _ _ ba (.inl .tup);have cg:=cf.kps bv;have dn:=u.newL bg;have dl:=R.lev bx;have e5:=di.goes u.jw.ok R;have b9:=AQ u.jw.ok R bx;have ak:=ak.mono (b':=3492000) A3;have l6:G6.length<=4092000:=D4 (ak.sz am) A3;have b5:=b4.step (b':=5300000) u Y R A3 (D4 l6 A3);clear u b4 cw cj ba cf Y bg bv di;refine AO ?_;intro g3 gf gw em gm;refine xq1 Z ⟨S_0,λLQ d8=>?_⟩;show ∃_,_;generalize dF:upd c6 LQ _=c7;obtain⟨B,c0⟩:=alc d8 dF;clear dF;have d:=ak.same B;refine xw3 Z Z Z ⟨g,G6,LQ,Ts,[],n,e,mz,60000,tz,f7,Z,d.jw.gr,d.jw.ok,d.jw.bs.long,by decide,F3 (R5 l6 _) A3,⟨[],c0,.nil⟩,JF.1,B _ _ bt,dn,Paired.imp (λt q (z:DW c6 t q)=>(B _ _ z:DW c7 t q)) ah,ai,len,λG7 av L cr af=>⟨true,Z,Bl (em ?_)⟩⟩;have b6:Bk c7 g G6 φ (Tq e) 60000 5300000 mem (rl.map LC4.a) m m' e9:=b5.step (ak.mono (b':=5300000) A3) (Az.j B) (AR.refl ak.jw.ok) (C9 _) (D4 l6 A3);have O:=(d.fr L cr af).mono (b':=4692000) A3;have l7:G7.length<=5292000:=D4 (O.sz am) A3;have b7:=b6.step (b':=5300000) (d.mono (b':=5300000) A3) (Fr.j L) af (C9 _) (D4 l7 A3);have bw:=L.kps d.jw.gr d.jw.bs.long;have cy:=(Fr.j L:FrJ g m' c7 av).mem d.jw.gr d.jw.me (B _ _ cx) dp;have ck:av Tr=some (.lst (ts.map V.ref)):=L _ _ (B _ _ a3) nT.1 nT.2 (Aq (B _ _ a3) d.jw.gr.nm A2);have a4:av Ts=some (.lst (tz.map V.ref)):=L _ _ (B _ _ bt) dn.1 dn.2 (Aq (B _ _ bt) d.jw.gr.nm A2);have bc:av tl=some (.tup [toV n,toV e,toV mm]):=bw _ _ (B _ _ bb) (.inl .tup);have ch:=(cg.same B).kps bw;obtain⟨hg,fi,cb,_,c1⟩:=OY ah;have dz:atI (tz.map V.ref) (-1)=some (.ref fi):=Lx (by rw[cb,C0,R8];rfl);have bd:av fi=some (.tup [toV n,toV e,toV mz]):=bw _ _ (B _ _ c1) (.inl .tup);have jz:JR [] G7 e n mz:=(ai.ok ⟨n,e,mz⟩ (D3.mpr (.inr (C8.mpr Z)))).goes d.jw.ok af;have dm:=af.lev dl;have f8:=e5.goes d.jw.ok af;have fj:∀r,Kp r φ (Tq e) v e (AM G7 (v+2) n):=λr=>by rw[AQ d.jw.ok af dl,b9];exact bj r
   obtain⟨e7,q0,q1,q2,q3⟩:=TF O.jw.ok jz dm;clear b5 b6 ak d l6 L bw cx a3 bt bb c1 cb ah ai len cg e5 B c0 d8 cr af R jz bj b9 dl bx;refine AO ?_;intro g4 gg gx en gn;refine xq1 Z (xq3 Z O.jw.gr.hp (BL g) (xwj Z Z Z Z (SqL.of a4) dz (xq4 Z Z (SqT.of bd) (Am (j:=2) Z) ⟨g,G7,mz,_,Z,O.jw.gr,O.jw.ok.fourq e7,by show((v+1:Nat):Int)≠0;lia,λtq f6=>⟨tq,_,Z,.inr (SqT.of f6),λLq ea=>?_⟩⟩)));show ∃_,_;generalize dE:upd av Lq _=gs;obtain⟨dr,ce⟩:=alc ea dE;clear dE;refine xw2 Z Z ⟨g,G7,n,v,Z,O.jw.gr.same dr,O.jw.ok,dm,λLm ft dt d9=>⟨Lq,Lm,_,_,Z,Z,SqL.of (dt _ _ ce),SqL.of (show ft Lm=some (.lst ([((qO G7 (qO G7 n 0) 3:Nat):Int),((qO G7 (qO G7 n 1) 2:Nat):Int),((qO G7 (qO G7 n 2) 1:Nat):Int),((qO G7 (qO G7 n 3) 0:Nat):Int)].map V.int))from d9),false,?_,Bl (en ?_)⟩⟩
   .rw[<-q0,<-q1,<-q2,<-q3,W1 rfl];rfl
   .have aj:=dr.trans dt;have b3:=(O.mono (b':=5300000) A3).same aj;have ax:=b7.step (O.mono (b':=5300000) A3) (Az.j aj) (AR.refl O.jw.ok) (C9 _) (D4 l7 A3);have ab:=aj _ _ cy;have ar:=aj _ _ ck;have W:=aj _ _ bc;have a1:=ch.same aj;have ac:=b3.jw.hp;clear O b7 cy ck bc ch dr dt aj d9 ce ea a4 bd dz q0 q1 q2 q3 e7;obtain⟨fk,fl⟩:=ax.tps b3;refine AO ?_;intro g5 gh bv eo go;refine xq1 Z (xq3 Z ac (Ny _ _ _ _ _) (xq1 Z ⟨p,I,mem,pr,_,BO (rl.map LC4.a),rl.map LC4.a,e9,Z,ac,SU _ _ _ _ _,by rw[NJ];show 5<=10;decide,ab,fk,fl,a1,λdy m2 gy ap a8 er ca=>eo ?_⟩));rw[ST]at a8;have ae:=Wi ax b3 dp ab (D4 l7 A3) rok.t au a1 ap a8 ca;have ec:dy Tr=some (.lst (ts.map V.ref)):=ap _ _ ar (Aq ar ac A2) (Aq ar ab A2);have dg:dy tl=some (.tup [toV n,toV e,toV mm]):=ap _ _ W (Aq W ac A2) (Aq W ab A2);clear b3 ax ab ar W a1 ac ap a8 er ca fk fl;refine xwb Z Z Z (xq1 Z (FG (λ_=>kQ _) (λ_=>?_)));refine xwn Z Z ae.jw.hp (OB _ _ _ _ _) Z (xq1 Z ⟨p,I,mem,pr,g,G7,_,60000,5300000,_,m2,n,v,e,Z,ae,fin,cl,dm,by lia,ev,fj _,cc _ A3,λkk G8 fu i8 cd gb fv e3 _=>?_⟩);have ed:=cd.atL ae.jw.me ae.jw.gr ec nT.1 nT.2;have dh:fu tl=some (.tup [toV n,toV e,toV mm]):=(cd.kps ae.jw.gr ae.jw.bs.long ae.jw.me) _ _ dg (.inl .tup);have bo:kk=mm:=JR.one gb.jw.ok e3 (f8.goes ae.jw.ok fv);exact xwj Z Z Z Z (SqL.of ed) al (xq4 Z Z (SqT.of dh) (Am (j:=2) Z) ⟨(mm:Int),by rw[bo];rfl,kQ _⟩)
end
end J
namespace J
open PySem L2
theorem ar1{α:Type}:∀us:List α,us.length=1->∃a0,us=[a0]
|[a0],_=>⟨a0,Z⟩
theorem ar2{α:Type}:∀us:List α,us.length=2->∃a0 a1,us=[a0,a1]
|[a0,a1],_=>⟨a0,a1,Z⟩
theorem ar3{α:Type}:∀us:List α,us.length=3->∃a0 a1 a2,us=[a0,a1,a2]
|[a0,a1,a2],_=>⟨a0,a1,a2,Z⟩
theorem ar4{α:Type}:∀us:List α,us.length=4->∃a0 a1 a2 a3,us=[a0,a1,a2,a3]
|[a0,a1,a2,a3],_=>⟨a0,a1,a2,a3,Z⟩
theorem ar5{α:Type}:∀us:List α,us.length=5->∃a0 a1 a2 a3 a4,us=[a0,a1,a2,a3,a4]
|[a0,a1,a2,a3,a4],_=>⟨a0,a1,a2,a3,a4,Z⟩
theorem ar6{α:Type}:∀us:List α,us.length=6->∃a0 a1 a2 a3 a4 a5,us=[a0,a1,a2,a3,a4,a5]
|[a0,a1,a2,a3,a4,a5],_=>⟨a0,a1,a2,a3,a4,a5,Z⟩
structure Fg(K:O_)(x:Str)(st:Stmt)(f:R_)(fd:E_):Prop where
at_:W.nsIn K mainGlobals x=some (some (.ref f))
fn:Fun K x x st f fd
structure Fm(K:O_)(C:R_)(m q:Str)(st:Stmt)(f:R_)(fd:E_):Prop where
me:Qn K C m f
fn:Fun K m q st f fd
structure Fi(K:O_)(C:R_)(q:Str)(st:Stmt)(f:R_)(fd:E_):Prop where
mk_:Mk K C f
fn:Fun K "__init__" q st f fd
theorem bnd{K:O_}{x q:Str}{c:Stmt}{f:R_}{j:E_}{ps:K_}(F:Fun K x q c f j)(h:∀(kV g n:S_)(l:Option Addr)(e m:S_)(us:F_),us.length=ps.length->bindArgs (W.fnOf x q (Lo c) (Jf c) (Ai c) .none kV g n l e m) ⟨us,[]⟩=pure (ps.zip us):=by intro _ _ _ _ _ _ us a;first|(obtain⟨b,rfl⟩:=ar1 us a;exact rfl)|(obtain⟨b,d,rfl⟩:=ar2 us a;exact rfl)|(obtain⟨b,d,i,rfl⟩:=ar3 us a;exact rfl)|(obtain⟨b,d,i,k,rfl⟩:=ar4 us a;exact rfl)|(obtain⟨b,d,i,k,o,rfl⟩:=ar5 us a;exact rfl)|(obtain⟨b,d,i,k,o,p,rfl⟩:=ar6 us a;exact rfl)):DB K j ps []:=F.binds h
theorem fin{l:W.OpenLaw}{w:Q_}{K:O_}{h:T_}{mg:C_}{fa:R_}(X:K.In h)(G:h.Ns mainGlobals mg)(hx:mg "law" = some (.ref fa))
  {p:R_} {t:R_} {r:R_} {d:R_} {N:R_} {a:R_} {f0:R_} {d0:E_} {f1:R_} {d1:E_} {f2:R_} {d2:E_} {f3:R_} {d3:E_} {f4:R_} {d4:E_} {f5:R_} {d5:E_} {f6:R_} {d6:E_} {f7:R_} {d7:E_} {f8:R_} {d8:E_} {f9:R_} {d9:E_} {fk:R_} {dh:E_} {fl:R_} {di:E_} {fm:R_} {dj:E_} {fo:R_} {dk:E_} {fp:R_} {dl:E_} {fq:R_} {dm:E_} {ft:R_} {dn:E_} {fu:R_} {dp:E_} {fv:R_} {dq:E_} {fw:R_} {dr:E_} {fx:R_} {ds:E_} {fy:R_} {dt:E_} {fz:R_} {du:E_} {ga:R_} {dv:E_} {gb:R_} {dw:E_} {gc:R_} {dx:E_} {gd:R_} {dy:E_} {ge:R_} {dz:E_} {gf:R_} {ea:E_} {gg:R_} {eb:E_} {gh:R_} {ec:E_} {gi:R_} {ed:E_} {gj:R_} {ee:E_} {gk:R_} {ef:E_} {gl:R_} {eg:E_} {gm:R_} {eh:E_} {gn:R_} {ei:E_} {go:R_} {ej:E_} {gp:R_} {ek:E_} {gq:R_} {el:E_} {gs:R_} {em:E_} {gt:R_} {dg:E_} {gv:R_} {eo:E_} {gx:R_} {er:E_} {gz:R_} {et:E_} {hb:R_} {ev:E_} {hc:R_} {ew:E_} {hd:R_} {ey:E_} {he:R_} {ez:E_} {hf:R_} {e0:E_} {hg:R_} {e1:E_} {hh:R_} {e2:E_} {hi:R_} {e3:E_} {hj:R_} {e4:E_} {hm:R_} {e7:E_} {hn:R_} {e8:E_} {ho:R_} {e9:E_} {hp:R_} {fb:E_} {hq:R_} {fc:E_} {hr:R_} {fe:E_} {hs:R_} {ff:E_} {ht:R_} {fg:E_} {hu:R_} {fh:E_} {hv:R_} {fi:E_} {hw:R_} {fj:E_} {gu:R_} {en:E_} {gw:R_} {ep:E_} {gy:R_} {es:E_} {ha:R_} {eu:E_} {hk:R_} {e5:E_} {hl:R_} {e6:E_} {a2:Tok} {Q:Tok} {B:Tok} {D:Str} {u:Tok} {y:Str} {aj:Tok} {ak:Str} {ad:Tok} {L:Tok} {M:Str} {E:Tok}
  (cS:W.nsIn K mainGlobals "Amounts" = some (some (.ref p)))
  (cT:W.nsIn K mainGlobals "Places" = some (some (.ref t)))
  (cU:W.nsIn K mainGlobals "Clause" = some (some (.ref r)))
  (cZ:W.nsIn K mainGlobals "Grove" = some (some (.ref d)))
  (dA:W.nsIn K mainGlobals "Rule" = some (some (.ref N)))
  (cY:W.nsIn K mainGlobals "Jumps" = some (some (.ref a)))
  (av:Cls K p)
  (a1:Cls K t)
  (a0:Cls K r)
  (n:Cls K d)
  (be:Cls K N)
  (i:Cls K a)
  (Y:findIn K (.ref p) "state" = some none)
  (O:findIn K (.ref p) "numbers" = some none)
  (ac:findIn K (.ref t) "wanted" = some none)
  (an:findIn K (.ref r) "cell" = some none)
  (H:findIn K (.ref r) "conditions" = some none)
  (ag:findIn K (.ref r) "makes" = some none)
  (ah:findIn K (.ref d) "levels" = some none)
  (aq:findIn K (.ref d) "parts" = some none)
  (ab:findIn K (.ref d) "numbers" = some none)
  (ao:findIn K (.ref d) "bares" = some none)
  (aa:findIn K (.ref d) "amounts" = some none)
  (ap:findIn K (.ref d) "boxes" = some none)
  (ay:findIn K (.ref N) "text" = some none)
  (ai:findIn K (.ref N) "clauses" = some none)
  (ar:findIn K (.ref a) "grove" = some none)
  (S:findIn K (.ref a) "memories" = some none)
  (au:findIn K (.ref a) "rule" = some none)
  (A:findIn K (.ref a) "known_squares" = some none)
  (I:findIn K (.ref a) "known_cells" = some none)
  (g0:Fg K "is_whole" Jt f0 d0)
  (g1:Fg K "is_state" Ju f1 d1)
  (g2:Fg K "takes" Pm f2 d2)
  (g3:Fg K "read_clause" Es f3 d3)
  (g4:Fg K "read_state" GP f4 d4)
  (g5:Fg K "read_wanted" FZ f5 d5)
  (g6:Fg K "read_condition" Ea f6 d6)
  (g7:Fg K "read_amounts" Fc f7 d7)
  (g8:Fg K "read_numbers" Fb f8 d8)
  (g9:Fg K "read_places" Er f9 d9)
  (bh:Fg K "clause_texts" Fd fk dh)
  (bi:Fg K "read_rule" IA fl di)
  (bj:Fg K "deciding" Jw fm dj)
  (bl:Fg K "becomes" LJ fo dk)
  (bm:Fg K "shown_rule" GO fp dl)
  (bn:Fg K "nine_parts" GQ fq dm)
  (bo:Fg K "fours_of" Jv ft dn)
  (bp:Fg K "met_in_the_middle" Dg fu dp)
  (bq:Fg K "_law_at" LK fv dq)
  (br:Fg K "_law_same" IC fw dr)
  (bt:Fg K "_law_stir" IB fx ds)
  (bu:Fg K "_law_clause_by" Eb fy dt)
  (bv:Fg K "_law_fits" FR fz du)
  (bw:Fg K "_law_becomes" Fk ga dv)
  (bx:Fg K "_law_words" ER gb dw)
  (bz:Fg K "_law_text" FP gc dx)
  (b0:Fg K "_law_clauses_by" CQ gd dy)
  (b1:Fg K "_law_fours" ES ge dz)
  (b2:Fg K "_law_lines" GT gf ea)
  (b3:Fg K "_law_parts" GS gg eb)
  (b4:Fg K "_law_by_rule" DK gh ec)
  (b5:Fg K "_law_rested" Gb gi ed)
  (b9:Fg K "_law_row_right" Cs gj ee)
  (ca:Fg K "_law_three" GR gk ef)
  (cb:Fg K "_law_walked" Ga gl eg)
  (cc:Fg K "_law_map_by" Gc gm eh)
  (cd:Fg K "_law_gliding" Fj gn ei)
  (ce:Fg K "_law_higher" Gd go ej)
  (cf:Fg K "_law_widened" Fe gp ek)
  (cg:Fg K "_law_middle" Et gq el)
  (ch:Fg K "_law_plan" FQ gs em)
  (ci:Fg K "law" Sy gt dg)
  (ck:Fm K p "holds" "Amounts.holds" EH gv eo)
  (cm:Fm K t "holds" "Places.holds" DM gx er)
  (co:Fm K r "fits" "Clause.fits" Eu gz et)
  (cq:Fm K d "kept" "Grove.kept" GW hb ev)
  (cr:Fm K d "linked" "Grove.linked" Fp hc ew)
  (cs:Fm K d "check_square" "Grove.check_square" CV hd ey)
  (ct:Fm K d "leaf" "Grove.leaf" GV he ez)
  (cu:Fm K d "joined" "Grove.joined" DO hf e0)
  (cv:Fm K d "solid" "Grove.solid" Gg hg e1)
  (cw:Fm K d "level_of" "Grove.level_of" Ee hh e2)
  (cx:Fm K d "quarters" "Grove.quarters" Ed hi e3)
  (cy:Fm K d "state_of" "Grove.state_of" Ec hj e4)
  (c1:Fm K a "change" "Jumps.change" DN hm e7)
  (c2:Fm K a "after" "Jumps.after" Gf hn e8)
  (c3:Fm K a "check_jump" "Jumps.check_jump" Ds ho e9)
  (aw:Fm K a "reckoned" "Jumps.reckoned" Dc hp fb)
  (a8:Fm K a "fresh" "Jumps.fresh" Cm hq fc)
  (a3:Fm K a "four_halfway" "Jumps.four_halfway" Bw hr fe)
  (c4:Fm K a "middle_after" "Jumps.middle_after" CU hs ff)
  (c5:Fm K a "cell_after" "Jumps.cell_after" CA ht fg)
  (c6:Fm K a "reasons" "Jumps.reasons" EG hu fh)
  (bb:Fm K a "gather_reasons" "Jumps.gather_reasons" Cz hv fi)
  (c7:Fm K a "rests_on" "Jumps.rests_on" Ct hw fj)
  (cj:Fi K p "Amounts.__init__" Fq gu en)
  (cl:Fi K t "Places.__init__" Ge gw ep)
  (cn:Fi K r "Clause.__init__" Gh gy es)
  (cp:Fi K d "Grove.__init__" GX ha eu)
  (cz:Fi K N "Rule.__init__" FS hk e5)
  (c0:Fi K a "Jumps.__init__" GU hl e6)
  (c8:W.nsIn K mainGlobals "all" = some none)
  (c9:W.nsIn K mainGlobals "any" = some none)
  (bf:W.nsIn K mainGlobals "bool" = some none)
  (a6:W.nsIn K mainGlobals "enumerate" = some none)
  (da:W.nsIn K mainGlobals "int" = some none)
  (az:W.nsIn K mainGlobals "isinstance" = some none)
  (db:W.nsIn K mainGlobals "len" = some none)
  (bg:W.nsIn K mainGlobals "list" = some none)
  (dc:W.nsIn K mainGlobals "min" = some none)
  (bc:W.nsIn K mainGlobals "range" = some none)
  (de:W.nsIn K mainGlobals "str" = some none)
  (bd:W.nsIn K mainGlobals "tuple" = some none)
  (df:W.nsIn K mainGlobals "zip" = some none)
  (ba:W.nsIn K mainGlobals "STATES" = some (some (.int 8 a2)))
  (ax:W.nsIn K mainGlobals "NEIGHBOURS" = some (some (.int 8 Q)))
  (af:W.nsIn K mainGlobals "STATE_FIGURES" = some (some (.str D B)))
  (V:D=Str.ofString "01234567")
  (U:W.nsIn K mainGlobals "AMOUNT_FIGURES" = some (some (.str y u)))
  (R:y=Str.ofString "012345678")
  (a7:W.nsIn K mainGlobals "ANY_SIGN" = some (some (.str ak aj)))
  (a5:ak=Str.ofString "*")
  (a4:W.nsIn K mainGlobals "TOP_LEVEL" = some (some (.int 48 ad)))
  (as:W.nsIn K mainGlobals "CLAUSE_MARK" = some (some (.str M L)))
  (am:M=Str.ofString "; ")
  (al:W.nsIn K mainGlobals "LEAST_JUMPED" = some (some (.int 2 E)))
  : ∃fd:FuncData,(∀(s:P_)(v:S_),BindsTo s fd ⟨[v],[]⟩ [("_law_script",v)])/\∀P:Heap,K.In P->P.Ns mainGlobals mg->AT l.prog w K mg P CX0 201 fa fd ["_law_script"] (Sn K):=by
 have e:=hx.symm.trans (Z1 X G ci.at_);cases e;have no:∀{x:Str},W.nsIn K mainGlobals x=some none->mg x=none:=λz=>W.mg_none_of X G z;subst am;subst a5;subst R;subst V;have T:Top K mg (⟨p,t,r,d,N,a⟩:Ad):=⟨no c8,no c9,no bf,no a6,no da,no az,no db,no bg,no dc,no bc,no de,no bd,no df,⟨a2,Z1 X G ba⟩,⟨Q,Z1 X G ax⟩,⟨B,Z1 X G af⟩,⟨u,Z1 X G U⟩,⟨aj,Z1 X G a7⟩,⟨ad,Z1 X G a4⟩,⟨L,Z1 X G as⟩,⟨E,Z1 X G al⟩,Z1 X G cS,av,Y,O,Z1 X G cT,a1,ac,Z1 X G cU,a0,an,H,ag,Z1 X G cZ,n,ah,aq,ab,ao,aa,ap,Z1 X G dA,be,ay,ai,Z1 X G cY,i,ar,S,au,A,I⟩
 refine⟨dg,λs v=>(by obtain⟨_,_,_,_,_,_,_,_,_,rfl,_⟩:=ci.fn.ex;exact .of_eq Z),λP _ _=>?_⟩;have g:∀{CX:CXT}{k:Nat}{x:Str}{st:Stmt}{f:R_}{fd:E_}{ps:K_}{sp:Sp},Fg K x st f fd->AT l.prog w K mg P CX k f fd ps sp->DB K fd ps []->Cal l.prog w K mg P CX k x ps sp:=λF o b=>⟨_,_,o,Z1 X G F.at_,F.fn.kp,b⟩
 have j:∀{CX:CXT}{k:Nat}{C:R_}{x q:Str}{st:Stmt}{f:R_}{fd:E_}{ps:K_}{sp:Sp},Fm K C x q st f fd->Cls K C->AT l.prog w K mg P CX k f fd ps sp->DB K fd ps []->BD l.prog w K mg P CX k C x ps sp:=λF c o b=>⟨⟨_,_,o,F.me,b⟩,c⟩
 have ae:∀{CX:CXT}{k:Nat}{C:R_}{x q:Str}{st:Stmt}{f:R_}{fd:E_}{ps:K_}{sp:Sp},Fi K C q st f fd->mg x=some (.ref C)->AT l.prog w K mg P CX k f fd ps sp->DB K fd ps []->Qo l.prog w K mg P CX k x C ps sp:=λF m o b=>⟨_,_,o,F.mk_,m,b⟩
 have aQ:=g g0 (ok_iw g0.fn T) (bnd g0.fn);have cF:=g g1 (ok_is g1.fn T aQ) (bnd g1.fn);have aV:=j cq n (ok_kept cq.fn T) (bnd cq.fn);have cR:=ae cp T.m_Grove (VB cp.fn T aV) (bnd cp.fn)
 have a9:=j cr n (ok_link cr.fn T aV) (bnd cr.fn);have aI:=j cs n (ok_chk cs.fn T aQ) (bnd cs.fn);have aO:=j ct n (ok_leaf ct.fn T cF) (bnd ct.fn);have aD:=j cw n (ok_lev cw.fn T aI) (bnd cw.fn);have aA:=j cx n (ok_qua cx.fn T aD) (bnd cx.fn);have aN:=j cy n (ok_sta cy.fn T aD) (bnd cy.fn);have aB:=j cu n (ok_join cu.fn T aI a9) (bnd cu.fn);have aW:=j cv n (Vy cv.fn T aQ aO a9) (bnd cv.fn);have cC:=g g2 (Vx g2.fn) (bnd g2.fn);have cJ:=ae cj T.m_Amounts (TY cj.fn T) (bnd cj.fn)
 have cM:=ae cl T.m_Places (TW cl.fn T) (bnd cl.fn)
 have cN:=ae cn T.m_Clause (TX cn.fn T) (bnd cn.fn)
 have cK:=j ck av (RD ck.fn T) (bnd ck.fn);have cL:=j cm a1 (RC cm.fn T cC) (bnd cm.fn);have bP:=j co a0 (ok_Fits co.fn T cC cK cL) (bnd co.fn);have cG:=g bj (ok_dec bj.fn T bP) (bnd bj.fn);have bI:=g bl (ok_bec bl.fn T cG) (bnd bl.fn);have aR:=g g4 (ok_rs g4.fn T) (bnd g4.fn);have aX:=g g5 (ok_rw g5.fn T aR) (bnd g5.fn);have bJ:=g g8 (ok_rn g8.fn T) (bnd g8.fn);have bK:=g g7 (ok_ram g7.fn T aR bJ cJ) (bnd g7.fn);have bQ:=g g9 (ok_rpl g9.fn T aX cM) (bnd g9.fn);have bB:=g g6 (Vz g6.fn T bK bQ) (bnd g6.fn);have bR:=g g3 (ok_rc g3.fn T aR aX bB cN) (bnd g3.fn);have bL:=g bh (ok_ct bh.fn T) (bnd bh.fn);have cX:=ae cz T.m_Rule (ok_ri cz.fn T bL bR) (bnd cz.fn)
 have bO:=g bi (ok_rr bi.fn T cX bI) (bnd bi.fn);have bV:=g bm (ok_show bm.fn T) (bnd bm.fn);have aS:=j c1 i (ok_chg c1.fn T bV) (bnd c1.fn);have cQ:=ae c0 T.m_Jumps (VA c0.fn T aS) (bnd c0.fn)
 have aM:=j c5 i (ok_cel c5.fn T aN aO bI) (bnd c5.fn);have aG:=j c4 i (ok_mid2 c4.fn T a9 aM) (bnd c4.fn);have aF:=g bn (ok_nine bn.fn T a9) (bnd bn.fn);have aT:=g bo (VC bo.fn T) (bnd bo.fn);have aH:=g bp (ok_met bp.fn T a9) (bnd bp.fn);have aC:=j aw i (Pz aw.fn a3.fn a8.fn T aw.me (bnd aw.fn) a3.me (bnd a3.fn) a8.me (bnd a8.fn) aG a9 aF aT aH 46) (bnd aw.fn);have aP:=j a3 i (QG a3.fn T A3 aF aT a9 aC) (bnd a3.fn);have b6:=j c7 i (ok_ro c7.fn T A3 aF aP) (bnd c7.fn);have aC:=j aw i (Pz aw.fn a3.fn a8.fn T aw.me (bnd aw.fn) a3.me (bnd a3.fn) a8.me (bnd a8.fn) aG a9 aF aT aH 47) (bnd aw.fn);have aK:=j bb i (ok_gr bb.fn T bb.me (bnd bb.fn) (dd:=151) A3 A3 b6 aC 47 A3) (bnd bb.fn);have aL:=j c3 i (ok_cj c3.fn T aD aQ) (bnd c3.fn);have bE:=j c2 i (TV c2.fn T A3 aL aC) (bnd c2.fn);have b8:=j c6 i (ok_rsn c6.fn T A3 aL aK) (bnd c6.fn);have aE:=g bq (ok_at bq.fn T) (bnd bq.fn);have aY:=g br (ok_same br.fn T) (bnd br.fn);have aJ:=g bt (ok_stir bt.fn T) (bnd bt.fn);have bD:=g bu (ok_cb4 bu.fn T aJ) (bnd bu.fn);have cB:=g bv (ok_fi4 bv.fn T) (bnd bv.fn);have aU:=g bw (ok_be4 bw.fn T cB) (bnd bw.fn);have bW:=g bx (ok_ws4 bx.fn T) (bnd bx.fn);have bZ:=g bz (ok_tx4 bz.fn T bW) (bnd bz.fn);have bA:=g b0 (ok_cs4 b0.fn T bD aU) (bnd b0.fn);have bT:=g cc (ok_mb cc.fn T aE) (bnd cc.fn);have aZ:=g cd (ok_gl cd.fn T bT) (bnd cd.fn);have cA:=g ch (ok_pl ch.fn T aE aZ bA) (bnd ch.fn);have bM:=g cf (ok_wd cf.fn T aA aW aB) (bnd cf.fn);have bS:=g cg (ok_mi cg.fn T aA) (bnd cg.fn);have bU:=g ce (ok_hi ce.fn T aE aJ bM aW aB) (bnd ce.fn);have bH:=g b1 (ok_fo b1.fn T) (bnd b1.fn);have b7:=g b2 (ok_li b2.fn T aA) (bnd b2.fn);have bY:=g b3 (ok_pa b3.fn T b7 aB) (bnd b3.fn);have bN:=g b4 (ok_br b4.fn T b7 aN aA aU aY) (bnd b4.fn);have bG:=g b5 (ok_re b5.fn T) (bnd b5.fn);have bX:=g ca (ok_th ca.fn T) (bnd ca.fn);have bC:=g b9 (ok_rr2 b9.fn T aD bN aA bY bG bH aB) (bnd b9.fn);have bF:=g cb (ok_wa cb.fn T bX bC) (bnd cb.fn);exact ok_law ci.fn T cR aE cA aO aB bU bZ bO cQ bE aA aS b8 bF aY bS
theorem walk{l:W.OpenLaw}{q:N_}{c:K_}{o:(Str->Option Value)->Heap->Prop}{i:World->Heap->Prop}{d:DefRec}{K:Params->W.Frag}(v:l.most=some 63)(g:d.params.defaults=[])
  (r:∀(w:Q_)(h:T_),i w h->(K w.params).In h)
  (F:∀(w:Q_)(e:C_)(j:R_)(h:T_),(K w.params).In h->h.Ns mainGlobals e->e d.name=some (.ref j) ->
   ∃m:FuncData,(∀(s:P_)(u:S_),BindsTo s m ⟨[u],[]⟩ [("_law_script",u)])/\∀b:Heap,(K w.params).In b->b.Ns mainGlobals e->AT l.prog w (K w.params) e b CX0 201 j m ["_law_script"] (Sn (K w.params))) :
  W.WalkO q c o i l.row.toRowW d [] (λf vs=>PySem.call f vs) :=
 L2.Sd (n:=63) (k:=201) (x:="_law_script") (CX:=λ_=>CX0) (sp:=λw=>Sn (K w.params)) v A3 g ⟨Z,by decide,by decide⟩ r F (λ_ _ a y t _ p=>⟨a,y,Z,p,t,λ_=>Z⟩) λ_ _ _ _ _ z=>z
end J
namespace PySem.W.Fast
theorem tw17972152978590131033:True:=⟨⟩
theorem tw4474190869202317369:True:=⟨⟩
theorem tw4485619078826921266:True:=⟨⟩
theorem tw8291639843845710206:True:=⟨⟩
theorem tw7530703823516176663:True:=⟨⟩
theorem tw4141789334069892340:True:=⟨⟩
theorem tw15225133084570633404:True:=⟨⟩
theorem tw6735486632248150146:True:=⟨⟩
theorem tw5655417588585641837:True:=⟨⟩
theorem tw1237300787267055675:True:=⟨⟩
theorem tw10301544189551412479:True:=⟨⟩
theorem tw8359631657823293258:True:=⟨⟩
theorem tw2873428111840880509:True:=⟨⟩
theorem tw6592171911080032581:True:=⟨⟩
theorem tw15068837873311024400:True:=⟨⟩
theorem tw5056075551768969191:True:=⟨⟩
theorem tw1957742308369441352:True:=⟨⟩
theorem tw9861957463460614182:True:=⟨⟩
theorem tw18195852223225888210:True:=⟨⟩
theorem tw18227076153627664474:True:=⟨⟩
theorem tw11549714038836962979:True:=⟨⟩
theorem tw2049223103240926098:True:=⟨⟩
theorem tw10461508700373711110:True:=⟨⟩
theorem tw86836201254565735:True:=⟨⟩
theorem tw11710654992820869954:True:=⟨⟩
theorem tw7818634418195541252:True:=⟨⟩
theorem tw947471034979842738:True:=⟨⟩
theorem tw6760655009018900978:True:=⟨⟩
theorem tw9243032988999297575:True:=⟨⟩
theorem tw8223480239631026660:True:=⟨⟩
theorem tw2927731372727601676:True:=⟨⟩
theorem tw5726605678263491635:True:=⟨⟩
theorem tw320375802595482921:True:=⟨⟩
theorem tw1469176453552971688:True:=⟨⟩
theorem tw4714798658269087995:True:=⟨⟩
theorem tw17481859229046006878:True:=⟨⟩
theorem tw16527393369505208268:True:=⟨⟩
theorem tw16263905904363614121:True:=⟨⟩
theorem tw17803200850143422802:True:=⟨⟩
theorem tw16226904249826827067:True:=⟨⟩
theorem tw1142643521689255003:True:=⟨⟩
theorem tw10790229491219593962:True:=⟨⟩
theorem tw916051371141622120:True:=⟨⟩
theorem tw4123797903670487180:True:=⟨⟩
theorem tw16972298858155414842:True:=⟨⟩
theorem tw12680908682447447936:True:=⟨⟩
theorem tw9887606199530314442:True:=⟨⟩
theorem tw4393217155714189441:True:=⟨⟩
theorem tw4576135256550630564:True:=⟨⟩
theorem tw8600278633797432073:True:=⟨⟩
theorem tw6254653466851920424:True:=⟨⟩
theorem tw7387231807145740587:True:=⟨⟩
theorem tw9445489280054560251:True:=⟨⟩
theorem tw6051271543210138531:True:=⟨⟩
theorem tw14521318874322229061:True:=⟨⟩
theorem tw919445385348241474:True:=⟨⟩
theorem tw9578104326769687425:True:=⟨⟩
theorem tw10920833601472599612:True:=⟨⟩
theorem tw15881353464092274379:True:=⟨⟩
theorem tw11308797122866418949:True:=⟨⟩
theorem tw8178248788455878623:True:=⟨⟩
theorem tw5078059852095548800:True:=⟨⟩
theorem tw12842340816454894315:True:=⟨⟩
theorem tw8772570285606111017:True:=⟨⟩
theorem tw17581932565549832057:True:=⟨⟩
theorem tw13871537523200087169:True:=⟨⟩
theorem tw14474381280764897622:True:=⟨⟩
theorem tw3733165716391237971:True:=⟨⟩
theorem tw15211850506181469852:True:=⟨⟩
theorem tw8662194945680640245:True:=⟨⟩
theorem tw8176252133855458587:True:=⟨⟩
theorem tw5556181669497944991:True:=⟨⟩
theorem tw16867664213081991773:True:=⟨⟩
theorem tw7265656584291359652:True:=⟨⟩
theorem tw18351883989389634595:True:=⟨⟩
theorem tw15218193830308281608:True:=⟨⟩
theorem tw90119854919890507:True:=⟨⟩
theorem tw12308062100218070150:True:=⟨⟩
theorem tw3971619541165099214:True:=⟨⟩
theorem tw8238461152409917533:True:=⟨⟩
theorem tw17106419146893923271:True:=⟨⟩
theorem tw14846820641875386402:True:=⟨⟩
theorem tw12122017856181139066:True:=⟨⟩
theorem tw14332962932751492364:True:=⟨⟩
theorem tw1037901421746819859:True:=⟨⟩
theorem tw4617057532079980799:True:=⟨⟩
theorem tw3912718945899321085:True:=⟨⟩
theorem tw472354862216476658:True:=⟨⟩
theorem tw12532141448541152779:True:=⟨⟩
theorem tw15319161931754357513:True:=⟨⟩
theorem tw1883471357750827759:True:=⟨⟩
theorem tw11955444541360162009:True:=⟨⟩
theorem tw15827905194169075457:True:=⟨⟩
theorem tw12129656107108818365:True:=⟨⟩
theorem tw16335693028917308654:True:=⟨⟩
theorem tw5027836789471368056:True:=⟨⟩
theorem tw5203672616839242857:True:=⟨⟩
theorem tw11208780655333317762:True:=⟨⟩
theorem tw901519881538069103:True:=⟨⟩
theorem tw12342815019054232136:True:=⟨⟩
theorem tw15342144163300906717:True:=⟨⟩
theorem tw15643748105628137783:True:=⟨⟩
theorem tw12935186563490156601:True:=⟨⟩
theorem tw11924105792593396368:True:=⟨⟩
theorem tw11271641279817377182:True:=⟨⟩
theorem tw14070725602809515140:True:=⟨⟩
theorem tw12778083502658027742:True:=⟨⟩
theorem tw17100642128767025328:True:=⟨⟩
theorem tw13830472804397959247:True:=⟨⟩
theorem tw14163819314637411265:True:=⟨⟩
theorem tw4627000873738890633:True:=⟨⟩
theorem tw6676619633005671445:True:=⟨⟩
theorem tw6143756456259536726:True:=⟨⟩
theorem tw15900898968911049290:True:=⟨⟩
theorem tw5191788980293644818:True:=⟨⟩
theorem tw7005026999395520824:True:=⟨⟩
theorem tw16500298319101539492:True:=⟨⟩
theorem tw17509040983541316742:True:=⟨⟩
theorem tw4973082210563136980:True:=⟨⟩
theorem tw6892794714534670347:True:=⟨⟩
theorem tw15839137199756696585:True:=⟨⟩
theorem tw10667030114559477292:True:=⟨⟩
theorem tw10054646259105609860:True:=⟨⟩
theorem tw4150298003394231560:True:=⟨⟩
theorem tw12272773171944256759:True:=⟨⟩
theorem tw5778107329667203216:True:=⟨⟩
theorem tw5075483540138705224:True:=⟨⟩
theorem tw14642473111158103145:True:=⟨⟩
theorem tw12589820623043482602:True:=⟨⟩
theorem tw5897846625256213240:True:=⟨⟩
theorem tw13004567543074683813:True:=⟨⟩
theorem tw6658011912671976746:True:=⟨⟩
theorem tw1909681618573756433:True:=⟨⟩
theorem tw1299470799262107152:True:=⟨⟩
theorem tw16889797715107636878:True:=⟨⟩
theorem tw17014314721339518867:True:=⟨⟩
theorem tw12730816163645777926:True:=⟨⟩
theorem tw10960842954105883848:True:=⟨⟩
theorem tw9528543700164977971:True:=⟨⟩
theorem tw9113460423764238480:True:=⟨⟩
theorem tw4667076987418433280:True:=⟨⟩
theorem tw15590687810751219108:True:=⟨⟩
theorem tw14644446952164461378:True:=⟨⟩
theorem tw13354693885968754773:True:=⟨⟩
theorem tw14932423972332942972:True:=⟨⟩
theorem tw6379983156968283114:True:=⟨⟩
theorem tw2946803636487292901:True:=⟨⟩
theorem tw17918281923810233203:True:=⟨⟩
theorem tw15934018142608551779:True:=⟨⟩
theorem tw12938158902637354762:True:=⟨⟩
theorem tw9686945283963213681:True:=⟨⟩
theorem tw14280177716235261293:True:=⟨⟩
theorem tw13929561104327391768:True:=⟨⟩
theorem tw6542989958492270214:True:=⟨⟩
theorem tw10003252268709695168:True:=⟨⟩
theorem tw15305998757169273423:True:=⟨⟩
theorem tw501821291120757269:True:=⟨⟩
theorem tw2700024126880288100:True:=⟨⟩
theorem tw6556907873320059271:True:=⟨⟩
theorem tw13881483940038508051:True:=⟨⟩
theorem tw16473817314009977375:True:=⟨⟩
theorem tw186635028248331185:True:=⟨⟩
theorem tw18298530572295359557:True:=⟨⟩
theorem tw16503864025186754584:True:=⟨⟩
theorem tw16649086546587473241:True:=⟨⟩
theorem tw15912402191303707495:True:=⟨⟩
theorem tw627485946951639941:True:=⟨⟩
theorem tw11118201852609651682:True:=⟨⟩
theorem tw16920593151246112196:True:=⟨⟩
theorem tw4077545805958361294:True:=⟨⟩
theorem tw1789776940969779218:True:=⟨⟩
theorem tw13847799637856479660:True:=⟨⟩
theorem tw8109851470795624603:True:=⟨⟩
theorem tw368257796237821843:True:=⟨⟩
theorem tw7426751406528336452:True:=⟨⟩
theorem tw12467962675872783011:True:=⟨⟩
theorem tw9945665557544491733:True:=⟨⟩
theorem tw2761171095056352476:True:=⟨⟩
theorem tw9464272101307461444:True:=⟨⟩
theorem tw4109938931553283702:True:=⟨⟩
theorem tw17664794094805914894:True:=⟨⟩
theorem tw7764235697130188468:True:=⟨⟩
theorem tw11205878974335442575:True:=⟨⟩
theorem tw4272203877700351100:True:=⟨⟩
theorem tw447184858043982112:True:=⟨⟩
theorem tw17538534018276132596:True:=⟨⟩
theorem tw15159582970544022004:True:=⟨⟩
theorem tw3310584500263373961:True:=⟨⟩
theorem tw10777946211591169634:True:=⟨⟩
theorem tw4407626337373530533:True:=⟨⟩
theorem tw3030536008671900635:True:=⟨⟩
theorem tw3221174442981868166:True:=⟨⟩
theorem tw4972352189146577037:True:=⟨⟩
theorem tw6188097376166649607:True:=⟨⟩
theorem tw7748372906056299264:True:=⟨⟩
theorem tw11717415487063083281:True:=⟨⟩
theorem tw14711309194444430512:True:=⟨⟩
theorem tw10584058244776048279:True:=⟨⟩
theorem tw3919790717952347767:True:=⟨⟩
theorem tw13629420945212122831:True:=⟨⟩
theorem tw1780486733260694855:True:=⟨⟩
theorem tw1982275760282101133:True:=⟨⟩
theorem tw15621385321868305745:True:=⟨⟩
theorem tw6839116359708411679:True:=⟨⟩
theorem tw9564282745726283126:True:=⟨⟩
theorem tw12605157642406250302:True:=⟨⟩
theorem tw3290614568287891993:True:=⟨⟩
theorem tw12381773598429439507:True:=⟨⟩
theorem tw3461428934069224144:True:=⟨⟩
theorem tw6385010490553050984:True:=⟨⟩
theorem tw2147311781510864826:True:=⟨⟩
theorem tw1895138966176686279:True:=⟨⟩
theorem tw16374996060707913251:True:=⟨⟩
theorem tw5941104948120763565:True:=⟨⟩
theorem tw12527409787334456611:True:=⟨⟩
theorem tw4284671486198035960:True:=⟨⟩
theorem tw18085653304070544122:True:=⟨⟩
theorem tw6282506113851899653:True:=⟨⟩
theorem tw10100299126354357939:True:=⟨⟩
theorem tw33051248179089694:True:=⟨⟩
theorem tw2280676213127354451:True:=⟨⟩
theorem tw4308375989627009342:True:=⟨⟩
theorem tw1776599972486477330:True:=⟨⟩
theorem tw15749943155559834103:True:=⟨⟩
theorem tw4780516204116101278:True:=⟨⟩
theorem tw518457249703267122:True:=⟨⟩
theorem tw3219528542209805594:True:=⟨⟩
theorem tw8213371570920100881:True:=⟨⟩
theorem tw18415687426497215701:True:=⟨⟩
theorem tw14828188927148646583:True:=⟨⟩
theorem tw5896173783881578320:True:=⟨⟩
theorem tw15299944531399474516:True:=⟨⟩
theorem tw5172827811852348858:True:=⟨⟩
theorem tw6976309072778661700:True:=⟨⟩
theorem tw1739365556691435625:True:=⟨⟩
theorem tw8599845308064352132:True:=⟨⟩
theorem tw17873984287049665536:True:=⟨⟩
theorem tw10326070701685461236:True:=⟨⟩
theorem tw6141695824725881933:True:=⟨⟩
theorem tw1280561147653768014:True:=⟨⟩
theorem tw4004702589279755206:True:=⟨⟩
theorem tw10285482247248503060:True:=⟨⟩
theorem tw18222129153930528613:True:=⟨⟩
theorem tw6125792839523762757:True:=⟨⟩
theorem tw18259038489827585602:True:=⟨⟩
theorem tw10974114882679876988:True:=⟨⟩
theorem tw2544465178509484967:True:=⟨⟩
theorem tw18080454969576045459:True:=⟨⟩
theorem tw15167502742207064706:True:=⟨⟩
theorem tw7069157898293591948:True:=⟨⟩
theorem tw10732458373348605409:True:=⟨⟩
theorem tw932896452011402556:True:=⟨⟩
theorem tw14621541754470066402:True:=⟨⟩
theorem tw6338378074641280794:True:=⟨⟩
theorem tw3701885434217775096:True:=⟨⟩
theorem tw17166955882072159037:True:=⟨⟩
theorem tw13931219174372892882:True:=⟨⟩
theorem tw12606914241951147703:True:=⟨⟩
theorem tw3027764742378695811:True:=⟨⟩
theorem tw368166997779370785:True:=⟨⟩
theorem tw3309850968908966202:True:=⟨⟩
theorem tw4647416091354336013:True:=⟨⟩
theorem tw8525789846808235218:True:=⟨⟩
theorem tw7013240635332295908:True:=⟨⟩
theorem tw5844480998294984779:True:=⟨⟩
theorem tw1911849988486093296:True:=⟨⟩
theorem tw8303108546354318309:True:=⟨⟩
theorem tw7031326111953882943:True:=⟨⟩
theorem tw17982553174440068933:True:=⟨⟩
theorem tw12877664162301495019:True:=⟨⟩
theorem tw2927076855809350366:True:=⟨⟩
theorem tw2188063670274377413:True:=⟨⟩
theorem tw15319176810450056991:True:=⟨⟩
theorem tw11234681089493635428:True:=⟨⟩
theorem tw8121953817390085375:True:=⟨⟩
theorem tw1037973365062414966:True:=⟨⟩
theorem tw14880573594571683851:True:=⟨⟩
theorem tw2399051471240060661:True:=⟨⟩
theorem tw14604689441065472444:True:=⟨⟩
theorem tw16239707815482889493:True:=⟨⟩
theorem tw12113199287880673166:True:=⟨⟩
theorem tw1898652395199199240:True:=⟨⟩
theorem tw13451623500615308297:True:=⟨⟩
theorem tw3307158317845531339:True:=⟨⟩
theorem tw16215782610757811690:True:=⟨⟩
theorem tw17858138290576035957:True:=⟨⟩
theorem tw4676870673331339154:True:=⟨⟩
theorem tw4956398001191750363:True:=⟨⟩
theorem tw11065029182878616481:True:=⟨⟩
theorem tw12266479948109795433:True:=⟨⟩
theorem tw13879842113644642841:True:=⟨⟩
theorem tw10992362053558439920:True:=⟨⟩
theorem tw4798369760001507839:True:=⟨⟩
theorem tw16903759763912105621:True:=⟨⟩
theorem tw4604703338899799527:True:=⟨⟩
theorem tw8902765831355179033:True:=⟨⟩
theorem tw11092270046368691324:True:=⟨⟩
theorem tw1659212538205367027:True:=⟨⟩
theorem tw17856247145608104696:True:=⟨⟩
theorem tw11376933845179864954:True:=⟨⟩
theorem tw7466723514153620159:True:=⟨⟩
theorem tw7871713553696070498:True:=⟨⟩
theorem tw3169509608409223466:True:=⟨⟩
theorem tw14470075920045265628:True:=⟨⟩
theorem tw311011591471782062:True:=⟨⟩
theorem tw5785685548061545104:True:=⟨⟩
theorem tw7259906636269286785:True:=⟨⟩
theorem tw16455494826291835791:True:=⟨⟩
theorem tw13648338385118745723:True:=⟨⟩
theorem tw1149224754121054234:True:=⟨⟩
theorem tw10859655662954527965:True:=⟨⟩
theorem tw11183915017157765208:True:=⟨⟩
theorem tw9525411787573363405:True:=⟨⟩
theorem tw12543672561735940535:True:=⟨⟩
theorem tw1068224322282476562:True:=⟨⟩
theorem tw18034526308877420387:True:=⟨⟩
theorem tw9451820824444148060:True:=⟨⟩
theorem tw7808338350683945727:True:=⟨⟩
theorem tw4269270735847007958:True:=⟨⟩
theorem tw1644181151154646970:True:=⟨⟩
theorem tw16050482897595749231:True:=⟨⟩
theorem tw12822238328262222570:True:=⟨⟩
theorem tw5779816761610289135:True:=⟨⟩
theorem tw16049325322601026923:True:=⟨⟩
theorem tw1291136677092686587:True:=⟨⟩
theorem tw2109781899527574154:True:=⟨⟩
theorem tw17869202557247395047:True:=⟨⟩
theorem tw17230157226161831763:True:=⟨⟩
theorem tw706864633183248747:True:=⟨⟩
theorem tw18234270008678473326:True:=⟨⟩
theorem tw15664722667429564112:True:=⟨⟩
theorem tw10608892713789907893:True:=⟨⟩
theorem tw15563666629463376268:True:=⟨⟩
theorem tw2475102055889903954:True:=⟨⟩
theorem tw1317461678668952313:True:=⟨⟩
theorem tw2663485744565053061:True:=⟨⟩
theorem tw1523264320390535178:True:=⟨⟩
theorem tw2625598837588949858:True:=⟨⟩
theorem tw2337527043626568415:True:=⟨⟩
theorem tw11952011347204846211:True:=⟨⟩
theorem tw11157526163479919790:True:=⟨⟩
theorem tw3942251826072997156:True:=⟨⟩
theorem tw1024913555753384379:True:=⟨⟩
theorem tw1893130902307060550:True:=⟨⟩
theorem tw8296769246042633757:True:=⟨⟩
theorem tw18245523484672369890:True:=⟨⟩
theorem tw2235633934748657211:True:=⟨⟩
theorem tw5628279232683453845:True:=⟨⟩
theorem tw13867262008338388916:True:=⟨⟩
theorem tw16955421603996405998:True:=⟨⟩
theorem tw8872790893065291265:True:=⟨⟩
theorem tw1048254454322941770:True:=⟨⟩
theorem tw9185002921070882485:True:=⟨⟩
theorem tw15276267671597999207:True:=⟨⟩
theorem tw17528386663093654619:True:=⟨⟩
theorem tw14335963457181631034:True:=⟨⟩
theorem tw3734051008454919251:True:=⟨⟩
theorem tw640378506128969910:True:=⟨⟩
theorem tw3079679426390655792:True:=⟨⟩
theorem tw5669748517432091993:True:=⟨⟩
theorem tw1783472120478744402:True:=⟨⟩
theorem tw12422337251166926429:True:=⟨⟩
theorem tw11333666051581065985:True:=⟨⟩
theorem tw8722061597814641362:True:=⟨⟩
theorem tw2631298543747077781:True:=⟨⟩
theorem tw3655244779009452398:True:=⟨⟩
theorem tw6099290741542806507:True:=⟨⟩
theorem tw8340303249591753000:True:=⟨⟩
theorem tw9059533429255504197:True:=⟨⟩
theorem tw15129018751388310222:True:=⟨⟩
theorem tw17511881516041284379:True:=⟨⟩
theorem tw14740577388894304452:True:=⟨⟩
theorem tw17869539846010534685:True:=⟨⟩
theorem tw3472109184431307839:True:=⟨⟩
theorem tw9511931971676427219:True:=⟨⟩
theorem tw14921796561747741254:True:=⟨⟩
theorem tw15390344774475448870:True:=⟨⟩
theorem tw9450272617118021190:True:=⟨⟩
theorem tw561211150910666492:True:=⟨⟩
theorem tw1285069881021731710:True:=⟨⟩
theorem tw11333860509178280523:True:=⟨⟩
theorem tw236159129962593415:True:=⟨⟩
theorem tw4052948549709202805:True:=⟨⟩
theorem tw18167765970325759979:True:=⟨⟩
theorem tw5613564003207821346:True:=⟨⟩
theorem tw2259725630104635801:True:=⟨⟩
theorem tw5283586933266517146:True:=⟨⟩
theorem tw11421522304548019562:True:=⟨⟩
theorem tw3965408850485594584:True:=⟨⟩
theorem tw17196591740879893708:True:=⟨⟩
theorem tw14920802718776143210:True:=⟨⟩
theorem tw3014255820654813724:True:=⟨⟩
theorem tw11814726453240461050:True:=⟨⟩
theorem tw7384360230316294427:True:=⟨⟩
theorem tw4614556563785062495:True:=⟨⟩
theorem tw3767688068965729583:True:=⟨⟩
theorem tw2911021591061939166:True:=⟨⟩
theorem tw15408868124595340163:True:=⟨⟩
theorem tw10618398043803515784:True:=⟨⟩
theorem tw13363598229459458486:True:=⟨⟩
theorem tw389241924173062730:True:=⟨⟩
theorem tw3753863004584594268:True:=⟨⟩
theorem tw10552776320250942733:True:=⟨⟩
theorem tw5885431948006734788:True:=⟨⟩
theorem tw4723044206828881185:True:=⟨⟩
theorem tw7205869852320322132:True:=⟨⟩
theorem tw10851459678735441940:True:=⟨⟩
theorem tw16677879090137706338:True:=⟨⟩
theorem tw1413658115703324683:True:=⟨⟩
theorem tw8741521133964555903:True:=⟨⟩
theorem tw7749675745154680606:True:=⟨⟩
theorem tw424995389105496988:True:=⟨⟩
theorem tw8153251191473639881:True:=⟨⟩
theorem tw14616292266393129961:True:=⟨⟩
theorem tw3093407522224666101:True:=⟨⟩
theorem tw10366361608844839633:True:=⟨⟩
theorem tw1001510737569135730:True:=⟨⟩
theorem tw17018036083368825768:True:=⟨⟩
theorem tw821372457489211263:True:=⟨⟩
theorem tw5167648893159001868:True:=⟨⟩
theorem tw3403623715545036628:True:=⟨⟩
theorem tw13252672047993201538:True:=⟨⟩
theorem tw13690672603610868665:True:=⟨⟩
theorem tw15115067361062919910:True:=⟨⟩
theorem tw2911295890470808335:True:=⟨⟩
theorem tw5965814047968714185:True:=⟨⟩
theorem tw1246169868874242387:True:=⟨⟩
theorem tw16738160686103589222:True:=⟨⟩
theorem tw3507857290679951822:True:=⟨⟩
theorem tw10565246961522204085:True:=⟨⟩
theorem tw9185629452525089990:True:=⟨⟩
theorem tw11611062420398312868:True:=⟨⟩
theorem tw1201686846052017068:True:=⟨⟩
theorem tw4468876613047591925:True:=⟨⟩
theorem tw12764997182686275453:True:=⟨⟩
theorem tw16065223637222156842:True:=⟨⟩
theorem tw2824858187174173930:True:=⟨⟩
theorem tw15875743667406735181:True:=⟨⟩
theorem tw12848572193608518577:True:=⟨⟩
theorem tw1274307900590791311:True:=⟨⟩
theorem tw4903644356260066736:True:=⟨⟩
theorem tw4326089254778190319:True:=⟨⟩
theorem tw6447134970892606114:True:=⟨⟩
theorem tw14683100070744130579:True:=⟨⟩
theorem tw7283393520501988657:True:=⟨⟩
theorem tw2010794532007539432:True:=⟨⟩
theorem tw5698689598816503804:True:=⟨⟩
theorem tw7056330238783426738:True:=⟨⟩
theorem tw200024102712532442:True:=⟨⟩
theorem tw15498452243577142588:True:=⟨⟩
theorem tw7690885150854906128:True:=⟨⟩
theorem tw3259669225228464537:True:=⟨⟩
theorem tw14577654281913641512:True:=⟨⟩
theorem tw2139349089499103688:True:=⟨⟩
theorem tw13996750432725400520:True:=⟨⟩
theorem tw3924728518076187180:True:=⟨⟩
theorem tw6729739750019715316:True:=⟨⟩
theorem tw6360849014504127323:True:=⟨⟩
theorem tw7287213183035092037:True:=⟨⟩
theorem tw15981562295928025467:True:=⟨⟩
theorem tw12269042739172000265:True:=⟨⟩
theorem tw16132223608924303090:True:=⟨⟩
theorem tw16814768718518475044:True:=⟨⟩
theorem tw1108415714989320017:True:=⟨⟩
theorem tw1419472070570864695:True:=⟨⟩
theorem tw1092114485557220328:True:=⟨⟩
theorem tw10003835849780060437:True:=⟨⟩
theorem tw7893898608757248869:True:=⟨⟩
theorem tw16722254805630378240:True:=⟨⟩
theorem tw14949646774396141905:True:=⟨⟩
theorem tw714506813173734774:True:=⟨⟩
theorem tw10921916036399662367:True:=⟨⟩
theorem tw5744678026200879673:True:=⟨⟩
theorem tw16152853801907923395:True:=⟨⟩
theorem tw12543005600535041854:True:=⟨⟩
theorem tw6055222871233448795:True:=⟨⟩
theorem tw11256249513649736831:True:=⟨⟩
theorem tw16840910937004347033:True:=⟨⟩
theorem tw10111440201232175361:True:=⟨⟩
theorem tw1121798061355250349:True:=⟨⟩
theorem tw2760288381308435728:True:=⟨⟩
theorem tw3219534386587615824:True:=⟨⟩
theorem tw1220032225995404628:True:=⟨⟩
theorem tw5438825628343611749:True:=⟨⟩
theorem tw16792450729795140951:True:=⟨⟩
theorem tw10444153630965455419:True:=⟨⟩
theorem tw10269933026012903556:True:=⟨⟩
theorem tw7112511172867288091:True:=⟨⟩
theorem tw7553949093183073037:True:=⟨⟩
theorem tw379101540646105252:True:=⟨⟩
theorem tw17165530577172641952:True:=⟨⟩
theorem tw17648667658205690870:True:=⟨⟩
theorem tw11418272783755870383:True:=⟨⟩
theorem tw6637981837962536073:True:=⟨⟩
theorem tw2830738552362049962:True:=⟨⟩
theorem tw2758885289242966605:True:=⟨⟩
theorem tw8054814742017445900:True:=⟨⟩
theorem tw2877287532095721066:True:=⟨⟩
theorem tw17707145845920906717:True:=⟨⟩
theorem tw576275342039221510:True:=⟨⟩
theorem tw13267706511435933616:True:=⟨⟩
theorem tw2925118530720400459:True:=⟨⟩
theorem tw7849849188604499977:True:=⟨⟩
theorem tw12708299692837079049:True:=⟨⟩
theorem tw9880356200018564011:True:=⟨⟩
theorem tw8019742506126177769:True:=⟨⟩
theorem tw1859987462482662077:True:=⟨⟩
theorem tw12597364291368192256:True:=⟨⟩
theorem tw15436181202005763716:True:=⟨⟩
theorem tw18107132671806981849:True:=⟨⟩
theorem tw13188563934145475844:True:=⟨⟩
theorem tw11107689071740662785:True:=⟨⟩
theorem tw7773397929473583545:True:=⟨⟩
end PySem.W.Fast
open PySem PySem.W PyProof.Rows
set_option maxRecDepth 100000 in
set_option maxHeartbeats 0 in
theorem PySem.Challenge.cw_jumpfield_k63_whole_reasons_of_far_jumps_holds : PySem.Challenge.rw_jumpfield_k63_whole_reasons_of_far_jumps.Holds := by
 w_on; o_law; k_head; (case hw=>w_witness2)
 k_fill
 refine J.walk (l:=PySem.Challenge.rw_jumpfield_k63_whole_reasons_of_far_jumps) rfl rfl (fun w h Y=>PySem.W.kIn_of Y) ?F
 case F =>
  intro w mg fa h KX G hmg;refine' J.fin KX G hmg ?h0 ?h1 ?h2 ?h3 ?h4 ?h5 ?h6 ?h7 ?h8 ?h9 ?h10 ?h11 ?h12 ?h13 ?h14 ?h15 ?h16 ?h17 ?h18 ?h19 ?h20 ?h21 ?h22 ?h23 ?h24 ?h25 ?h26 ?h27 ?h28 ?h29 ?h30 ?h31 ?h32 ?h33 ?h34 ?h35 ?h36 ?h37 ?h38 ?h39 ?h40 ?h41 ?h42 ?h43 ?h44 ?h45 ?h46 ?h47 ?h48 ?h49 ?h50 ?h51 ?h52 ?h53 ?h54 ?h55 ?h56 ?h57 ?h58 ?h59 ?h60 ?h61 ?h62 ?h63 ?h64 ?h65 ?h66 ?h67 ?h68 ?h69 ?h70 ?h71 ?h72 ?h73 ?h74 ?h75 ?h76 ?h77 ?h78 ?h79 ?h80 ?h81 ?h82 ?h83 ?h84 ?h85 ?h86 ?h87 ?h88 ?h89 ?h90 ?h91 ?h92 ?h93 ?h94 ?h95 ?h96 ?h97 ?h98 ?h99 ?h100 ?h101 ?h102 ?h103 ?h104 ?h105 ?h106 ?h107 ?h108 ?h109 ?h110 ?h111 ?h112 ?h113 ?h114 ?h115 ?h116 ?h117 ?h118 ?h119 ?h120 ?h121 ?h122 ?h123 ?h124 ?h125 ?h126
  (case h0 | h1 | h2 | h3 | h4 | h5=>k_is)
  (case h6 | h7 | h8 | h9 | h10 | h11=>(refine' ⟨?_,?_,?_,?_⟩<;>k_is))
  (case h12 | h13 | h14 | h15 | h16 | h17 | h18 | h19 | h20 | h21 | h22 | h23 | h24 | h25 | h26 | h27 | h28 | h29 | h30=>k_is)
  (case h31 | h32 | h33 | h34 | h35 | h36 | h37 | h38 | h39 | h40 | h41 | h42 | h43 | h44 | h45 | h46 | h47 | h48 | h49 | h50 | h51 | h52 | h53 | h54 | h55 | h56 | h57 | h58 | h59 | h60 | h61 | h62 | h63 | h64 | h65 | h66 | h67 | h68 | h69 | h70 | h71 | h72=>(apply J.Fg.mk; k_is; apply L2.RV<;>k_is))
  (case h73 | h74 | h75 | h76 | h77 | h78 | h79 | h80 | h81 | h82 | h83 | h84 | h85 | h86 | h87 | h88 | h89 | h90 | h91 | h92 | h93 | h94 | h95=>(apply J.Fm.mk; (apply L2.Qn.mk<;>k_is); apply L2.RV<;>k_is))
  (case h96 | h97 | h98 | h99 | h100 | h101=>(apply J.Fi.mk; (apply L2.Mk.mk<;>k_is); apply L2.RV<;>k_is))
  (case h102 | h103 | h104 | h105 | h106 | h107 | h108 | h109 | h110 | h111 | h112 | h113 | h114 | h115 | h116 | h117=>k_is)
  (case h118=>decide +kernel)
  (case h119=>k_is)
  (case h120=>decide +kernel)
  (case h121=>k_is)
  (case h122=>decide +kernel)
  (case h123 | h124=>k_is)
  (case h125=>decide +kernel)
  (case h126=>k_is)
