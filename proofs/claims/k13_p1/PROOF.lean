import PyProof.Rows.All
import Wide.All
import OpenK.AllK
import Wide.FinOn
import Lean
import PyProof.EqAt
import PyProof.EqKinds
import PyProof.TupleCall
import PyProof.CompFree
import PyProof.NeKinds
import KE.KSortTup
import KE.KRevSl
import KE.KDictSum
import KE.KEqDict
import PyProof.Conv_int_bool
import PyProof.AttrMissHeap
import KE.KLam
import KE.KRevIter
import PySem.Challenge.RW_talkmarks_k13_logs
open PySem renaming wpAny_bind->t9,wpAny_pure->u9,Spec->AAA,wpAny_callSpecial?_slot->MY,wpAny_call_entry->J2,wpAny_newObj_type->K5,wpAny_holding->K8,wpAny_setState_of->Ny,wpAny_seqItems->Na,mem_of_lookup->Om,wpAny_mono->L6,wpAny_setField->Nx,wpAny_fieldsOf->Nw,wpAny_field->MN,wpAny_truthy_bool->Oj,wpAny_Call_Name_kw->OD,wpAny_ite_split->NY,sizeLine_eq->M8,eqIsQuiet_byValue->OB,wpAny_specialOf->Of,wpAny_forIn_list->OA,wpAny_isInstance->Oz,wpAny_typeNameOfWhole_keyiter->Rt,wpAny_typeNameOfWhole_valiter->Rs,wpAny_attempt->NX,wpAny_askSetting->OW,wpAny_setField_rec->Pu,wpAny_dictEntries->Pq,wpAny_typeNameOf_keyiter->Rn,wpAny_typeNameOf_valiter->Rm,wpAny_setEntries_of->Qq,wpAny_callSpecialIfBoundUnlessNone?_slot->Sa,wpAny_loadPart'->R9,codeAny_builtin->Pp,wpAny_dictEpoch->Po,wpAny_pyHash_int->Qg,wpAny_pyHash_str->Qf,wpAny_rule->Oa,wpAny_passesOwn->Qd,wpAny_pyIter_list->Rb,wpAny_pyIter_slot->Q8,isSubtype_stop->P6,codeAny_mono->Pj,wpAny_typeOf->Pi,wpAny_notOrdered_dict->RL,wpAny_isOneOf_valiter->RK,plainId_quiet->P5,Value->AEH
open PySem.Str renaming ofString->AA1,join->N7
open List renaming getElem?_eq_some_iff->A3,length_map->x6,getElem?_eq_getElem->C4,mem_cons_of_mem->C0,length_append->A7,mem_cons_self->C7,length_cons->C5,size_toArray->C9,mem_cons->A5,all_eq_true->D7,map_cons->B9,mem_map->A8,getElem?_append_left->J0,getD_eq_getElem?_getD->L3,mem_singleton->G1,length_singleton->J4,range->C3,getElem?_map->G2,length_nil->Fn,mem_append->F6,getElem_mem->G6,length_take->H9,nil_append->G5,mem_append_right->MJ,getElem?_append_right->ND,mem_range->I9,map_map->F9,cons_lt_cons_iff->NC,getElem?_set_ne->NB,mem_of_getElem?->NA,map_append->MI,not_mem_nil->MV,nodup_cons->MR,find?_cons->MQ,getElem?_of_mem->NP,append_assoc->Nk,length_set->MU,getElem?_cons_succ->On,pairwise_cons->Nz,all_cons->MG,prefix_append->NO,getElem?_cons_zero->OF,mem_filter->Nj,pairwise_map->NN,take_add_one->NM,getElem?_take_of_lt->O6,nodup_iff_pairwise_ne->Pz,zip_cons_cons->Ol,getElem?_set_self->O5,length_drop->N0,any_cons->Nh,mem_map_of_mem->OE,getElem?_eq_none->O2,append_nil->NZ,lookup_cons->Oi,take_length->Oh,filterMap_cons->O0,cons_append->Oy,pairwise_singleton->Qx,replicate_zero->Pw,take_of_length_le->Qw,getElem_map->OX,filter_cons->OU,mem_of_find?_eq_some->Rp,mem_append_left->Qv,mem_of_mem_take->Qt,length_range->Ps,map_nil->Oc,getElem?_replicate->Rl,map_congr_left->Qr,lt_irrefl->OT,filter_append->Qk,length->Ob,length_replicate->Rj,all_map->Ou,take_sublist->Qi,mem_of_mem_drop->Rh,pairwise_iff_getElem->RU,prefix_refl->Qe,getElem?_drop->Rf,find?_some->P9,drop_eq_nil_of_le->RO,ext_getElem?->Ra,replicate->P7,getElem?_toArray->RN,of_mem_zip->Q6,forIn_cons->Q4,prefix_rfl->Q3,range_succ->QZ,toArray->P3,getD->OO,map_id->P0
open PySem.W renaming Frag->v9,nsIn->Nv,kas_desc->K3,keepIn->Ox,fnOf->Od,kas_rev->ME,kas_place->NJ,kas_asc->M7,findIn->P8,kas_descPart->Ph,kas_sort->N8,codeIn->QY,kitOne->QX,methodObj->RH
open PySem.Heap renaming get?_push_of_some->A9,get?_push_size->E1,lt_size->C2,get?_update_self->MX,size_push->MH,get?_update_other->Py,SameBut->NK,get?_update_ne->Qs
open Bool renaming and_eq_true->B8,false_eq_true->E3,true_and->E5,false_ne_true->K0,false_and->J7,eq_iff_iff->Ni,and_true->M9,eq_false_iff->OC,not_true->NW,and_false->Pn,or_eq_true->Qc
open Nat renaming le_refl->z5,ne_of_lt->D6,zero_le->D4,lt_of_lt_of_le->K6,lt_irrefl->K9,lt_succ_self->MW,le_trans->MF,not_lt_zero->Og,sub_self->Nu,lt_or_ge->Nt,lt_succ_of_lt->OZ,not_lt->NT,lt_trichotomy->Qh,min_eq_left->Qa,le_succ->OQ,le_add_right->Q7,le_of_lt->P4
open Array renaming length_toList->G3,getElem?_eq_getElem->L1,getElem?_toList->J3,getElem?_eq_some_iff->N3,getD_eq_getD_getElem?->OH,getElem?_eq_none->O3,getD->Nf,forIn_toList->Pt
open Option.some renaming inj->F3
open PySem.SetTable renaming below->G0,runEnd->L0,bits->NL,leap->Oe,Probe->Ow,grown->OS,turns->Pl,fits->Pk,insertAt->Q9,sizeAbove->RI,fill->QT
open PySem.Heap.SameBut renaming update->Nb
open Classical renaming byContradiction->Oo
open Ne renaming symm->D3
open PySem.Builtin.SmallTypes renaming nextOf->OG,ownedTupleIsFree->Ru,ownedTupleHandOut->R8
open PyProof.Rows renaming slot_tuple_getitem->PC,callWith_type1->Qz,get?_update_seq->Q0
open PySem.NameKind renaming free->MP,cell->Ov
open PySem.Builtin.Tuple renaming tupleHashOf->O7,tupleItemsOf->Rr,tupleExact->Ro
open PySem.Value renaming none->K4,ref->I0,type->OP,bool->Pg
open PySem.Builtin.Str renaming strSliceIndices->PB,occurrences->Qy
open Int renaming toNat_natCast->N1,toNat_of_nonneg->Px,emod_lt_of_pos->Ql,emod_nonneg->Qb,toNat->NR,ofNat->N9
open Option renaming map_eq_some_iff->O4,join_some->OV,isSome_map->Rc
open PySem.Txt renaming slice->J6,join->Ot
open List.Pairwise renaming and_mem->O1,nil->Re,and->RF
open PySem.Builtin.Dict_items renaming ownsTuple->QA
open PySem.Obj renaming mapSeq->MM,data_mapFields->Pv,mapFields->OR,isFreed_of_fields->RM,putSet->Pf
open Sum renaming inr->ACE
open PySem.SetTable.below renaming go->OY
open PySem.SeqAt renaming EqAt->Ng
open PySem.Builtin.Slice renaming slicePlaces->Rq,sliceAdjust->RV,sliceApplied->R5
open PySem.Around renaming under_plainId->Qu
open PySem.SetTable.layClean renaming free->Rk
open PySem.SeqAt.EqAt renaming int_str->Qp,str_int->Qo,int_int->Qm,str_str->Rg,same->Q2
open PySem.Calls renaming spliced_cons->Qn,spliced_nil->Qj,callWith_builtin->RP
open PySem.Builtin.Dict renaming showsAll->Ri
open False renaming elim->NV
open True renaming intro->NU
open List.Perm renaming refl->Pm,cons->QW
open PySem.F renaming args_tuple_add_2->RT,entry_tuple_add->RR,slot_tuple_add->RQ
open PySem.Builtin.List renaming listTooLong->RS,listLengthHint->R7,listExtendWith->R6
open PySem.Expr renaming Call->NS
open PySem.StrLaws renaming glued_eq_join->RJ
open ForInStep renaming yield->Q5
open List.cons renaming injEq->Q1,inj->QU
open PySem.SetTable.probe renaming go->RG
open PySem.Paired renaming length->QV
open Option renaming some->a7,none->a8
open Bool renaming true->a9,false->b7
open PySem renaming Value->b9,Str->c9,World->d5,Program->d6,Addr->d7,Obj->d8,Heap->d9,sysModules->f6,mainGlobals->f7,bootBuiltins->f8,Around->f9,Shared->g8,Scope->g9,wpAny->i7,Expr->i9,model->j2,backTo->j5,starEach->j6,Stmt->j7,holding->j8,swapsWith->j9,assign->k6,assignEach->k7,pyNext->k8,letOwnedTupleGo->k9,pyIter->l6,rawInt->l7,foldedSetIterable->l9,binaryOp->m3,compareOp->m5,behindInMarks->m8,cLine->m9,FuncData->n0,codeAny->n3,NameKind->n4,IsPart->n6,getItem->n9,sliceBounds->o0,attributeBase->o4,keywordEach->o5,Keyword->o6,DictEntry->o7,reduceHash->o8,firstArgMember->p5,IsPair->p6,pickOrder->p7,SetTable->p8
open PyProof.Rows renaming AllBare->i5,envOfC->n5,seqObj->p4
set_option autoImplicit true
set_option relaxedAutoImplicit true
set_option compiler.extract_closed false
set_option Elab.async false
set_option linter.all false
set_option maxRecDepth 100000
def p9:=@if_pos
def q9:=@if_neg
def r9:=@absurd
def s9:=@decide_eq_true_eq
def t4:=@beq_iff_eq
def t5:=@if_false
def t6:=@if_true
def t7:=@congrArg
def t8:=@beq_self_eq_true
-- CHANGE: your row's module here,as the last of these rows
theorem dF_{p:Prop}[Decidable p](h:¬p):decide p=b7:=decide_eq_false h
theorem dT_{p:Prop}[Decidable p](h:p):decide p=a9:=decide_eq_true h
theorem oT_{p:Prop}[Decidable p](h:decide p=a9):p:=of_decide_eq_true h
namespace L2
open PySem PySem.Spec PyProof.Rows
noncomputable abbrev D9:=Sum Int c9
noncomputable def uK:D9->b9->Bool
 |.inl k,v=>Value.isInt k v
 |.inr x,v=>Value.isStrOf x v
noncomputable def keyH(w:d5):D9->Int
 |.inl k=>hashInt k
 |.inr x=>hashStr w x
theorem bf:∀{k:D9}{v:b9},uK k v=a9->(∃i t,k=Sum.inl i/\v=Value.int i t)\/(∃x t,k=ACE x/\v=Value.str x t)
 |.inl i,v,h=>by obtain⟨t,e⟩:=Value.isInt_shape (k:=i) (v:=v) h;exact .inl ⟨i,t,rfl,e⟩
 |.inr x,v,h=>by obtain⟨t,e⟩:=Value.isStrOf_shape (x:=x) (v:=v) h;exact .inr ⟨x,t,rfl,e⟩
theorem Bc(i:Int)(t:Tok):uK (.inl i) (.int i t)=a9:=by simp[uK,Value.isInt]
theorem Bb(x:c9)(t:Tok):uK (.inr x) (.str x t)=a9:=by simp[uK,Value.isStrOf]
theorem KR(a b:Int):decide ((Sum.inl a:D9)=Sum.inl b)=(a==b):=by by_cases e:a=b;subst e;simp;have h:¬(Sum.inl a:D9)=Sum.inl b:=λq=>e<|Sum.inl.inj q;rw[dF_ h];exact(beq_eq_false_iff_ne.mpr e).symm
theorem Fa(a b:c9):decide ((ACE a:D9)=ACE b)=decide (a=b):=by by_cases e:a=b;subst e;simp;have h:¬(ACE a:D9)=ACE b:=λq=>e<|Sum.inr.inj q;rw[dF_ h,dF_ e]
theorem KQ(a:Int)(b:c9):decide ((Sum.inl a:D9)=ACE b)=b7:=dF_<|λq=>nomatch q
theorem KP(a:c9)(b:Int):decide ((ACE a:D9)=Sum.inl b)=b7:=dF_<|λq=>nomatch q
noncomputable def bB(prog:d6)(w:d5):PySem.KeyKind prog w D9 where
 is:=uK
 hash:=keyH w
 inj:=λv a b f d=>by
  rcases bf f with⟨i,t,rfl,rfl⟩|⟨x,t,rfl,rfl⟩
  rcases bf d with⟨j,u,rfl,e⟩|⟨y,u,rfl,e⟩
  injection e with e1 _;rw[e1];exact nomatch e
  rcases bf d with⟨j,u,rfl,e⟩|⟨y,u,rfl,e⟩
  exact nomatch e
  injection e with e1 _;rw[e1]
 byValue:=λk v h=>by rcases bf h with⟨i,t,rfl,rfl⟩|⟨x,t,rfl,rfl⟩<;>rfl
 pyHash:=λc h=>by
  rcases bf c with⟨i,t,rfl,rfl⟩|⟨x,t,rfl,rfl⟩
  exact Qg h;exact Qf h
 eqBool:=λg c h=>by
  rcases bf g with⟨i,t,rfl,rfl⟩|⟨x,t,rfl,rfl⟩
  rcases bf c with⟨j,u,rfl,rfl⟩|⟨y,u,rfl,rfl⟩
  rw[KR]at h;exact wpAny_eqBool_int h;rw[KQ]at h;exact Qp i t y u _ _ _ _ h;rcases bf c with⟨j,u,rfl,rfl⟩|⟨y,u,rfl,rfl⟩
  rw[KP]at h;exact Qo x t j u _ _ _ _ h;rw[Fa]at h;exact wpAny_eqBool_str h
 «strs»:=λk x t v h=>by
  rcases bf h with⟨i,u,rfl,e⟩|⟨y,u,rfl,e⟩
  exact nomatch e
  injection e with e1 _;subst e1;cases v<;>rfl
theorem uu(prog:d6)(w:d5)(i:Int)(t:Tok):(bB prog w).is (.inl i) (.int i t)=a9:=Bc i t
theorem ut(prog:d6)(w:d5)(x:c9)(t:Tok):(bB prog w).is (.inr x) (.str x t)=a9:=Bb x t
inductive V where
 |non|bl (b:Bool)|int (i:Int)|str (x:c9)|byt (b:Array UInt8)|flt (b:UInt64)|ref (a:d7)|ty (n:String)
 deriving DecidableEq
def aQ:V->b9->Prop
 |.non,u=>u=K4
 |.bl b,u=>u=Pg b
 |.int i,u=>∃t,u=Value.int i t
 |.str x,u=>∃t,u=Value.str x t
 |.byt b,u=>∃t,u=Value.bytes b t
 |.flt b,u=>∃t,u=Value.float b t
 |.ref a,u=>u=I0 a
 |.ty n,u=>u=OP n
abbrev ax:List V->List b9->Prop:=Paired aQ
theorem ax.length(r:ax xs us):xs.length=us.length:=QV r
theorem ax.get:∀{xs:List V}{us:List b9}{i:Nat}{x:V},ax xs us->xs[i]?=a7 x->∃u,us[i]?=a7 u/\aQ x u
 |_,_,_,_,.nil,e=>by simp at e
 |_,_,0,_,.cons r _,e=>by simp at e;subst e;exact⟨_,rfl,r⟩
 |_,_,i+1,x,.cons _ t,e=>by obtain⟨u,h1,h2⟩:=ax.get (i:=i) (x:=x) t (by simpa using e);exact⟨u,by simpa using h1,h2⟩
theorem ax.set(r:aQ x u):∀{xs:List V}{us:List b9} (i:Nat),ax xs us->ax (xs.set i x) (us.set i u)
 |_,_,_,.nil=>.nil
 |_,_,0,.cons _ t=>.cons r t
 |_,_,i+1,.cons q t=>.cons q<|ax.set r i t
theorem ax.append(h:ax xs us)(s:ax ys ws):ax (xs++ys) (us++ws):=by
 induction h with
 |nil=>exact s
 |cons r t i=>exact .cons r i
theorem ax.take:∀{xs:List V}{us:List b9} (n:Nat),ax xs us->ax (xs.take n) (us.take n)
 |_,_,0,_=>.nil
 |_,_,_+1,.nil=>.nil
 |_,_,n+1,.cons r t=>.cons r<|ax.take n t
theorem ax.drop:∀{xs:List V}{us:List b9} (n:Nat),ax xs us->ax (xs.drop n) (us.drop n)
 |_,_,0,r=>r
 |_,_,_+1,.nil=>.nil
 |_,_,n+1,.cons _ t=>ax.drop n t
def Mz:Option V->Option b9->Prop
 |some v,a7 u=>aQ v u
 |none,a8=>True
 |_,_=>False
def KV{κ:Type}:List (κ×V)->List (κ×b9)->Prop:=Paired λ(p:κ×V) (q:κ×b9)=>p.1=q.1/\aQ p.2 q.2
noncomputable def kV:D9->V
 |.inl i=>.int i
 |.inr x=>.str x
inductive HO where
 |lst (xs:List V)
 |tup (xs:List V)
 |dK (kvs:List (D9×V))|dT (kvs:List (List D9×V))
 |set (S:Int->Bool) (n:Nat)
 |ins (C dx:d7) (fs:List (c9×V))
 |own (x:d7)
 |xd (fs:List (c9×V))
 |met (f x:d7)
 |rng (lo hi:Int)
 |frz (o:d8) (u:HO)
 |tbl (ps:Array b9)
 |ext (φ:d6->d5->d9->Prop)
abbrev Hp:=d7->Option HO
noncomputable def A0(H:Hp)(a:d7)(o:HO):Hp:=λb=>if b=a then a7 o else H b
theorem bi:A0 H a o a=a7 o:=by unfold A0;rw[p9 rfl]
theorem az(h:b≠a):A0 H a o b=H b:=by unfold A0;rw[q9 h]
theorem ne_of{H:Hp}{a b:d7}{o u:HO}(h:H a=a7 o)(h':H b=a7 u)(d:o≠u):a≠b:=by intro e;subst e;rw[h]at h';exact d<|F3 h'
theorem ag{H:Hp}{a b:d7}{o:HO}(h:H a=a7 o)(h':H b=a8):a≠b:=by intro e;subst e;rw[h]at h';cases h'
section
variable(P:d6)(w:d5)
def Fq(h:d9)(a:d7)(s:Array b9):Prop:=∃o,h.get? a=a7 o/\o.cls=.type "tuple"/\(∃n,o.data=.seq s n)/\o.dict=a8
theorem Fq.tup:Fq h a items->IsTup h a items:=λ⟨o,e,c,⟨n,d⟩,_⟩=>⟨o,e,c,n,d⟩
theorem Fq.new(h:d9)(s:Array b9):Fq (h.push { cls:=.type "tuple",data:=.seq s }) h.objs.size s:=⟨_,E1 _ rfl,rfl,⟨_,rfl⟩,rfl⟩
def bX(H:Hp)(h:d9)(a:d7):HO->Prop
 |.lst xs=>xs.length<=sizeLine/\∃(its:List b9) (n:Nat),ax xs its/\h.get? a=a7 { cls:=.type "list",data:=.seq its.toArray n }
 |.tup xs=>xs.length<=sizeLine/\∃its:List b9,ax xs its/\Fq h a its.toArray
 |.dK kvs=>kvs.length<=sizeLine/\(a==f6)=b7/\∃vs,KV kvs vs/\h.DictOf (bB P w) a vs
 |.dT kvs=>kvs.length<=sizeLine/\(a==f6)=b7/\∃xs:List (List D9×d7×b9),Paired (λ(p:List D9×V) (q:List D9×d7×b9)=>p.1=q.1/\H q.2.1=a7 (.tup<|p.1.map kV)/\aQ p.2 q.2.2) kvs xs /\∃o es ep,h.get? a=a7 o/\o.ExactDict/\o.data=.dict es ep/\es.toList=xs.map (entryOfKey<|tupleKind<|bB P w)/\(xs.map (·.1)).Nodup
 |.set S n=>h.SetOf (intKind P w) a S n
 |.ins C dx fs=>H dx=a7 (.own a)/\fs.length<=1000/\dx≠a/\h.get? a=a7 (PySem.W.instObj C dx) /\∃mA,h.Ns1 dx mA/\(∀f,Mz (fs.lookup f)<|mA f)/\PySem.Within mA (fs.map (·.1))
 |.own _=>∃o,h.get? a=a7 o
 |.xd fs=>∃mA,h.Ns1 a mA/\∀f,Mz (fs.lookup f)<|mA f
 |.rng lo hi=>∃t u v,h.get? a=a7 { cls:=.type "range",data:=.fields #[.int lo t,.int hi u,.int 1 v] }
 |.frz o u=>h.get? a=a7 o/\bX H h a u
 |.tbl ps=>h.get? a=a7 { cls:=.none,data:=.fields ps }
 |.met f x=>h.get? a=a7 (RH (.ref f)<|.ref x)
 |.ext φ=>φ P w h/\(∃o,h.get? a=a7 o)/\∀h1 h2:d9,φ P w h1->(∀o,h1.get? a=a7 o->h2.get? a=a7 o)->φ P w h2
def E8(H:Hp)(h:d9):Prop:=∀a o,H a=a7 o->bX P w H h a o
end
theorem bX.lt(x:bX P w H h a o):a<h.objs.size:=by
 cases o with
 |lst xs=>obtain⟨_,_,_,_,e⟩:=x;exact C2 e
 |tup xs=>obtain⟨_,_,_,p⟩:=x;exact p.tup.lt
 |dK kvs=>obtain⟨_,_,_,_,o,_,_,e,_⟩:=x;exact C2 e
 |dT kvs=>obtain⟨_,_,_,_,o,_,_,e,_⟩:=x;exact C2 e
 |set S n=>obtain⟨o,_,_,_,e,_⟩:=x;exact C2 e
 |ins C d s=>obtain⟨_,_,_,e,_⟩:=x;exact C2 e
 |own y=>obtain⟨_,e⟩:=x;exact C2 e
 |xd s=>obtain⟨_,⟨_,_,_,e,_⟩,_⟩:=x;exact C2 e
 |rng l hi=>obtain⟨_,_,_,e⟩:=x;exact C2 e
 |frz b u=>obtain⟨e,_⟩:=x;exact C2 e
 |tbl ps=>exact C2<|show h.get? a=a7 _ from x
 |met f y=>exact C2<|show h.get? a=a7 _ from x
 |ext φ=>obtain⟨_,⟨_,e⟩,_⟩:=x;exact C2 e
theorem Paired.mapP{α β:Type}{F G:α->β->Prop}:∀{l₁:List α}{l₂:List β},Paired F l₁ l₂->(∀a b,F a b->G a b)->Paired G l₁ l₂
 |_,_,.nil,_=>.nil
 |_,_,.cons r t,f=>.cons (f _ _ r)<|Paired.mapP t f
theorem bX.stay(x:bX P w H h a o)(k:∀b u,(b=a\/H b=a7 (.own a))->h.get? b=a7 u->h'.get? b=a7 u)(B:∀b,H b=a7 (.own a)->H' b=a7 (.own a)) (D:∀b xs,H b=a7 (.tup xs)->H' b=a7 (.tup xs)):bX P w H' h' a o:=by
 induction o with
 |lst xs=>obtain⟨z,its,n,r,e⟩:=x;exact⟨z,its,n,r,k _ _ (.inl rfl) e⟩
 |tup xs=>obtain⟨z,its,r,g,e,c⟩:=x;exact⟨z,its,r,g,k _ _ (.inl rfl) e,c⟩
 |dK kvs=>obtain⟨z,y,vs,r,g,es,i,e,c⟩:=x;exact⟨z,y,vs,r,g,es,i,k _ _ (.inl rfl) e,c⟩
 |dT kvs=>obtain⟨z,y,xs,r,g,es,i,e,c⟩:=x;exact⟨z,y,xs,Paired.mapP r λp q z=>⟨z.1,D _ _ z.2.1,z.2.2⟩,g,es,i,k _ _ (.inl rfl) e,c⟩
 |set S n=>obtain⟨g,es,i,t,e,c⟩:=x;exact⟨g,es,i,t,k _ _ (.inl rfl) e,c⟩
 |ins C G m=>obtain⟨d,z,F,e,A,⟨j,es,i,l,c⟩,r⟩:=x;exact⟨B _ d,z,F,k _ _ (.inl rfl) e,A,⟨j,es,i,k _ _ (.inr d) l,c⟩,r⟩
 |own y=>obtain⟨g,e⟩:=x;exact⟨g,k _ _ (.inl rfl) e⟩
 |xd m=>obtain⟨A,⟨j,es,i,e,c⟩,r⟩:=x;exact⟨A,⟨j,es,i,k _ _ (.inl rfl) e,c⟩,r⟩
 |rng I hi=>obtain⟨t,u,v,e⟩:=x;exact⟨t,u,v,k _ _ (.inl rfl) e⟩
 |frz g u E=>obtain⟨e,q⟩:=x;exact⟨k _ _ (.inl rfl) e,E q⟩
 |tbl ps=>have e:h.get? a=a7 { cls:=.none,data:=.fields ps }:=x;show h'.get? a=a7 { cls:=.none,data:=.fields ps };exact k a _ (.inl rfl) e
 |met f y=>have e:h.get? a=a7 (RH (.ref f)<|.ref y):=x;show h'.get? a=a7 (RH (.ref f)<|.ref y);exact k a _ (.inl rfl) e
 |ext φ=>obtain⟨p,⟨o,e⟩,s⟩:=x;exact⟨s _ _ p λo q=>k _ _ (.inl rfl) q,⟨o,k _ _ (.inl rfl) e⟩,s⟩
theorem E8.lt(x:E8 P w H h)(e:H a=a7 o):a<h.objs.size:=(x a o e).lt
theorem E8.fresh(x:E8 P w H h)(e:h.objs.size<=a):H a=a8:=by
 cases q:H a with
 |none=>rfl
 |some u=>exact r9 (K6 (x.lt q) e)<|K9 _
theorem E8.kept(x:E8 P w H h)(k:∀b u,h.get? b=a7 u->h'.get? b=a7 u):E8 P w H h':=λa o e =>
 (x a o e).stay (λb u _ q=>k b u q) (λ_ q=>q) λ_ _ q=>q
theorem E8.laid(x:E8 P w H h)(k:∀b u,h.get? b=a7 u->h'.get? b=a7 u)(p:h.objs.size<=a)(n:bX P w (A0 H a o) h' a o):E8 P w (A0 H a o) h':=λb u e=>by have f:=x.fresh p;by_cases d:b=a;subst d;rw[bi]at e;cases e;exact n;rw[az d]at e;exact(x b u e).stay (λc v _ q=>k c v q) (λc q=>by rw[az<|ag q f];exact q) λc xs q=>by rw[az<|ag q f];exact q
def Rd(H:Hp)(a:d7)(u:HO):Prop:=H a=a7 u\/∃o,H a=a7 (.frz o u)
theorem Rd.ok(r:Rd H a u)(x:E8 P w H h):bX P w H h a u:=by
 rcases r with r|⟨o,r⟩
 exact x a u r;obtain⟨_,q⟩:=x a _ r;exact q
def PR:Option HO->Prop
 |some (.lst _)=>True
 |some (.dK _)=>True
 |some (.dT _)=>True
 |some (.set _ _)=>True
 |some (.ins _ _ _)=>True
 |some (.ext _)=>True
 |_=>False
theorem E8.write(ok:E8 P w H h)(m:PR (H x))(i:e=x\/H e=a7 (.own x))(k:∀b u,b≠e->h.get? b=a7 u->h'.get? b=a7 u)(o:∃u,h'.get? e=a7 u)(g:bX P w (A0 H x o') h' x o'):E8 P w (A0 H x o') h':=λb u q=>by
 have n:∀c y,H c=a7 (.own y)->c≠x:=λc y r z=>by subst z;rw[r]at m;exact m
 have p:∀c xs,H c=a7 (.tup xs)->c≠x:=λc xs r z=>by subst z;rw[r]at m;exact m
 by_cases d:b=x;subst d;rw[bi]at q;cases q;exact g;rw[az d]at q;by_cases a:b=e;have j:H b=a7 (.own x):=by rcases i with z|z;exact r9 (a.trans z) d;rw[a];exact z
 rw[q]at j;cases j;obtain⟨v,l⟩:=o;exact⟨v,by rw[a];exact l⟩;refine(ok b u q).stay (λc v f r=>k c v ?_ r) (λc r=>by rw[az<|n c b r];exact r) λc xs r=>by rw[az<|p c xs r];exact r
 rcases f with rfl|f;exact a;rintro rfl;rcases i with z|z;exact n c b f z;rw[f]at z;cases z;exact d rfl
structure Un(fs ex:List d7)(H H':Hp)(h h':d9):Prop where
 keep:∀b o,h.get? b=a7 o->H b=a8->b∉fs->b∉ex->h'.get? b=a7 o
 slot:∀b o,h.get? b=a7 o->H b=a8->b∈fs->b∉ex->∃sl,h'.get? b=a7 { o with slots:=sl }
 free:∀b o,h.get? b=a7 o->H b=a8->b∉ex->H' b=a8
 there:∀b o,h.get? b=a7 o->b∉ex->∃o',h'.get? b=a7 o'
 tups:∀b xs,H b=a7 (.tup xs)->H' b=a7 (.tup xs)
 frzs:∀b o u,H b=a7 (.frz o u)->H' b=a7 (.frz o u)
 tbls:∀b ps,H b=a7 (.tbl ps)->∃more,H' b=a7 (.tbl<|ps++more)
theorem Un.any(u:Un fs ex H H1 h h1)(q:h.get? b=a7 ob)(n:H b=a8)(x:b∉ex):∃sl,h1.get? b=a7 { ob with slots:=sl }:=by by_cases d:b∈fs;exact u.slot b ob q n d x;exact⟨ob.slots,u.keep b ob q n d x⟩
theorem Un.kept(k:∀b u,h.get? b=a7 u->h'.get? b=a7 u):Un fs ex H H h h':=⟨λb o q _ _ _=>k b o q,λb o q _ _ _=>⟨o.slots,k b o q⟩,λ_ _ _ n _=>n,λb o q _=>⟨o,k b o q⟩,λ_ _ q=>q,λ_ _ _ q=>q,λ_ ps q=>⟨#[],by rw[q];simp⟩⟩
theorem Un.refl:Un fs ex H H h h:=Un.kept λ_ _ q=>q
theorem Un.laid(k:∀b u,h.get? b=a7 u->h'.get? b=a7 u)(p:h.objs.size<=a)(f:H a=a8):Un fs ex H (A0 H a o) h h' where
 keep:=λb u q _ _ _=>k b u q
 slot:=λb u q _ _ _=>⟨u.slots,k b u q⟩
 free:=λb u q n _=>by rw[az<|D6<|K6 (C2 q) p];exact n
 there:=λb u q _=>⟨u,k b u q⟩
 tups:=λb xs q=>by rw[az<|ag q f];exact q
 frzs:=λb u xs q=>by rw[az<|ag q f];exact q
 tbls:=λb ps q=>⟨#[],by rw[az<|ag q f,q];simp⟩
theorem Un.write(m:PR (H x))(i:e=x\/H e=a7 (.own x))(k:∀b u,b≠e->h.get? b=a7 u->h'.get? b=a7 u)(c:∃u,h'.get? e=a7 u):Un fs ex H (A0 H x o) h h':=by
 have g:∀b,H b=a8->b≠x:=λb n z=>by subst z;rw[n]at m;exact m
 have f:∀b,H b=a8->b≠e:=λb n z=>by subst z;rcases i with r|r;exact g b n r;rw[n]at r;cases r
 have d:∀b u,H b=a7 u->¬PR (a7 u)->b≠x:=λb u q j z=>by subst z;rw[q]at m;exact j m
 refine⟨λb u q n _ _=>k b u (f b n) q,λb u q n _ _=>⟨u.slots,k b u (f b n) q⟩,λb u q n _=>by rw[az<|g b n];exact n,λb u q _=>?_,λb xs q=>by rw[az<|d b _ q λz=>z];exact q,λb u xs q=>by rw[az<|d b _ q λz=>z];exact q,λb ps q=>⟨#[],by rw[az<|d b _ q λz=>z,q];simp⟩⟩;by_cases a:b=e;subst a;exact c;exact⟨u,k b u a q⟩
noncomputable def trk(h:d9)(H:Hp):List d7:=(C3 h.objs.size).filter λa=>(H a).isSome
noncomputable def Eb(h:d9)(H:Hp):d9:=PySem.W.hideAll h<|trk h H
theorem Bp(h:d9)(H:Hp):(Eb h H).objs.size=h.objs.size:=PySem.W.hideAll_size _ _
theorem Ea(e:h.get? b=a7 o)(n:H b=a8):(Eb h H).get? b=a7 o:=PySem.W.hideAll_get _ e λd=>by have q:(H b).isSome=a9:=(Nj.mp d).2;rw[n]at q;simp at q
theorem Gx(e:(Eb h H).get? b=a7 o):h.get? b=a7 o/\H b=a8:=by
 have a:h.get? b=a7 o:=PySem.W.of_hideAll (trk h H) e;refine⟨a,?_⟩;cases q:H b with
 |none=>rfl
 |some x=>have d:b∈trk h H:=List.mem_filter.mpr ⟨I9.mpr<|C2 a,by simp[q]⟩;have z:(Eb h H).get? b=a8:=PySem.W.hideAll_none (trk h H) d;rw[z]at e;cases e
noncomputable def IB(g h:d9)(L:d7):List (d7×d8):=(C3 h.objs.size).filterMap λa=>if a=L\/(g.get? a).isSome=a9 then a8 else(h.get? a).map λo=>(a,o)
noncomputable def aX(g h:d9)(L d:d7):List (d7×d8):=(IB g h L).filter λp=>decide<|p.1≠d
structure Mod(K:v9)(mg:c9->Option b9)(base:d9):Prop where
 kin:K.In base
 glob:base.Ns f7 mg
 blt:∃mb,base.Ns builtinsNs mb/\∀x:c9,x≠"__name__"->mb x=f8 x
 nolimit:base.NoLimit
/-- the context: a def's body (or a comprehension's block) running. base: fixed through the whole law;s₀,H₀: the entry;outer: the frames whose slots others may change (a def's callers);stack: all frames that run;
  ex: iterators that were made dW of the entry and are walked here (a comprehension's);fn: the names whose cells were made at the entry (a def: all;a comprehension's block: its own);calm: not IW an except suite;pn: pins that every state bears;xe: what is wanted of an exception that leaves the code -/
structure Cx where
 prog:d6
 w:d5
 K:v9
 mg:c9->Option b9
 base:d9
 A:f9
 N:List c9
 s₀:g8
 H₀:Hp
 env:Env
 outer:List Env
 stack:List Env
 ex:List d7
 fn:c9->Bool
 calm:Bool
 pn:List (d7×d8)
 xe:b9->g8->Prop
noncomputable def K7(l:List Env):List d7:=l.filterMap (·.frame)
noncomputable abbrev Cx.fs(X:Cx):List d7:=K7 X.outer
def OK(c:g9)(x:c9):Prop:=c.names.lookup x=a7 .local\/c.names.lookup x=a7 .cell\/c.names.lookup x=a7 .free
def Os(c:g9)(x:c9):Prop:=c.names.lookup x=a7 .local\/c.names.lookup x=a7 .cell
def Look(env:Env)(h:d9)(m:c9->Option b9)(x:c9)(u:b9):Prop:=(env.kindOf x=a7 .local/\m x=a7 u)\/((env.kindOf x=a7 .cell\/env.kindOf x=a7 .free)/\∃c,env.cells.lookup x=a7 c/\h.IsCell c (a7 u))
structure Cx.Ok(X:Cx):Prop where
 mod:Mod X.K X.mg X.base
 kind:X.env.scope.kind=.function
 glob:X.env.globals=f7
 blt:X.env.builtins=builtinsNs
 above:X.s₀.heap.objs.size<=X.env.locals
 inj:∀x y c,X.env.cells.lookup x=a7 c->X.env.cells.lookup y=a7 c->x=y
 has:∀x,(X.env.kindOf x=a7 .cell\/X.env.kindOf x=a7 .free)->∃c,X.env.cells.lookup x=a7 c
 cab:∀x c,X.fn x=a9->X.env.cells.lookup x=a7 c->X.s₀.heap.objs.size<=c
 hd:X.calm=a9->X.A.handled=a8
 frames:X.A.frames=a7 X.stack
 stk:X.stack=X.outer\/(X.stack=X.env::X.outer/\X.env.frame=a7 X.env.locals)
 exf:∀b∈X.ex,b≠X.env.locals/\∀x c,X.env.cells.lookup x=a7 c->c≠b
 bs:∀b o,X.base.get? b=a7 o->X.s₀.heap.get? b=a7 o/\X.H₀ b=a8
 bsz:X.base.objs.size<=X.s₀.heap.objs.size
 noex:∀b o,X.base.get? b=a7 o->b∉X.ex
 exfs:∀b∈X.ex,b∉X.fs
 funs:X.s₀.heap.FunFrames X.base X.outer
 frf:∀b∈X.fs,X.H₀ b=a8
structure u6(X:Cx)(pins:List (d7×d8))(σ:List (Option V))(H:Hp)(s:g8):Prop where
 ok:X.Ok
 os:s.os=X.s₀.os
 bare:i5 s.gens
 base:Un X.fs X.ex X.H₀ H X.s₀.heap s.heap
 loc:∃m,s.heap.Ns X.env.locals m/\∀(i:Nat) (x:c9) (v:V),X.N[i]?=a7 x->σ[i]?=a7 (a7 v)->OK X.env.scope x->∃u,aQ v u/\Look X.env s.heap m x u
 cell:∀x c,X.env.cells.lookup x=a7 c->∃v,s.heap.IsCell c v
 free:H X.env.locals=a8
 freeC:∀x c,X.env.cells.lookup x=a7 c->H c=a8
 pin:∀p∈X.pn++pins,s.heap.get? p.1=a7 p.2/\H p.1=a8/\p.1≠X.env.locals/\p.1∉X.fs/\∀v,p.2.data≠.cell v
 hok:E8 X.prog X.w H s.heap
 len:σ.length=X.N.length
theorem Cx.Ok.nofr{X:Cx}(ok:X.Ok)(e:X.base.get? b=a7 o):b∉X.fs:=λd=>by have:=(ok.funs.mem d).1;rw[e]at this;cases this
theorem u6.bs{X:Cx}{pins:List (d7×d8)}{σ:List (Option V)}{H:Hp}{s:g8}(I:u6 X pins σ H s):∀b o,X.base.get? b=a7 o->s.heap.get? b=a7 o/\H b=a8:=λb o e =>
 ⟨I.base.keep b o (I.ok.bs b o e).1 (I.ok.bs b o e).2 (I.ok.nofr e)<|I.ok.noex b o e,I.base.free b o (I.ok.bs b o e).1 (I.ok.bs b o e).2<|I.ok.noex b o e⟩
theorem u6.bk(I:u6 X pins σ H s):∀b o,X.base.get? b=a7 o->s.heap.get? b=a7 o:=λb o e=>(I.bs b o e).1
theorem u6.mod(I:u6 X pins σ H s):Mod X.K X.mg X.base:=I.ok.mod
theorem u6.kIn(I:u6 X pins σ H s):X.K.In s.heap:=I.ok.mod.kin.keeps I.bk
theorem u6.lt(I:u6 X pins σ H s):X.env.locals<s.heap.objs.size:=let ⟨_,hn,_⟩:=I.loc;hn.lt
theorem u6.sz(I:u6 X pins σ H s):X.s₀.heap.objs.size<=s.heap.objs.size:=MF I.ok.above<|P4 I.lt
theorem u6.nofs(I:u6 X pins σ H s)(h:s.heap.objs.size<=a):a∉X.fs:=λd=>by obtain⟨_,o,B,_⟩:=I.ok.funs.mem d;exact r9 (K6 (C2 B)<|MF I.sz h)<|K9 _
theorem u6.cne(I:u6 X pins σ H s):∀x c,X.env.cells.lookup x=a7 c->c≠X.env.locals:=λx c e z=>by obtain⟨v,o,B,d⟩:=I.cell x c e;obtain⟨m,⟨o',es,i,a,h,_⟩,_⟩:=I.loc;rw[z,a]at B;cases B;rw[h]at d;cases d
theorem u6.funs(I:u6 X pins σ H s):s.heap.FunFrames X.base X.outer:=by
 have a:∀(l:List Env),(∀b∈K7 l,b∈X.fs)->X.s₀.heap.FunFrames X.base l->s.heap.FunFrames X.base l:=by
  intro l;induction l with
  |nil=>intro _ _;trivial
  |cons env r j=>intro hs g;obtain⟨k,⟨L,o,f,n,B,c⟩,i⟩:=g;have h:L∈X.fs:=hs L (by unfold K7;rw[O0,f];exact C7);obtain⟨m,e⟩:=I.base.slot L o B (I.ok.frf L h) h λz=>I.ok.exfs L z h;exact⟨k,⟨L,_,f,n,e,c⟩,j (λb d=>hs b<|by unfold K7;rw[O0,f];exact C0 _ d) i⟩
 exact a X.outer (λ_ d=>d) I.ok.funs
theorem u6.stack(I:u6 X pins σ H s):s.heap.FunFrames X.base X.stack:=by
 rcases I.ok.stk with e|⟨e,f⟩
 rw[e];exact I.funs;rw[e];obtain⟨m,n,_⟩:=I.loc;refine .cons (by rw[I.ok.kind];decide) f n ?_ I.funs;exact Heap.get?_none_of_le<|MF I.ok.bsz I.ok.above
theorem u6.stkSub(I:u6 X pins σ H s):∀b∈K7 X.stack,b∈X.env.locals::X.fs:=λb d=>by
 rcases I.ok.stk with e|⟨e,f⟩
 rw[e]at d;exact C0 _ d;rw[e]at d;unfold K7 at d;rw[O0,f]at d;exact d
theorem u6.stkFree(I:u6 X pins σ H s):∀b∈K7 X.stack,H b=a8:=λb d=>by rcases A5.mp (I.stkSub b d)with e|d;rw[e];exact I.free;obtain⟨_,o,B,_⟩:=I.ok.funs.mem d;exact I.base.free b o B (I.ok.frf b d) λz=>I.ok.exfs b z d
theorem u6.step{g':Array GenState}{t':Nat}{d':Drawn}{ch:List d7}(I:u6 X pins σ H s)(a:∀b∈ch,(b∈X.ex\/X.s₀.heap.objs.size<=b)/\b≠X.env.locals/\(∀x c,X.env.cells.lookup x=a7 c->c≠b)/\∀p∈X.pn++pins,p.1≠b)(g:∀b o,b≠X.env.locals->b∉X.fs->b∉ch->s.heap.get? b=a7 o->H b=a8->h'.get? b=a7 o)(slot:∀b o,b≠X.env.locals->b∈X.fs->b∉ch->s.heap.get? b=a7 o->H b=a8->∃sl,h'.get? b=a7 { o with slots:=sl }) (f:∀b o,b∉ch->s.heap.get? b=a7 o->H b=a8->H' b=a8)(A:∀b o,b∉ch->s.heap.get? b=a7 o->∃o',h'.get? b=a7 o')(G:∀b xs,H b=a7 (.tup xs)->H' b=a7 (.tup xs)) (E:∀b o u,H b=a7 (.frz o u)->H' b=a7 (.frz o u)) (F:∀b ps,H b=a7 (.tbl ps)->∃more,H' b=a7 (.tbl<|ps++more))(ns:∀m,s.heap.Ns X.env.locals m->h'.Ns X.env.locals m) (K:E8 X.prog X.w H' h') (S:i5 g') :
  u6 X pins σ H' { s with heap:=h',gens:=g',drawn:=d',toks:=t' }:=by
 have L:∀b o,X.s₀.heap.get? b=a7 o->b≠X.env.locals:=λb o e=>D6<|K6 (C2 e) I.ok.above;have C:∀b o,X.s₀.heap.get? b=a7 o->b∉X.ex->b∉ch:=λb o e h y=>by rcases(a b y).1 with z|z;exact h z;exact r9 (K6 (C2 e) z)<|K9 _
 have cellK:∀x c,X.env.cells.lookup x=a7 c->∀v,s.heap.IsCell c v->h'.IsCell c v:=λx c e v ⟨o,B,J⟩=>by have j:c∉ch:=λz=>(a c z).2.2.1 x c e rfl;by_cases N:c∈X.fs;obtain⟨sl,q⟩:=slot c o (I.cne x c e) N j B<|I.freeC x c e;exact⟨_,q,J⟩;exact⟨o,g c o (I.cne x c e) N j B<|I.freeC x c e,J⟩
 refine⟨I.ok,I.os,S,⟨λb o e n y h=>?_,λb o e n y h=>?_,λb o e n h=>?_,λb o e h=>?_,λb xs e=>G b xs<|I.base.tups b xs e,λb o xs e=>E b o xs<|I.base.frzs b o xs e,λb ps e=>?_⟩,?_,λx c e=>?_,?_,λx c e=>?_,λp O=>?_,K,I.len⟩;exact g b o (L b o e) y (C b o e h) (I.base.keep b o e n y h)<|I.base.free b o e n h;obtain⟨sl,t⟩:=I.base.slot b o e n y h;obtain⟨M,D⟩:=slot b _ (L b o e) y (C b o e h) t<|I.base.free b o e n h;exact⟨M,D⟩;obtain⟨o',t⟩:=I.base.there b o e h;exact f b o' (C b o e h) t<|I.base.free b o e n h;obtain⟨o',t⟩:=I.base.there b o e h;exact A b o' (C b o e h) t;obtain⟨V,t⟩:=I.base.tbls b ps e;obtain⟨W,D⟩:=F b _ t;exact⟨V++W,by rw[D,Array.append_assoc]⟩;obtain⟨m,U,T⟩:=I.loc;refine⟨m,ns m U,λi x v t D R=>?_⟩;obtain⟨u,r,l⟩:=T i x v t D R;refine⟨u,r,?_⟩;rcases l with l|⟨k,c,e,z⟩
 exact .inl l;exact .inr ⟨k,c,e,cellK x c e _ z⟩;obtain⟨v,z⟩:=I.cell x c e;exact⟨v,cellK x c e v z⟩;obtain⟨m,⟨o,_,_,B,_⟩,_⟩:=I.loc;exact f _ o (λz=>(a _ z).2.1 rfl) B I.free;obtain⟨v,o,B,J⟩:=I.cell x c e;exact f c o (λz=>(a c z).2.2.1 x c e rfl) B<|I.freeC x c e;obtain⟨e,n,P,Q,d⟩:=I.pin p O;have j:p.1∉ch:=λz=>(a p.1 z).2.2.2 p O rfl;exact⟨g p.1 p.2 P Q j e n,f p.1 p.2 j e n,P,Q,d⟩
theorem u6.un{t':Nat}(I:u6 X pins σ H s)(u:Un X.fs [] H H' s.heap h')(K:E8 X.prog X.w H' h'):u6 X pins σ H' { s with heap:=h',toks:=t' }:=by obtain⟨m,⟨o,es,i,B,r⟩,_⟩:=id I.loc;obtain⟨l,L⟩:=u.any B I.free (by simp);exact I.step (g':=s.gens) (d':=s.drawn) (ch:=[]) (λ_ z=>nomatch z) (λb o _ h _ e n=>u.keep b o e n h<|by simp) (λb o _ h _ e n=>u.slot b o e n h<|by simp) (λb o _ e n=>u.free b o e n<|by simp) (λb o _ e=>u.there b o e<|by simp) u.tups u.frzs u.tbls (λg f=>by obtain⟨o',d,c,a,r'⟩:=f;rw[B]at a;cases a;exact⟨_,d,c,L,r'⟩) K I.bare
theorem u6.call{g':Array GenState}{t':Nat}{d':Drawn}{ch:List d7}(I:u6 X pins σ H s)(u:Un (K7 X.stack) ch H H' s.heap h')(K:E8 X.prog X.w H' h')(S:i5 g')(a:∀b∈ch,(b∈X.ex\/X.s₀.heap.objs.size<=b)/\b≠X.env.locals/\(∀x c,X.env.cells.lookup x=a7 c->c≠b)/\∀p∈X.pn++pins,p.1≠b):u6 X pins σ H' { s with heap:=h',gens:=g',drawn:=d',toks:=t' }:=by obtain⟨m,⟨o,es,k,B,r⟩,_⟩:=id I.loc;obtain⟨q,L⟩:=u.any B I.free λz=>(a _ z).2.1 rfl;exact I.step (ch:=ch) a (λb o L i f e n=>u.keep b o e n (λz=>(A5.mp<|I.stkSub b z).elim L i) f) (λb o _ _ f e n=>u.any e n f) (λb o f e n=>u.free b o e n f) (λb o f e=>u.there b o e f) u.tups u.frzs u.tbls (λl j=>by obtain⟨o',g,d,h,r'⟩:=j;rw[B]at h;cases h;exact⟨_,g,d,L,r'⟩) K S
theorem u6.turned{t':Nat}{it:d7}(I:u6 X pins σ H s)(k:∀b o,b≠it->s.heap.get? b=a7 o->h'.get? b=a7 o)(j:H it=a8)(h:it≠X.env.locals)(h1:it∈X.ex\/X.s₀.heap.objs.size<=it) (h2:∀x c,X.env.cells.lookup x=a7 c->c≠it) (a:∀p∈X.pn++pins,p.1≠it):u6 X pins σ H { s with heap:=h',toks:=t' }:=by
 have t:∀b u,H b=a7 u->b≠it:=λb u e z=>by rw[z,j]at e;cases e
 refine I.step (g':=s.gens) (d':=s.drawn) (ch:=[it]) (λb d=>?_) (λb o _ _ f e _=>k b o (λz=>f<|by simp[z]) e) (λb o _ _ f e _=>⟨o.slots,k b o (λz=>f<|by simp[z]) e⟩) (λ_ _ _ _ n=>n) (λb o f e=>⟨o,k b o (λz=>f<|by simp[z]) e⟩) (λ_ _ e=>e) (λ_ _ _ e=>e) (λb ps e=>⟨#[],by rw[e];simp⟩) (λm g=>?_) (λb u e=>?_) I.bare;have e:b=it:=by simpa using d
 subst e;exact⟨h1,h,h2,a⟩;obtain⟨o,es,i,B,r⟩:=g;exact⟨o,es,i,k _ o (D3 h) B,r⟩;refine(I.hok b u e).stay (λc v f q=>k c v ?_ q) (λ_ q=>q) λ_ _ q=>q;rcases f with z|z;rw[z];exact t b u e;exact t c _ z
theorem u6.tok(I:u6 X pins σ H s)(t:Nat):u6 X pins σ H { s with toks:=t }:=I.un (h':=s.heap) (t':=t) Un.refl I.hok
theorem u6.kept(I:u6 X pins σ H s)(k:∀b u,s.heap.get? b=a7 u->h'.get? b=a7 u):u6 X pins σ H { s with heap:=h',toks:=t' }:=I.un (Un.kept k)<|I.hok.kept k
theorem u6.laid(I:u6 X pins σ H s)(k:∀b u,s.heap.get? b=a7 u->h'.get? b=a7 u)(p:s.heap.objs.size<=a)(n:bX X.prog X.w (A0 H a o) h' a o):u6 X pins σ (A0 H a o) { s with heap:=h',toks:=t' }:=I.un (Un.laid k p<|I.hok.fresh p)<|I.hok.laid k p n
theorem u6.write(I:u6 X pins σ H s)(m:PR (H x))(i:e=x\/H e=a7 (.own x))(k:∀b u,b≠e->s.heap.get? b=a7 u->h'.get? b=a7 u)(h:∃u,h'.get? e=a7 u)(n:bX X.prog X.w (A0 H x o) h' x o):u6 X pins σ (A0 H x o) { s with heap:=h',toks:=t' }:=I.un (Un.write m i k h)<|I.hok.write m i k h n
theorem u6.pins_of(I:u6 X pins σ H s)(h:∀p∈pins',s.heap.get? p.1=a7 p.2/\H p.1=a8/\p.1≠X.env.locals/\p.1∉X.fs/\∀v,p.2.data≠.cell v):u6 X pins' σ H s:=⟨I.ok,I.os,I.bare,I.base,I.loc,I.cell,I.free,I.freeC,λp a=>(F6.mp a).elim (λz=>I.pin p<|Qv _ z)<|h p,I.hok,I.len⟩
theorem wt{N:List c9}(h:N.Nodup){i j:Nat}{x:c9}(a:N[i]?=a7 x)(b:N[j]?=a7 x):i=j:=by obtain⟨h1,t⟩:=A3.mp a;obtain⟨h2,l⟩:=A3.mp b;exact(List.getElem_inj h).mp<|t.trans l.symm
theorem zq{M:Model}{A:f9}{E:b9->g8->Prop}{i:Nat}{x:c9}{v:V}{u:b9}{Q:Unit->g8->Prop}(I:u6 X pins σ H s)(hN:X.N.Nodup)(hi:X.N[i]?=a7 x)(l:Os X.env.scope x)(r:aQ v u)(h:∀s',u6 X pins (σ.set i<|a7 v) H s'->(∃a,NK a s.heap s'.heap/\(a=X.env.locals\/X.env.cells.lookup x=a7 a))->Q () s') (hf:X.fn x=a9\/X.env.scope.names.lookup x=a7 .local:=by first|exact .inl rfl|exact .inr rfl|assumption):i7 M A (storeName X.env x u) Q E s:=by
 obtain⟨m,hn,hl⟩:=id I.loc;have R:(X.env.scope.kind==.class||(X.env.scope.kind==.module&&X.env.locals != X.env.globals))=b7:=by rw[I.ok.kind];rfl
 have D:i<σ.length:=by rw[I.len];exact(A3.mp hi).1
 have G:=I.cne;have f:∀{a:d7}{h':d9},(∃o,s.heap.get? a=a7 o/\H a=a8)->NK a s.heap h'->E8 X.prog X.w H h':=λ{a h'} ha hs b ob e=>by obtain⟨_,_,B⟩:=ha;refine(I.hok b ob e).stay (λc Y g q=>(hs.2 c ?_).trans q) (λ_ q=>q) λ_ _ q=>q;rintro rfl;rcases g with rfl|g;rw[B]at e;cases e;rw[B]at g;cases g
 rcases l with F|F;refine wpAny_storeName_local F hn (λh' ab hs=>?_) R;obtain⟨oL,_,_,ai,_⟩:=id hn;refine h _ ⟨I.ok,I.os,I.bare,⟨λb o e n J l=>?_,λb o e n J l=>?_,I.base.free,λb o e l=>?_,I.base.tups,I.base.frzs,I.base.tbls⟩,⟨_,ab,λj y v' t C Z=>?_⟩,λy c e=>?_,I.free,I.freeC,λp hp=>?_,f ⟨oL,ai,I.free⟩ hs,by simpa using I.len⟩ ⟨_,hs,.inl rfl⟩;exact(hs.2 b<|D6<|K6 (C2 e) I.ok.above).trans<|I.base.keep b o e n J l;obtain⟨sl,t⟩:=I.base.slot b o e n J l;exact⟨sl,(hs.2 b<|D6<|K6 (C2 e) I.ok.above).trans t⟩;obtain⟨o',t⟩:=I.base.there b o e l;exact⟨o',(hs.2 b<|D6<|K6 (C2 e) I.ok.above).trans t⟩;by_cases L:j=i;subst L;rw[hi]at t;cases t;rw[O5 D]at C;cases C;exact⟨u,r,.inl ⟨F,by simp⟩⟩;rw[NB<|D3 L]at C;obtain⟨u',r',q⟩:=hl j y v' t C Z;refine⟨u',r',?_⟩;rcases q with⟨k,e⟩|⟨k,c,e,z⟩
 refine .inl ⟨k,?_⟩;have:y≠x:=λe=>L<|wt hN t<|e ▸ hi;simp[this,e];exact .inr ⟨k,c,e,z.sameBut hs<|G y c e⟩;obtain⟨Y,z⟩:=I.cell y c e;exact⟨Y,z.sameBut hs<|G y c e⟩;obtain⟨e,n,W,nf,d⟩:=I.pin p hp;exact⟨(hs.2 p.1 W).trans e,n,W,nf,d⟩;have K:X.fn x=a9:=by rcases hf with z|z;exact z;rw[z]at F;cases F
 obtain⟨c,g⟩:=I.ok.has x<|.inl F;obtain⟨Y,z⟩:=I.cell x c g;refine wpAny_storeName_cell I.ok.kind F g z<|λh' O hs=>?_;obtain⟨oc,S,T⟩:=id z;refine h { s with heap:=h' } ⟨I.ok,I.os,I.bare,⟨λb o e n J l=>?_,λb o e n J l=>?_,I.base.free,λb o e l=>?_,I.base.tups,I.base.frzs,I.base.tbls⟩,⟨m,hn.sameBut hs<|D3<|G x c g,λj y v' t C Z=>?_⟩,λy U e=>?_,I.free,I.freeC,λp hp=>?_,f ⟨oc,S,I.freeC x c g⟩ hs,by simpa using I.len⟩ ⟨c,hs,.inr g⟩;exact(hs.2 b<|D6<|K6 (C2 e)<|I.ok.cab x c K g).trans<|I.base.keep b o e n J l;obtain⟨sl,t⟩:=I.base.slot b o e n J l;exact⟨sl,(hs.2 b<|D6<|K6 (C2 e)<|I.ok.cab x c K g).trans t⟩;obtain⟨o',t⟩:=I.base.there b o e l;exact⟨o',(hs.2 b<|D6<|K6 (C2 e)<|I.ok.cab x c K g).trans t⟩;by_cases L:j=i;subst L;rw[hi]at t;cases t;rw[O5 D]at C;cases C;exact⟨u,r,.inr ⟨.inl F,c,g,O⟩⟩;rw[NB<|D3 L]at C;obtain⟨u',r',q⟩:=hl j y v' t C Z;refine⟨u',r',?_⟩;rcases q with q|⟨k,U,e,z'⟩
 exact .inl q;refine .inr ⟨k,U,e,z'.sameBut hs ?_⟩;rintro rfl;exact L<|wt hN t<|I.ok.inj _ _ _ e g ▸ hi;by_cases P:U=c;subst P;exact⟨_,O⟩;obtain⟨w2,z2⟩:=I.cell y U e;exact⟨w2,z2.sameBut hs P⟩;obtain⟨e,n,W,nf,d⟩:=I.pin p hp;refine⟨(hs.2 p.1 ?_).trans e,n,W,nf,d⟩;intro q;rw[q,S]at e;have q':oc=p.2:=F3 e;exact d Y<|by rw[<-q'];exact T
theorem wa(I:u6 X pins σ H s)(b:X.N.Nodup)(hi:X.N[i]?=a7 x)(c:Os X.env.scope x)(r:aQ v u)(h:∀s',u6 X pins (σ.set i<|a7 v) H s'->Q () s') (f:X.fn x=a9\/X.env.scope.names.lookup x=a7 .local:=by first|exact .inl rfl|exact .inr rfl|assumption):i7 M A (storeName X.env x u) Q E s:=zq I b hi c r (λs' a _=>h s' a) f
theorem u6.call'(I:u6 X pins σ H s)(B:s'.os=s.os)(u:Un (K7 X.stack) ch H H' s.heap s'.heap)(K:E8 X.prog X.w H' s'.heap)(S:i5 s'.gens)(a:∀b∈ch,(b∈X.ex\/X.s₀.heap.objs.size<=b)/\b≠X.env.locals/\(∀x c,X.env.cells.lookup x=a7 c->c≠b)/\∀p∈X.pn++pins,p.1≠b):u6 X pins σ H' s':=by obtain⟨h',g',d',t',o'⟩:=s';have e:o'=s.os:=B;subst e;exact I.call (g':=g') (t':=t') (d':=d') u K S a
abbrev XK:=b9->Option d7->Hp->Prop
noncomputable abbrev St:=List<|Option V
abbrev VK:=V->Hp->Prop
abbrev TE:=St->Hp->VK->Prop
abbrev TT:=St->Hp->(Bool->Hp->Prop)->Prop
abbrev TA:=St->Hp->(List V->Hp->Prop)->Prop
structure Ends where
 nx:St->Hp->Prop
 rt:VK
 bk:St->Hp->Prop:=λ_ _=>False
 ct:St->Hp->Prop:=λ_ _=>False
abbrev TS:=Ends->St->Hp->Prop
inductive EP(X:Cx)(pins:List (d7×d8))(σ:St)(Q:VK)(u:b9)(s':g8):Prop
 |mk (v:_) (H':_) (f0:u6 X pins σ H' s') (f1:aQ v u) (f2:Q v H')
inductive TP(X:Cx)(pins:List (d7×d8))(σ:St)(Q:Bool->Hp->Prop)(b:Bool)(s':g8):Prop
 |mk (H':_) (f0:u6 X pins σ H' s') (f1:Q b H')
inductive AP(X:Cx)(pins:List (d7×d8))(σ:St)(Q:List V->Hp->Prop)(us:List b9)(s':g8):Prop
 |mk (vs:_) (H':_) (f0:u6 X pins σ H' s') (f1:ax vs us) (f2:Q vs H')
def SP(X:Cx)(pins:List (d7×d8))(D:Ends)(f:Flow)(s':g8):Prop:=match f with
 |.next=>∃a H',u6 X pins a H' s'/\D.nx a H'
 |.brk=>∃a H',u6 X pins a H' s'/\D.bk a H'
 |.cont=>∃a H',u6 X pins a H' s'/\D.ct a H'
 |.ret u=>∃v a H',u6 X pins a H' s'/\aQ v u/\D.rt v H'
def PE(X:Cx)(e:i9)(t:TE):Prop:=∀(p:List (d7×d8)) (s:g8) (σ:St) (H:Hp) (Q:VK),u6 X p σ H s->t σ H Q->i7 (j2 X.prog X.w) X.A (eval e X.env) (EP X p σ Q) X.xe s
def PT(X:Cx)(e:i9)(t:TT):Prop:=∀(p:List (d7×d8)) (s:g8) (σ:St) (H:Hp) (Q:Bool->Hp->Prop),u6 X p σ H s->t σ H Q->i7 (j2 X.prog X.w) X.A (isTrue e X.env<|eval e X.env) (TP X p σ Q) X.xe s
def PW(X:Cx)(e:i9)(t:TT):Prop:=∀(a:Sem b9) (p:List (d7×d8)) (s:g8) (σ:St) (H:Hp) (Q:Bool->Hp->Prop),u6 X p σ H s->t σ H Q->i7 (j2 X.prog X.w) X.A (isTrue e X.env a) (TP X p σ Q) X.xe s
theorem PW.pt(h:PW X e t):PT X e t:=h _
def PA(X:Cx)(es:List i9)(t:TA):Prop:=∀(a:Pos) (p:List (d7×d8)) (s:g8) (σ:St) (H:Hp) (Q:List V->Hp->Prop),u6 X p σ H s->t σ H Q->i7 (j2 X.prog X.w) X.A (spliced<|j5 a<|j6 es X.env) (AP X p σ Q) X.xe s
def PS(X:Cx)(st:j7)(t:TS):Prop:=∀(p:List (d7×d8)) (s:g8) (σ:St) (H:Hp) (D:Ends),u6 X p σ H s->t D σ H->i7 (j2 X.prog X.w) X.A (exec st X.env) (SP X p D) X.xe s
def L7(X:Cx)(st:List j7)(t:TS):Prop:=∀(p:List (d7×d8)) (s:g8) (σ:St) (H:Hp) (D:Ends),u6 X p σ H s->t D σ H->i7 (j2 X.prog X.w) X.A (execs st X.env) (SP X p D) X.xe s
theorem z6{α:Type}{t:Sem α}{Q Q':α->g8->Prop}{M:Model}{A:f9}{E:b9->g8->Prop}{s:g8}(h:i7 M A t Q E s)(b:∀a s,Q a s->Q' a s):i7 M A t Q' E s:=L6 h b λ_ _ x=>x
section
variable{X:Cx}
def tVar(i:Nat):TE:=λσ H Q=>∃v,σ[i]?=a7 (a7 v)/\Q v H
def tC(v:V):TE:=λ_ H Q=>Q v H
theorem zW(g:X.N[i]?=a7 x)(t:OK X.env.scope x)(b:(x==("__debug__":c9))=b7:=by decide)(d:(x==("__classdict__":c9))=b7:=by decide):PE X (.Name x pos) (tVar i):=by
 intro p s σ H Q I h;obtain⟨v,e,h⟩:=h;obtain⟨m,q,j⟩:=I.loc;obtain⟨u,r,l⟩:=j i x v g e t;have n:EP X p σ Q u s:=⟨v,H,I,r,h⟩
 rcases l with⟨k,o⟩|⟨k,c,f,a⟩
 exact wpAny_Name (wpAny_loadName_local I.ok.kind k q o n) b;rcases k with k|k;exact wpAny_Name (wpAny_loadName_cell I.ok.kind k f a n) b;exact wpAny_Name (wpAny_loadName_free I.ok.kind k f a n d) b
theorem JV{i j pos}:PE X (.Constant (.int i) j pos) (tC<|.int i):=λ_ _ _ H _ I h=>wpAny_Constant_int ⟨.int i,H,I.tok _,⟨_,rfl⟩,h⟩
theorem JX{b j pos}:PE X (.Constant (.bool b) j pos) (tC<|.bl b):=λ_ _ _ H _ I h=>Constant_bool ⟨.bl b,H,I,rfl,h⟩
theorem JR{j pos}:PE X (.Constant .none j pos) (tC .non):=λ_ _ _ H _ I h=>Constant_none ⟨.non,H,I,rfl,h⟩
theorem JO{x j pos}:PE X (.Constant (.str x) j pos) (tC<|.str x):=λ_ _ _ H _ I h=>Calls.Constant_str ⟨.str x,H,I.tok _,⟨_,rfl⟩,h⟩
def Gl(X:Cx)(x:c9):Prop:=X.env.kindOf x=a7 .globalImplicit
theorem AO(I:u6 X pins σ H s)(S:Gl X x)(m:X.mg x=a7 u)(h:Q u s)(d:(x==("__debug__":c9))=b7:=by decide):i7 (j2 X.prog X.w) X.A (eval (.Name x pos) X.env) Q E s:=Calls.Name_function_global I.ok.kind S (Calls.loadGlobal_global (by rw[I.ok.glob];exact I.mod.glob.keeps I.bk) m h) d
theorem fv(I:u6 X pins σ H s)(S:Gl X x)(m:X.mg x=a8)(c:f8 x=a7 u)(h:Q u s)(f:x≠"__name__":=by decide) (d:(x==("__debug__":c9))=b7:=by decide):i7 (j2 X.prog X.w) X.A (eval (.Name x pos) X.env) Q E s:=by obtain⟨mb,h1,h2⟩:=I.mod.blt;exact Calls.Name_function_global I.ok.kind S (Calls.loadGlobal_builtin (by rw[I.ok.glob];exact I.mod.glob.keeps I.bk) m (by rw[I.ok.blt];exact h1.keeps I.bk) ((h2 x f).trans c) h) d
theorem ua(S:Gl X x)(m:X.mg x=a7 u)(r:aQ v u)(d:(x==("__debug__":c9))=b7:=by decide):PE X (.Name x pos) (tC v):=λ_ _ _ H _ I h=>AO I S m ⟨v,H,I,r,h⟩ d
theorem Gi(S:Gl X x)(m:X.mg x=a8)(c:f8 x=a7 u)(r:aQ v u)(f:x≠"__name__":=by decide)(d:(x==("__debug__":c9))=b7:=by decide):PE X (.Name x pos) (tC v):=λ_ _ _ H _ I h=>fv I S m c ⟨v,H,I,r,h⟩ f d
variable{a b:i9}{ta tb:TE}{pos:Pos}
theorem aQ.none_iff(r:aQ x v):(v==K4)=decide (x=.non):=by
 cases x with
 |non=>cases r;rfl
 |bl _=>cases r;rfl
 |int _=>obtain⟨t,rfl⟩:=r;rfl
 |str _=>obtain⟨t,rfl⟩:=r;rfl
 |byt _=>obtain⟨t,rfl⟩:=r;rfl
 |flt _=>obtain⟨t,rfl⟩:=r;rfl
 |ref _=>cases r;rfl
 |ty _=>cases r;rfl
def tB(t:TE):TT:=λσ H Q=>t σ H λx a=>∃c,x=.bl c/\Q c a
theorem JE(h:PE X e t)(i:∀whole,isTrue e X.env whole=(do let v <-whole;standAt e.pos;j8 [v] (truthy v)):=by intro _;rfl):PT X e (tB t):=by intro p s σ H Q I w;refine isTrue_plain (z6 (h p s σ H _ I w) ?_)<|i _;rintro v f ⟨x,a,b,r,c⟩;obtain⟨d,rfl,q⟩:=c;cases r;exact Oj ⟨a,b,q⟩
variable{tA tB':TT}{aX:List i9}
def tAnd(t u:TT):TT:=λσ H Q=>t σ H λc a=>if c=a9 then u σ a Q else Q b7 a
def tOr(t u:TT):TT:=λσ H Q=>t σ H λc a=>if c=a9 then Q a9 a else u σ a Q
def tNot(t:TT):TT:=λσ H Q=>t σ H λc a=>Q (!c) a
theorem FR(f:PT X a tA):PW X (.BoolOp .And [a] pos) tA:=by
 intro w p s σ H Q I h;refine isTrue_and<|z6 (f p s σ H Q I h) λc b e=>?_;cases c with
 |true=>exact isTrue_and_nil e
 |false=>exact e
theorem JC(f:PT X a tA):PW X (.BoolOp .Or [a] pos) tA:=by
 intro w p s σ H Q I h;refine isTrue_or<|z6 (f p s σ H Q I h) λc b e=>?_;cases c with
 |false=>exact isTrue_or_nil e
 |true=>exact e
theorem JD(f:PT X a tA)(g:PW X (.BoolOp .And (b::aX) pos) tB'):PW X (.BoolOp .And (a::b::aX) pos) (tAnd tA tB'):=by
 intro w p s σ H Q I h;refine isTrue_and<|z6 (f p s σ H _ I h) ?_;rintro c i ⟨d,e,q⟩;cases c with
 |true=>exact g w p i σ d Q e q
 |false=>exact⟨d,e,q⟩
theorem pw_or(f:PT X a tA)(g:PW X (.BoolOp .Or (b::aX) pos) tB'):PW X (.BoolOp .Or (a::b::aX) pos) (tOr tA tB'):=by
 intro w p s σ H Q I h;refine isTrue_or<|z6 (f p s σ H _ I h) ?_;rintro c i ⟨d,e,q⟩;cases c with
 |true=>exact⟨d,e,q⟩
 |false=>exact g w p i σ d Q e q
theorem JF(f:PT X a tA):PT X (.UnaryOp .Not a pos) (tNot tA):=by intro p s σ H Q I h;refine isTrue_not<|z6 (f p s σ H (λc b=>Q (!c) b) I h) ?_;rintro c e ⟨b,d,q⟩;exact⟨b,d,q⟩
def tAndV(t b:TE):TE:=λσ H Q=>t σ H λx a=>∃c,x=.bl c/\if c=a9 then b σ a Q else Q (.bl b7) a
def tOrV(t b:TE):TE:=λσ H Q=>t σ H λx a=>∃c,x=.bl c/\if c=a9 then Q (.bl a9) a else b σ a Q
def tNotV(t:TE):TE:=λσ H Q=>t σ H λx a=>∃c,x=.bl c/\Q (.bl<|!c) a
theorem JP{op}(h:PE X a t):PE X (.BoolOp op [a] pos) t:=λp s σ H Q I w=>BoolOp_one<|h p s σ H Q I w
theorem JY(f:PE X a ta)(g:PE X (.BoolOp .And (b::aX) pos) tb):PE X (.BoolOp .And (a::b::aX) pos) (tAndV ta tb):=by
 intro p s σ H Q I h;refine BoolOp_and<|z6 (f p s σ H _ I h) ?_;rintro v i ⟨x,d,e,r,q⟩;obtain⟨c,rfl,q⟩:=q;cases r;refine Oj ?_;cases c with
 |true=>exact g p i σ d Q e q
 |false=>exact⟨.bl b7,d,e,rfl,q⟩
theorem pe_or(f:PE X a ta)(g:PE X (.BoolOp .Or (b::aX) pos) tb):PE X (.BoolOp .Or (a::b::aX) pos) (tOrV ta tb):=by
 intro p s σ H Q I h;refine BoolOp_or<|z6 (f p s σ H _ I h) ?_;rintro v i ⟨x,d,e,r,q⟩;obtain⟨c,rfl,q⟩:=q;cases r;refine Oj ?_;cases c with
 |false=>exact g p i σ d Q e q
 |true=>exact⟨.bl a9,d,e,rfl,q⟩
theorem JQ(f:PE X a ta):PE X (.UnaryOp .Not a pos) (tNotV ta):=by intro p s σ H Q I h;refine UnaryOp_<|z6 (f p s σ H _ I h) ?_;rintro v e ⟨x,b,d,r,q⟩;obtain⟨c,rfl,q⟩:=q;cases r;exact not_of<|Oj ⟨.bl<|!c,b,d,rfl,q⟩
end
def J1(K:v9)(H:Hp)(a:d7)(xs:List V):Prop:=Rd H a (.lst xs) \/∃(o:d8) (its:Array b9) (n:Nat),K.lookup a=a7 o/\o.cls=.type "list"/\o.dict=a8/\o.data=.seq its n/\its.size<=sizeLine/\ax xs its.toList
def E2(K:v9)(H:Hp)(a:d7)(xs:List V):Prop:=Rd H a (.tup xs) \/∃(o:d8) (its:Array b9) (n:Nat),K.lookup a=a7 o/\o.cls=.type "tuple"/\o.dict=a8/\o.data=.seq its n/\its.size<=sizeLine/\ax xs its.toList
noncomputable def absV:b9->Option V
 |.none=>a7 .non
 |.bool b=>a7<|.bl b
 |.int i _=>a7<|.int i
 |.str x _=>a7<|.str x
 |.bytes b _=>a7<|.byt b
 |.float b _=>a7<|.flt b
 |.ref a=>a7<|.ref a
 |.type n=>a7<|.ty n
 |_=>a8
theorem aQ.abs(r:aQ x u):absV u=a7 x:=by
 cases x with
 |non=>cases r;rfl
 |bl _=>cases r;rfl
 |int _=>obtain⟨t,rfl⟩:=r;rfl
 |str _=>obtain⟨t,rfl⟩:=r;rfl
 |byt _=>obtain⟨t,rfl⟩:=r;rfl
 |flt _=>obtain⟨t,rfl⟩:=r;rfl
 |ref _=>cases r;rfl
 |ty _=>cases r;rfl
theorem aQ.inj(r:aQ x u)(q:aQ y u):x=y:=F3<|r.abs.symm.trans q.abs
theorem ax.inj(h:ax xs us)(h':ax ys us):xs=ys:=by
 induction h generalizing ys with
 |nil=>cases h';rfl
 |cons r t i=>cases h' with
  |cons r' t'=>rw[r.inj r',i t']
theorem E2.of{K:v9}(h:H a=a7 (.tup xs)):E2 K H a xs:=.inl<|.inl h
theorem u6.list(I:u6 X pins σ H s)(h:J1 X.K H a xs):∃its:List b9,ax xs its/\PlainL s.heap a its.toArray/\xs.length<=sizeLine:=by
 rcases h with h|⟨o,its,n,k,f,d,hs,b,r⟩
 obtain⟨z,its,n,r,e⟩:=h.ok I.hok;exact⟨its,r,⟨_,n,e,rfl,rfl,rfl⟩,z⟩;refine⟨its.toList,r,⟨o,n,I.kIn a o k,f,d,by simpa using hs⟩,?_⟩;have e:=r.length;simp only[G3]at e;lia
theorem u6.tuple(I:u6 X pins σ H s)(h:E2 X.K H a xs):∃its:List b9,ax xs its/\IsTup s.heap a its.toArray/\xs.length<=sizeLine:=by
 rcases h with h|⟨o,its,n,k,f,_,hs,b,r⟩
 obtain⟨z,its,r,p⟩:=h.ok I.hok;exact⟨its,r,p.tup,z⟩;refine⟨its.toList,r,⟨o,I.kIn a o k,f,n,by simpa using hs⟩,?_⟩;have e:=r.length;simp only[G3]at e;lia
theorem u6.list_inj(I:u6 X pins σ H s)(h:J1 X.K H a xs)(h':J1 X.K H a ys):xs=ys:=by
 obtain⟨its,r,⟨o,n,e,_,_,d⟩,_⟩:=I.list h;obtain⟨i,r',⟨o',f,c,_,_,b⟩,_⟩:=I.list h';rw[e]at c;cases c;rw[d]at b;injection b with d1 _;have:its=i:=by simpa using t7 Array.toList d1
 subst this;exact r.inj r'
theorem u6.tuple_inj(I:u6 X pins σ H s)(h:E2 X.K H a xs)(h':E2 X.K H a ys):xs=ys:=by
 obtain⟨its,r,⟨o,e,_,n,d⟩,_⟩:=I.tuple h;obtain⟨i,r',⟨o',c,_,f,b⟩,_⟩:=I.tuple h';rw[e]at c;cases c;rw[d]at b;injection b with d1 _;have:its=i:=by simpa using t7 Array.toList d1
 subst this;exact r.inj r'
noncomputable abbrev Cx.wish(X:Cx)(E:b9->g8->Prop):Cx:={ X with xe:=E }
noncomputable abbrev Cx.nox(X:Cx):Cx:=X.wish λ_ _=>False
theorem Cx.Ok.wish{X:Cx}(ok:X.Ok)(E:b9->g8->Prop):(X.wish E).Ok:=⟨ok.mod,ok.kind,ok.glob,ok.blt,ok.above,ok.inj,ok.has,ok.cab,ok.hd,ok.frames,ok.stk,ok.exf,ok.bs,ok.bsz,ok.noex,ok.exfs,ok.funs,ok.frf⟩
theorem Cx.Ok.unwish{X:Cx}{E:b9->g8->Prop}(ok:(X.wish E).Ok):X.Ok:=⟨ok.mod,ok.kind,ok.glob,ok.blt,ok.above,ok.inj,ok.has,ok.cab,ok.hd,ok.frames,ok.stk,ok.exf,ok.bs,ok.bsz,ok.noex,ok.exfs,ok.funs,ok.frf⟩
theorem u6.wish(I:u6 X pins σ H s)(E:b9->g8->Prop):u6 (X.wish E) pins σ H s:=⟨I.ok.wish E,I.os,I.bare,I.base,I.loc,I.cell,I.free,I.freeC,I.pin,I.hok,I.len⟩
theorem u6.unwish(I:u6 (X.wish E) pins σ H s):u6 X pins σ H s:=⟨I.ok.unwish,I.os,I.bare,I.base,I.loc,I.cell,I.free,I.freeC,I.pin,I.hok,I.len⟩
theorem SP.unwish(h:SP (X.wish E) pins D f s'):SP X pins D f s':=by
 cases f with
 |next=>obtain⟨a,H',I,q⟩:=h;exact⟨a,H',I.unwish,q⟩
 |brk=>obtain⟨a,H',I,q⟩:=h;exact⟨a,H',I.unwish,q⟩
 |cont=>obtain⟨a,H',I,q⟩:=h;exact⟨a,H',I.unwish,q⟩
 |ret u=>obtain⟨v,a,H',I,r,q⟩:=h;exact⟨v,a,H',I.unwish,r,q⟩
theorem L7.nox{st:List j7}{t:TS}(h:L7 X.nox st t):L7 X st t:=λp s σ H D I w =>
 L6 (h p s σ H D (I.wish _) w) (λ_ _ q=>q.unwish) λ_ _ z=>NV z
def tNext:TS:=λD σ H=>D.nx σ H
def tSeq(t u:TS):TS:=λD σ H=>t { D with nx:=u D } σ H
theorem FX:L7 X [] tNext:=λ_ _ σ H _ I h=>wpAny_execs_nil ⟨σ,H,I,h⟩
theorem CL{X:Cx}{st:j7}{aX:List j7}{t u:TS}(h1:PS X st t)(h2:L7 X aX u):L7 X (st::aX) (tSeq t u):=by
 intro p s σ H D I h;refine wpAny_execs_cons<|z6 (h1 p s σ H { D with nx:=u D } I h) λf c q=>?_;cases f with
 |next=>obtain⟨a,H',b,q⟩:=q;exact h2 p c a H' D b q
 |ret v=>exact q
 |brk=>exact q
 |cont=>exact q
theorem FW{X:Cx}{st:j7}{t:TS}(h1:PS X st t):L7 X [st] t:=by
 intro p s σ H D I h;refine wpAny_execs_cons<|z6 (h1 p s σ H D I h) λf a q=>?_;cases f with
 |next=>exact wpAny_execs_nil q
 |ret v=>exact q
 |brk=>exact q
 |cont=>exact q
theorem u6.quiet(I:u6 X pins σ H s):interactive X.env=b7:=by simp[interactive,I.ok.kind]
def tDrop(te:TE):TS:=λD σ H=>te σ H λ_ a=>D.nx σ a
theorem FY(i:PE X e te)(hs:j9 e a8 pos.line X.env=pure b7:=by rfl):PS X (.Expr e pos) (tDrop te):=by intro p s σ H D I h;exact wpAny_Expr_any (z6 (i p s σ H _ I h) λv f ⟨x,a,b,r,c⟩=>⟨σ,a,b,c⟩) I.quiet hs
def tRet(te:TE):TS:=λD σ H=>te σ H D.rt
theorem JH(i:PE X e te):PS X (.Return (a7 e) pos) (tRet te):=by intro p s σ H D I h;refine wpAny_Return_some<|z6 (i p s σ H _ I h) ?_;rintro v f ⟨x,a,b,r,c⟩;exact⟨x,σ,a,b,r,c⟩
def tIfS(c:TT)(t u:TS):TS:=λD σ H=>c σ H λb a=>if b=a9 then t D σ a else u D σ a
theorem ps_if(k:PT X c tc)(i:L7 X a t)(j:L7 X b u):PS X (.If c a b pos) (tIfS tc t u):=by
 intro p s σ H D I h;refine wpAny_If<|z6 (k p s σ H _ I h) ?_;rintro d g ⟨e,f,q⟩;cases d with
 |true=>exact i p g σ e D f q
 |false=>exact j p g σ e D f q
abbrev TG:=V->St->Hp->(St->Hp->Prop)->Prop
abbrev PM:=List V->St->Hp->(St->Hp->Prop)->Prop
def PG(X:Cx)(a:i9)(t:TG):Prop:=∀(p:List (d7×d8)) (s:g8) (σ:St) (H:Hp) (v:V) (u:b9) (Q:St->Hp->Prop),u6 X p σ H s->aQ v u->t v σ H Q ->i7 (j2 X.prog X.w) X.A (k6 a X.env u) (λ_ s'=>∃b H',u6 X p b H' s'/\Q b H') X.xe s
def PQ(X:Cx)(b:List i9)(t:PM):Prop:=∀(p:List (d7×d8)) (s:g8) (σ:St) (H:Hp) (vs:List V) (us:List b9) (Q:St->Hp->Prop),u6 X p σ H s->ax vs us->t vs σ H Q ->i7 (j2 X.prog X.w) X.A (assignInOrder ((k7 b X.env).map (·.2)) us) (λ_ s'=>∃a H',u6 X p a H' s'/\Q a H') X.xe s
abbrev TSet:=V->V->V->Hp->(Hp->Prop)->Prop
def PSet(X:Cx)(t:TSet):Prop:=∀(p:List (d7×d8)) (s:g8) (σ:St) (H:Hp) (o i v:V) (b a u:b9) (Q:Hp->Prop),u6 X p σ H s->aQ o b->aQ i a->aQ v u->t o i v H Q ->i7 (j2 X.prog X.w) X.A (setItem b a u) (λ_ s'=>∃H',u6 X p σ H' s'/\Q H') X.xe s
def LB(i:Nat):TG:=λv σ H Q=>Q (σ.set i<|a7 v) H
theorem Ge(b:X.N.Nodup)(hi:X.N[i]?=a7 x)(c:Os X.env.scope x)(f:X.fn x=a9\/X.env.scope.names.lookup x=a7 .local:=by first|exact .inl rfl|exact .inr rfl|assumption):PG X (.Name x pos) (LB i):=by intro p s σ H v u Q I r h;exact wpAny_assign_Name<|wa I b hi c r (λs' a=>⟨_,H,a,h⟩) f
def gNil:PM:=λvs σ H Q=>vs=[]/\Q σ H
def gCons(t:TG)(u:PM):PM:=λvs σ H Q=>∃v r,vs=v::r/\t v σ H λa H'=>u r a H' Q
theorem Gd:PQ X [] gNil:=by intro p s σ H vs us Q I r h;obtain⟨e,h⟩:=h;subst e;cases r;exact assignInOrder_nil ⟨σ,H,I,h⟩
theorem CP(h1:PG X e t)(h2:PQ X es u)(hs:(k7 (e::es) X.env).map (·.2)=k6 e X.env::(k7 es X.env).map (·.2):=by rfl):PQ X (e::es) (gCons t u):=by
 intro p s σ H vs us Q I r h;obtain⟨v,i,d,h⟩:=h;subst d;cases r with
 |cons r f=>rw[hs];refine assignInOrder_cons<|z6 (h1 p s σ H _ _ _ I r h) ?_;rintro _ g ⟨a,b,c,q⟩;exact h2 p g a b _ _ Q c f q
def gTup(K:v9)(n:Nat)(t:PM):TG:=λv σ H Q=>∃a xs,v=.ref a/\E2 K H a xs/\xs.length=n/\t xs σ H Q
theorem JL(i:X.calm=a9)(h:PQ X es t)(j:(k7 es X.env).length=n:=by rfl) (c:(k7 es X.env).findIdx? (·.1)=a8:=by rfl):PG X (.Tuple es k pos) (gTup X.K n t):=by intro p s σ H v u Q I r w;obtain⟨a,xs,g,q,l,w⟩:=w;subst g;cases r;obtain⟨its,d,D,z⟩:=I.tuple q;refine assign_Tuple_tuple (I.ok.hd i) D (by simp[j,<-l,d.length]) c λh' x=>?_;have f:u6 X p σ H { s with heap:=h' }:=I.kept (t':=s.toks) λb o e=>x b o (D6<|C2 e) e;exact h p _ σ H xs _ Q f (by simpa using d) w
def gSub(e d:TE)(t:TSet):TG:=λv σ H Q=>e σ H λo a=>d σ a λi b=>t o i v b λc=>Q σ c
theorem JM(B:PE X o to)(hi:PE X i ti)(hs:PSet X t)(g:∀v,k6 (.Subscript o i pos) X.env v=(do
   let ov <-j8 [v] (eval o X.env)
   let iv <-j8 [v,ov] (eval i X.env)
   standAt pos
   j8 [v,ov,iv] (setItem ov iv v)
   release [v,ov,iv] []):=by intro _;rfl):PG X (.Subscript o i pos) (gSub to ti t):=by intro p s σ H v u Q I r h;rw[g];refine t9<|K8<|z6 (B p s σ H _ I h) ?_;rintro ov n ⟨x,a,d,l,q⟩;refine t9<|K8<|z6 (hi p n σ a _ d q) ?_;rintro iv w ⟨y,b,e,m,j⟩;refine t9<|wpAny_standAt<|t9<|K8<|z6 (hs p w σ b x y v ov iv u _ e l m r j) ?_;rintro _ z ⟨c,f,k⟩;exact wpAny_release ⟨σ,c,f,k⟩
def tAsg(te:TE)(g:TG):TS:=λD σ H=>te σ H λx a=>g x σ a D.nx
theorem JJ(i:PE X e te)(S:PG X tg g)(hs:swapsWithSole [tg] e pos.line X.env=pure b7:=by rfl)(w:swappedStores [tg] e X.env=pure a8:=by rfl)(h1:(k7 [tg] X.env).map (·.2)=[k6 tg X.env]:=by rfl):PS X (.Assign [tg] e pos) (tAsg te g):=by intro p s σ H D I h;refine wpAny_Assign_stores (z6 (i p s σ H _ I h) ?_) hs w;rintro v f ⟨x,a,b,r,c⟩;rw[h1];exact z6 (S p f σ a x v _ b r c) λ_ d q=>q
theorem JG(d:X.N.Nodup)(hi:X.N[i]?=a7 x)(j:Os X.env.scope x)(f:PE X e te)(hs:j9 e (a7<|.Name x pos') pos.line X.env=pure b7:=by rfl)(g:X.fn x=a9\/X.env.scope.names.lookup x=a7 .local:=by first|exact .inl rfl|exact .inr rfl|assumption):PS X (.Assign [.Name x pos'] e pos) (tAsg te<|LB i):=by intro p s σ H D I h;refine wpAny_Assign_Name (z6 (f p s σ H _ I h) ?_) hs;rintro v k ⟨y,a,b,r,q⟩;exact wa b d hi j r (λw c=>⟨_,a,c,q⟩) g
structure It where
 go:Nat->Hp->Prop
 yld:Nat->Hp->V->Hp->Prop
 stop:Nat->Hp->Prop
def sZ(X:Cx)(pins:List (d7×d8))(H:Hp)(b:d7):Prop:=H b=a8/\b≠X.env.locals/\b∉X.fs/\(b∈X.ex\/X.s₀.heap.objs.size<=b)/\(∀x c,X.env.cells.lookup x=a7 c->c≠b)/\∀p∈X.pn++pins,p.1≠b
theorem u6.fpOk(I:u6 X pins σ H s)(d:s.heap.objs.size<=b)(f:H' b=a8):sZ X pins H' b:=by refine⟨f,Nat.ne_of_gt<|K6 I.lt d,I.nofs d,.inr<|MF I.sz d,λx c e z=>?_,λp h z=>?_⟩;obtain⟨v,q⟩:=I.cell x c e;exact r9 (K6 q.lt<|by rw[z];exact d)<|K9 _;exact r9 (K6 (C2 (I.pin p h).1)<|by rw[z];exact d)<|K9 _
structure Turn(P:d6)(w:d5)(K:v9)(tg:i9)(J:It)(fp:List d7)(it:d7)(tn:Nat->d9->Prop):Prop where
 mem:it∈fp
 obj:∀i h,tn i h->∀b∈fp,∃o,h.get? b=a7 o/\∀v,o.data≠.cell v
 keep:∀i h h',tn i h->(∀b∈fp,∀o,h.get? b=a7 o->h'.get? b=a7 o)->tn i h'
 item:∀(X:Cx),X.prog=P->X.w=w->X.K=K->X.calm=a9->∀(i:Nat) (pins:List (d7×d8)) (s:g8) (σ:St) (H:Hp) (E:b9->g8->Prop),u6 X pins σ H s->(∀b∈fp,sZ X pins H b)->tn i s.heap->J.go i H ->i7 (j2 P w) X.A (k8<|.ref it) (λr s1=>∃u,r=a7 u /\ i7 (j2 P w) X.A (k9 tg (.ref it) u) (λ_ s2=>∃x H',u6 X pins σ H' s2/\aQ x u/\J.yld i H x H'/\tn (i+1) s2.heap/\∀b∈fp,H' b=a8) E s1) E s
 done:∀(X:Cx),X.prog=P->X.w=w->X.K=K->X.calm=a9->∀(i:Nat) (pins:List (d7×d8)) (s:g8) (σ:St) (H:Hp) (E:b9->g8->Prop),u6 X pins σ H s->(∀b∈fp,sZ X pins H b)->tn i s.heap->J.stop i H ->i7 (j2 P w) X.A (k8<|.ref it) (λr s1=>r=a8/\u6 X pins σ H s1) E s
 self:∀(A:f9) (i:Nat) (s:g8) (Q:b9->g8->Prop) (E:b9->g8->Prop),tn i s.heap->Q (.ref it) s->i7 (j2 P w) A (l6<|.ref it) Q E s
abbrev TI:=St->Hp->(It->Hp->Prop)->Prop
inductive RB(X:Cx)(pins:List (d7×d8))(σ:St)(tg:i9)(R:It->Hp->Prop)(itv:b9)(s2:g8):Prop
 |mk (it:d7) (fp:List d7) (tn:Nat->d9->Prop) (J:It) (H':Hp) (f0:itv=.ref it) (f1:u6 X pins σ H' s2) (f2:Turn X.prog X.w X.K tg J fp it tn) (f3:tn 0 s2.heap) (f4:(∀b∈fp,sZ X pins H' b)) (f5:R J H')
def PI(X:Cx)(g r:i9)(wi:TI):Prop:=∀(p:List (d7×d8)) (s:g8) (σ:St) (H:Hp) (R:It->Hp->Prop),u6 X p σ H s->wi σ H R ->i7 (j2 X.prog X.w) X.A (eval r X.env) (λv f=>i7 (j2 X.prog X.w) X.A (l6 v) (RB X p σ g R) X.xe f) X.xe s
theorem Ee(B:s.heap.get? it=a7 o)(f:o.cls=.type n)(d:o.data=.fields vs)(a:["enumerate","zip","dict_itemiterator","dict_reverseitemiterator","odict_iterator","itertools.zip_longest","itertools.pairwise"].contains n=b7) (b:Q () s):i7 M A (k9 tg (.ref it) u) Q E s:=by
 unfold k9;cases tg<;>first
  |exact u9 b
  |(cases u<;>first
    |exact u9 b
    |(refine t9 (wpAny_load B ?_);rw[f,d];show i7 M A (if (["enumerate","zip","dict_itemiterator","dict_reverseitemiterator","odict_iterator","itertools.zip_longest","itertools.pairwise"].contains n&&vs[0]?==a7 (l7 _))=a9 then _ else _) Q E s;rw[q9 (by intro h;rw[a,J7]at h;cases h)];exact u9 b))
noncomputable def R3(K:v9)(a:d7):It:=⟨λi H=>∃xs x,J1 K H a xs/\xs[i]?=a7 x,λi H x H'=>H'=H/\∀xs,J1 K H a xs->xs[i]?=a7 x,λi H=>∃xs,J1 K H a xs/\xs.length<=i⟩
noncomputable def R1(K:v9)(a:d7):It:=⟨λi H=>∃xs x,E2 K H a xs/\xs[i]?=a7 x,λi H x H'=>H'=H/\∀xs,E2 K H a xs->xs[i]?=a7 x,λi H=>∃xs,E2 K H a xs/\xs.length<=i⟩
noncomputable def PU(lo:Int)(n:Nat):It:=⟨λi _=>i<n,λi H x H'=>H'=H/\x=.int (lo+i),λi _=>n<=i⟩
theorem yB{P:d6}{w:d5}{K:v9}{V:i9}(a it:d7):Turn P w K V (R3 K a) [it] it (λi h=>h.IsListIter it a i) where
 mem:=by simp
 obj:=λi h t b g=>by
  have e:b=it:=by simpa using g
  subst e;obtain⟨o,e,c,d⟩:=t;exact⟨o,e,λv z=>by rw[d]at z;cases z⟩
 keep:=λi h h' t k=>t.at λo e=>k it (by simp) o e
 item:=by intro X C D B J i f s σ H E I l t S;subst C D B;obtain⟨xs,x,q,F⟩:=S;obtain⟨its,G,p,R⟩:=I.list q;obtain⟨u,O,T⟩:=G.get F;obtain⟨m,n,N,r,y,A⟩:=l it (by simp);refine wpAny_pyNext_list_item t p.isList (x:=u) (by simpa using O) λh' j U=>?_;have L:u6 X f σ H { s with heap:=h' }:=I.turned (t':=s.toks) (λb o g e=>(U.2 b g).trans e) m n r y A;obtain⟨o,e,c,d⟩:=id j;exact⟨u,rfl,Ee (s:={ s with heap:=h' }) e c d (by decide) ⟨x,H,L,T,⟨rfl,λys Q=>by rw[I.list_inj Q q];exact F⟩,j,λb g=>(l b g).1⟩⟩
 done:=by intro X C D B J i f s σ H E I l t S;subst C D B;obtain⟨xs,q,F⟩:=S;obtain⟨its,G,p,R⟩:=I.list q;obtain⟨m,n,N,r,y,A⟩:=l it (by simp);have W:=G.length;exact wpAny_pyNext_list_end (I.ok.hd J) t p.isList (by simp;lia) λh' M=>⟨rfl,I.turned (t':=s.toks) (λb o g e=>M b o g e) m n r y A⟩
 self:=λ_ _ _ _ _ t h=>wpAny_pyIter_listiter t h
theorem xi{P:d6}{w:d5}{K:v9}{V:i9}(a it:d7):Turn P w K V (R1 K a) [it] it (λi h=>h.IsTupleIter it a i) where
 mem:=by simp
 obj:=λi h t b g=>by
  have e:b=it:=by simpa using g
  subst e;obtain⟨o,e,c,d⟩:=t;exact⟨o,e,λv z=>by rw[d]at z;cases z⟩
 keep:=λi h h' t k=>t.at λo e=>k it (by simp) o e
 item:=by intro X C D B J i f s σ H E I l t S;subst C D B;obtain⟨xs,x,q,F⟩:=S;obtain⟨its,G,p,R⟩:=I.tuple q;obtain⟨u,O,T⟩:=G.get F;obtain⟨m,n,N,r,y,A⟩:=l it (by simp);refine wpAny_pyNext_tuple_item t (show s.heap.IsTuple a its.toArray from p) (x:=u) (by simpa using O) λh' j U=>?_;have L:u6 X f σ H { s with heap:=h' }:=I.turned (t':=s.toks) (λb o g e=>(U.2 b g).trans e) m n r y A;obtain⟨o,e,c,d⟩:=id j;exact⟨u,rfl,Ee (s:={ s with heap:=h' }) e c d (by decide) ⟨x,H,L,T,⟨rfl,λys Q=>by rw[I.tuple_inj Q q];exact F⟩,j,λb g=>(l b g).1⟩⟩
 done:=by intro X C D B J i f s σ H E I l t S;subst C D B;obtain⟨xs,q,F⟩:=S;obtain⟨its,G,p,R⟩:=I.tuple q;obtain⟨m,n,N,r,y,A⟩:=l it (by simp);have W:=G.length;exact wpAny_pyNext_tuple_end (I.ok.hd J) t (show s.heap.IsTuple a its.toArray from p) (by simp;lia) λh' M=>⟨rfl,I.turned (t':=s.toks) (λb o g e=>M b o g e) m n r y A⟩
 self:=λ_ _ _ _ _ t h=>wpAny_pyIter_tupleiter t h
theorem xj{P:d6}{w:d5}{K:v9}{F:i9}(it:d7)(lo:Int)(n:Nat):Turn P w K F (PU lo n) [it] it (λi h=>IsRangeIter h it (lo+(i:Nat)*1) ((n:Int)-(i:Nat)) 1) where
 mem:=by simp
 obj:=λi h a b d=>by
  have e:b=it:=by simpa using d
  subst e;exact⟨_,a,λv z=>by have G:Data.fields _=Data.cell v:=z;cases G⟩
 keep:=λi h h' a k=>k it (by simp) _ a
 item:=by intro X C l B g i p s σ H E I f a S;subst C l B;obtain⟨m,c,N,r,y,A⟩:=f it (by simp);have W:=Walks.range (prog:=X.prog) (w:=X.w) (I.ok.hd g) it lo 1 n;refine W.item i s _ _ S a λv h' q x j D=>?_;obtain⟨t,rfl⟩:=x;have u:u6 X p σ H { s with heap:=h',toks:=q }:=I.turned (λb o d e=>D b o (by simpa using d) e) m c r y A;refine⟨_,rfl,Ee (s:={ s with heap:=h',toks:=q }) (n:="range_iterator") j rfl rfl (by decide) ⟨.int<|lo+i,H,u,⟨t,?_⟩,⟨rfl,rfl⟩,j,λb d=>(f b d).1⟩⟩;rw[Int.mul_one]
 done:=by intro X C l B g i p s σ H E I f a S;subst C l B;obtain⟨m,c,N,r,y,A⟩:=f it (by simp);exact wpAny_pyNext_range_end (I.ok.hd g) a (by have:n<=i:=S;lia) λh' M=>⟨rfl,I.turned (t':=s.toks) (λb o d e=>M b o d e) m c r y A⟩
 self:=λ_ _ _ _ _ a h=>wpAny_pyIter_rangeiter a h
theorem wf{pins:List (d7×d8)}{σ:St}{H:Hp}{s:g8}{R:It->Hp->Prop}{E:b9->g8->Prop}{lo hi:Int}{t u v:Tok}{tk:Nat}(I:u6 X pins σ H s)(h1:-(2 ^ 62)<=lo)(h2:lo<2 ^ 62)(h:-(2 ^ 62)<=hi)(d:hi<2 ^ 62)(q:R (PU lo (hi-lo).toNat) H):i7 (j2 X.prog X.w) X.A (l6<|.ref s.heap.objs.size) (RB X pins σ tg R) E { s with heap:=s.heap.push { cls:=.type "range",data:=.fields #[.int lo t,.int hi u,.int 1 v] },toks:=tk }:=by
 refine wpAny_pyIter_range (IsRange.new ..) (small_one h1 h2 h d) ?_;have a:u6 X pins σ H { s with heap:=s.heap.push { cls:=.type "range",data:=.fields #[.int lo t,.int hi u,.int 1 v] },toks:=tk }:=I.kept λb o e=>A9 _ e;refine⟨(s.heap.push { cls:=.type "range",data:=.fields #[.int lo t,.int hi u,.int 1 v] }).objs.size,[(s.heap.push { cls:=.type "range",data:=.fields #[.int lo t,.int hi u,.int 1 v] }).objs.size],_,_,H,rfl,a.kept (t':=tk) λb o e=>A9 _ e,xj _ lo (hi-lo).toNat,?_,λb f=>?_,q⟩;have c:lo+((0:Nat):Int)*1=lo:=by simp
 have l:(((hi-lo).toNat:Nat):Int)-((0:Nat):Int)=Builtin.Range.rangeSize lo hi 1:=by rw[rangeSize_one];split<;>lia
 show IsRangeIter _ _ (lo+((0:Nat):Int)*1) ((((hi-lo).toNat:Nat):Int)-((0:Nat):Int)) 1;rw[c,l];exact E1 _ rfl;have e:b=(s.heap.push { cls:=.type "range",data:=.fields #[.int lo t,.int hi u,.int 1 v] }).objs.size:=by simpa using f
 subst e;exact a.fpOk (z5 _)<|a.hok.fresh<|z5 _
def Lf(t:TA):TI:=λσ H R=>t σ H λvs a=>∃j:Int,vs=[.int j]/\-(2 ^ 62)<=j/\j<2 ^ 62/\R (PU 0 j.toNat) a
def iRng2(t:TA):TI:=λσ H R=>t σ H λvs a=>∃i j:Int,vs=[.int i,.int j]/\(-(2 ^ 62)<=i/\i<2 ^ 62/\-(2 ^ 62)<=j/\j<2 ^ 62)/\R (PU i (j-i).toNat) a
theorem zT{a:i9}{f:TA}{p c:Pos}(S:Gl X "range")(m:X.mg "range" = a8)(i:PA X [a] f)(hs:j6 [a] X.env=[(b7,eval a X.env)]:=by rfl):PI X tg (.Call (.Name "range" p) [a] [] c) (Lf f):=by
 intro b s σ H R I h;refine Call_<|fv I S m boot_range<|Qz (z6 (i c b s σ H _ I h) ?_) hs rfl;rintro us u ⟨vs,o,g,l,d⟩;obtain⟨j,e,d,k,q⟩:=d;subst e;cases l with
 |cons r n=>cases n;obtain⟨t,rfl⟩:=r;exact call_range_1<|wf g (by lia) (by lia) d k<|by simpa using q
theorem zS(S:Gl X "range")(m:X.mg "range" = a8)(l:PA X [a,b] ta)(hs:j6 [a,b] X.env=[(b7,eval a X.env),(b7,eval b X.env)]:=by rfl)(c:j6 [b] X.env=[(b7,eval b X.env)]:=by rfl):PI X tg (.Call (.Name "range" p) [a,b] [] pos) (iRng2 ta):=by
 intro d s σ H R I h;refine Call_ (fv I S m boot_range<|Qz (z6 (l pos d s σ H _ I h) ?_) (by rw[hs,c])<|by rw[c];rfl);rintro us x ⟨vs,w,k,v,f⟩;obtain⟨i,j,e,⟨f,n,o,u⟩,q⟩:=f;subst e;cases v with
 |cons r g =>
  cases g with
  |cons r' g=>cases g;obtain⟨t,rfl⟩:=r;obtain⟨t',rfl⟩:=r';exact call_range_2<|wf k f n o u q
def tFor(wi:TI)(g:TG)(t:TS):TS:=λD σ H=>wi σ H λJ d=>∃W:Nat->Nat->St->Hp->Prop,(∃m,W 0 m σ d)/\∀i m σ H,W i m σ H ->(J.stop i H/\D.nx σ H)\/(J.go i H/\∃N:St->Hp->Prop,(∀a H',N a H'->∃c,c < m/\W (i+1) c a H')/\∀x H',J.yld i H x H'->g x σ H' λb e=>t { D with nx:=N,ct:=N,bk:=D.nx } b e)
noncomputable def ip(fp:List d7)(h:d9):List (d7×d8):=fp.filterMap λb=>(h.get? b).map λo=>(b,o)
theorem fJ(d:b∈fp)(e:h.get? b=a7 o):(b,o)∈ip fp h:=List.mem_filterMap.mpr ⟨b,d,by rw[e];rfl⟩
theorem se(c:p∈ip fp h):p.1∈fp/\h.get? p.1=a7 p.2:=by
 obtain⟨b,d,e⟩:=List.mem_filterMap.mp c;cases q:h.get? b with
 |none=>rw[q]at e;cases e
 |some o=>rw[q]at e;have a:(b,o)=p:=F3 e;subst a;exact⟨d,q⟩
theorem u6.pinned(I:u6 X pins σ H s)(f:∀b∈fp,sZ X pins H b)(B:∀b∈fp,∃o,s.heap.get? b=a7 o/\∀v,o.data≠.cell v):u6 X (pins++ip fp s.heap) σ H s:=I.pins_of λp c=>(F6.mp c).elim (λz=>I.pin p<|MJ _ z) λz=>by obtain⟨h,e⟩:=se z;obtain⟨m,n,N,_⟩:=f p.1 h;obtain⟨o,a,d⟩:=B p.1 h;rw[e]at a;cases a;exact⟨e,m,n,N,d⟩
theorem u6.unpinned(I:u6 X (pins++pl) σ H s):u6 X pins σ H s:=I.pins_of λp h=>I.pin p<|MJ _<|Qv _ h
theorem JI(F:PassesOwn (j2 X.prog X.w) X.A X.env X.xe)(hc:X.calm=a9)(hi:PI X tg iter wi)(hg:PG X tg g)(l:L7 X body tb)(hs:∀x,l9 iter X.env x=pure x:=by intro _;rfl):PS X (.For tg iter body [] pos) (tFor wi g tb):=by
 intro p s σ H D I h;refine wpAny_For (z6 (hi p s σ H _ I h) λv s1 h1=>z6 h1 λab s2 h2=>?_) hs;obtain⟨it,C,tn,J,H2,e,I2,T,U,f2,W,⟨m0,w0⟩,M⟩:=h2;subst e
 -- what stays a9 of the iterator's objects through the loop
 have t:∀{H':Hp},(∀b∈C,H' b=a8)->∀b∈C,sZ X p H' b:=λhn b l=>⟨hn b l,(f2 b l).2⟩
 refine codeAny_forLoop_any (λn s'=>∃i q H',u6 X p q H' s'/\tn i s'.heap/\(∀b∈C,H' b=a8)/\W i n q H') ?_ m0 ⟨0,σ,H2,I2,U,λb l=>(f2 b l).1,w0⟩;rintro n s3 ⟨i,y,O,Z,K,E,w3⟩;rcases M i n y O w3 with⟨stop,qn⟩|⟨go,N,hN,L⟩
 refine Qd F<|z6 (T.done X rfl rfl rfl hc i p s3 y O X.xe Z (t E) K stop) ?_;rintro r s4 ⟨R,I4⟩;subst R;exact wpAny_execs_nil ⟨y,O,I4,qn⟩
 ·refine Qd F (z6 (T.item X rfl rfl rfl hc i p s3 y O X.xe Z (t E) K go) ?_)
  rintro r s4 ⟨u,R,h4⟩;subst R;refine Qd F<|z6 h4 ?_;rintro _ s5 ⟨x,Y,I5,r5,y5,B,Q⟩;have P:=I5.pinned (t Q)<|T.obj _ _ B;refine Qd F<|z6 (hg _ s5 y Y x u _ P r5<|L x Y y5) ?_;rintro _ s6 ⟨V,H6,I6,q6⟩;refine Qd F<|z6 (l _ s6 V H6 _ I6 q6) λf S z=>?_;have k:∀{a:St}{c:Hp},u6 X (p++ip C s5.heap) a c S->N a c->∃m,m<n/\∃i q H',u6 X p q H' S/\tn i S.heap/\(∀b∈C,H' b=a8)/\W i m q H':=λ{a c} j G=>by obtain⟨m',hm,w7⟩:=hN a c G;refine⟨m',hm,i+1,a,c,j.unpinned,T.keep _ _ _ B λb l o e=>(j.pin (b,o)<|MJ _<|MJ _<|fJ l e).1,λb l=>?_,w7⟩;obtain⟨o,e,d⟩:=T.obj _ _ B b l;exact(j.pin (b,o)<|MJ _<|MJ _<|fJ l e).2.1
  cases f with
  |next=>obtain⟨a,c,j,G⟩:=z;exact k j G
  |cont=>obtain⟨a,c,j,G⟩:=z;exact k j G
  |brk=>obtain⟨a,c,j,z⟩:=z;exact⟨a,c,j.unpinned,z⟩
  |ret v=>obtain⟨x7,a,c,j,r7,z⟩:=z;exact⟨x7,a,c,j.unpinned,r7,z⟩
abbrev R2:=V->V->Hp->VK->Prop
def E4(X:Cx)(f:b9->b9->Sem b9)(r:R2):Prop:=∀(p:List (d7×d8)) (s:g8) (σ:St) (H:Hp) (x y:V) (v u:b9) (Q:VK),u6 X p σ H s->aQ x v->aQ y u->r x y H Q ->i7 (j2 X.prog X.w) X.A (f v u) (EP X p σ Q) X.xe s
def QL(X:Cx)(f:b9->Sem b9)(r:V->Hp->VK->Prop):Prop:=∀(p:List (d7×d8)) (s:g8) (σ:St) (H:Hp) (x:V) (v:b9) (Q:VK),u6 X p σ H s->aQ x v->r x H Q ->i7 (j2 X.prog X.w) X.A (f v) (EP X p σ Q) X.xe s
def df(X:Cx)(f:b9)(r:List V->Hp->VK->Prop):Prop:=∀(p:List (d7×d8)) (s:g8) (σ:St) (H:Hp) (xs:List V) (us:List b9) (Q:VK),u6 X p σ H s->ax xs us->r xs H Q ->i7 (j2 X.prog X.w) X.A (call f us) (EP X p σ Q) X.xe s
def OI(r:R2)(t c:TE):TE:=λσ H Q=>t σ H λx a=>c σ a λy b=>r x y b Q
def tUn(r:V->Hp->VK->Prop)(t:TE):TE:=λσ H Q=>t σ H λx a=>r x a Q
def rI(C:Int->Int->Prop)(g:Int->Int->V):R2:=λx y H Q=>∃i j,x=.int i/\y=.int j/\C i j/\Q (g i j) H
def Op(g:Int->Int->V):R2:=λx y H Q=>∃i j,x=.int i/\y=.int j/\Q (g i j) H
def rU(g:Int->V):V->Hp->VK->Prop:=λx H Q=>∃i,x=.int i/\Q (g i) H
theorem binT(d:PE X a ta)(g:PE X b tb){pins:List (d7×d8)}{s:g8}{σ:St}{H:Hp}{R:V->V->Hp->Prop}(I:u6 X pins σ H s)(h:ta σ H λx H1=>tb σ H1 λy H2=>R x y H2) {Q:b9->g8->Prop}{f:b9->b9->Sem b9}(i:∀v u s2 x y H2,u6 X pins σ H2 s2->aQ x v->aQ y u->R x y H2->i7 (j2 X.prog X.w) X.A (f v u) Q X.xe s2):i7 (j2 X.prog X.w) X.A (eval a X.env) (λv s₁=>i7 (j2 X.prog X.w) X.A (eval b X.env) (λu s₂=>i7 (j2 X.prog X.w) X.A (f v u) Q X.xe s₂) X.xe s₁) X.xe s:=by refine z6 (d pins s σ H _ I h) ?_;rintro v k ⟨x,H1,c,r,q⟩;refine z6 (g pins k σ H1 _ c q) ?_;rintro u s2 ⟨y,H2,e,m,j⟩;exact i v u s2 x y H2 e r m j
theorem pe_op{op:Operator}{r:R2}(B:E4 X (m3 op) r)(f:PE X a ta)(d:PE X b tb):PE X (.BinOp a op b pos) (OI r ta tb):=by intro p s σ H Q I h;exact wpAny_BinOp<|binT f d I h λv u w x y c e g i q=>B p w σ c x y v u Q e g i q
theorem pe_un(B:QL X (unaryOp op) r)(f:PE X a ta):PE X (.UnaryOp op a pos) (tUn r ta):=by intro p s σ H Q I h;refine UnaryOp_<|z6 (f p s σ H _ I h) ?_;rintro v e ⟨x,b,c,d,q⟩;exact B p e σ b x v Q c d q
theorem QH{f:b9->b9->Sem b9}{C:Int->Int->Prop}{g:Int->Int->Int}(e:∀(i j:Int) (t u:Tok) (s:g8) (Q:b9->g8->Prop) (E:b9->g8->Prop),C i j->Q (.int (g i j) s.toks) { s with toks:=s.toks+1 }->i7 (j2 X.prog X.w) X.A (f (.int i t)<|.int j u) Q E s):E4 X f (rI C λi j=>.int<|g i j):=by intro p s σ H x y v u Q I r a h;obtain⟨i,j,rfl,rfl,c,q⟩:=h;obtain⟨t,rfl⟩:=r;obtain⟨t',rfl⟩:=a;exact e i j t t' s _ _ c ⟨.int<|g i j,H,I.tok _,⟨_,rfl⟩,q⟩
theorem opI0{f:b9->b9->Sem b9}{g:Int->Int->Int}(e:∀(i j:Int) (t u:Tok) (s:g8) (Q:b9->g8->Prop) (E:b9->g8->Prop),Q (.int (g i j) s.toks) { s with toks:=s.toks+1 }->i7 (j2 X.prog X.w) X.A (f (.int i t)<|.int j u) Q E s):E4 X f (Op λi j=>.int<|g i j):=by intro p s σ H x y v u Q I r a h;obtain⟨i,j,rfl,rfl,q⟩:=h;obtain⟨t,rfl⟩:=r;obtain⟨t',rfl⟩:=a;exact e i j t t' s _ _ ⟨.int<|g i j,H,I.tok _,⟨_,rfl⟩,q⟩
theorem opB0{f:b9->b9->Sem b9}{g:Int->Int->Bool}(e:∀(i j:Int) (t u:Tok) (s:g8) (Q:b9->g8->Prop) (E:b9->g8->Prop),Q (.bool<|g i j) s->i7 (j2 X.prog X.w) X.A (f (.int i t)<|.int j u) Q E s):E4 X f (Op λi j=>.bl<|g i j):=by intro p s σ H x y v u Q I r a h;obtain⟨i,j,rfl,rfl,q⟩:=h;obtain⟨t,rfl⟩:=r;obtain⟨t',rfl⟩:=a;exact e i j t t' s _ _ ⟨.bl<|g i j,H,I,rfl,q⟩
def MB(i j:Int):Prop:=0<=j/\j<=1000000/\i.natAbs<2 ^ 64
def CMul(i j:Int):Prop:=(-(2 ^ 64)<i/\i<2 ^ 64)\/(-(2 ^ 64)<j/\j<2 ^ 64)
theorem CMul.ok(h:CMul i j):IntMulOk i j:=by
 rcases h with⟨h1,h2⟩|⟨h1,h2⟩
 exact .of_left<|intBits_le_64 h1 h2;exact .of_right<|intBits_le_64 h1 h2
theorem Kh:E4 X (m3 .Add) (Op λi j=>.int<|i+j):=opI0 λ_ _ _ _ _ _ _ q=>add_int q
theorem Kc:E4 X (m3 .Sub) (Op λi j=>.int<|i-j):=opI0 λ_ _ _ _ _ _ _ q=>sub_int q
theorem Ke:E4 X (m3 .Mult) (rI CMul λi j=>.int<|i*j):=QH λ_ _ _ _ _ _ _ f q=>mul_int q f.ok
theorem Kf:E4 X (m3 .Mod) (rI (λ_ j=>0<j) λi j=>.int<|i % j):=QH λi j _ _ _ _ _ f q=>by have h1:(0:Int)<j:=f;exact mod_int' (by lia)<|by rw[Int.fmod_eq_emod_of_nonneg i<|by lia];exact q
theorem Kd:E4 X (m3 .Pow) (rI MB λi j=>.int<|i ^ j.toNat):=QH λ_ _ _ _ _ _ _ f q=>pow_int_small f.1 f.2.1 f.2.2 q
theorem unI{f:b9->Sem b9}{g:Int->Int}(e:∀(i:Int) (t:Tok) (s:g8) (Q:b9->g8->Prop) (E:b9->g8->Prop),Q (.int (g i) s.toks) { s with toks:=s.toks+1 }->i7 (j2 X.prog X.w) X.A (f<|.int i t) Q E s):QL X f (rU λi=>.int<|g i):=by intro p s σ H x v Q I r h;obtain⟨i,rfl,q⟩:=h;obtain⟨t,rfl⟩:=r;exact e i t s _ _ ⟨.int<|g i,H,I.tok _,⟨_,rfl⟩,q⟩
theorem IY:QL X (unaryOp .USub) (rU λi=>.int (-i)):=unI λ_ _ _ _ _ q=>neg_int q
theorem op_lt:E4 X (m5 .Lt) (Op λi j=>.bl<|decide<|i<j):=opB0 λ_ _ _ _ _ _ _ q=>lt_int q
theorem op_le:E4 X (m5 .LtE) (Op λi j=>.bl<|decide<|i<=j):=opB0 λ_ _ _ _ _ _ _ q=>le_int q
theorem op_gt:E4 X (m5 .Gt) (Op λi j=>.bl<|decide<|j<i):=opB0 λ_ _ _ _ _ _ _ q=>gt_int q
theorem op_ge:E4 X (m5 .GtE) (Op λi j=>.bl<|decide<|j<=i):=opB0 λ_ _ _ _ _ _ _ q=>ge_int q
theorem E4.or(h:E4 X f r)(h':E4 X f r'):E4 X f (λx y H Q=>r x y H Q\/r' x y H Q):=by intro p s σ H x y v u Q I g i q;rcases q with q|q;exact h p s σ H x y v u Q I g i q;exact h' p s σ H x y v u Q I g i q
theorem Gg(B:E4 X (m5 op) r)(f:PE X a ta)(d:PE X b tb)(m:m8 op b=b7):PE X (.Compare a [op] [b] pos) (OI r ta tb):=by intro p s σ H Q I h;exact wpAny_Compare1 (binT f d I h λv u w x y c e g i q=>B p w σ c x y v u Q e g i q) m
def FE(t:TE):TT:=λσ H Q=>t σ H λx H'=>∃k,x=.bl k/\Q k H'
theorem zQ(B:E4 X (m5 op) r)(m:PE X a ta)(n:PE X b tb)(o:m8 op b=b7):PT X (.Compare a [op] [b] pos) (FE<|OI r ta tb):=by
 intro p s σ H Q I h;refine wpAny_isTrue_Compare1 (z6 (m p s σ H _ I h) λv E ⟨x,d,i,A,q⟩=>z6 (n p E σ d _ i q) λu F ⟨y,f,j,C,t⟩ =>
  z6 (B p F σ f x y v u _ j A C t) λc G ⟨z,g,l,D,k,e,w⟩=>?_) o
 subst e;cases D;exact Oj ⟨g,l,w⟩
def zm(r r':R2)(t e f:TE):TE:=λσ H Q=>t σ H λx a=>e σ a λy b=>r x y b λz c=>∃k,z=.bl k /\(if k=a9 then f σ c λY d=>r' y Y d Q else Q (.bl b7) c)
theorem CS(E:E4 X (m5 op) r)(f:E4 X (m5 op') r')(A:PE X a ta)(B:PE X b tb)(C:PE X c tc)(D:lastMarks [op,op'] [b,c]=b7:=by with_unfolding_all rfl):PE X (.Compare a [op,op'] [b,c] pos) (zm r r' ta tb tc):=by
 intro p s σ H Q I h;refine Compare_chain (z6 (A p s σ H _ I h) λv N ⟨x,j,o,K,F⟩=>chain_link (z6 (B p N σ j _ o F) λu O ⟨y,l,t,m,G⟩ =>
  z6 (E p O σ l x y v u _ t K m G) λd P ⟨z,g,i,L,k,e,q⟩=>?_)) D
 subst e;cases L;refine Oj ?_;cases k with
 |false=>exact ite_ff ⟨.bl b7,g,i,rfl,q⟩
 |true=>exact ite_tt<|chain_last<|z6 (C p P σ g _ i q) λY R ⟨S,n,w,M,J⟩=>f p R σ n y S u Y Q w m M J
theorem CK(J:E4 X (m5 op) r)(f:E4 X (m5 op') r')(D:PE X a ta)(E:PE X b tb)(F:PE X c tc)(G:lastMarks [op,op'] [b,c]=b7:=by with_unfolding_all rfl):PT X (.Compare a [op,op'] [b,c] pos) (FE<|zm r r' ta tb tc):=by
 intro p s σ H Q I h;refine isTrue_chain (z6 (D p s σ H _ I h) λv U ⟨x,j,o,P,L⟩=>test_link (z6 (E p U σ j _ o L) λu V ⟨y,l,t,m,M⟩ =>
  z6 (J p V σ l x y v u _ t P m M) λd W ⟨z,g,i,R,k,e,q⟩=>?_)) G
 subst e;cases R;refine Oj ?_;cases k with
 |false=>obtain⟨k',B,K⟩:=q;cases B;exact ite_ff ⟨g,i,K⟩
 |true=>refine ite_tt<|test_last<|z6 (F p W σ g _ i q) ?_;rintro w' Z ⟨z',n,w,S,N⟩;refine z6 (f p Z σ n y z' u w' _ w m S N) ?_;rintro d' s5 ⟨z2,Y,A,T,k2,C,O⟩;subst C;cases T;exact Oj ⟨Y,A,O⟩
theorem om:(sizeLine:Nat)<2 ^ 63:=by rw[M8];decide
theorem xw:E4 X (m3 .Add) (λx y H Q=>∃i j,x=.str i/\y=.str j/\i.length+j.length<=sizeLine/\Q (.str<|i++j) H):=by intro p s σ H x y v u Q I g r h;obtain⟨i,j,rfl,rfl,b,q⟩:=h;obtain⟨t,rfl⟩:=g;obtain⟨t',rfl⟩:=r;exact add_str (λt' k=>⟨.str<|i++j,H,I.tok _,⟨_,rfl⟩,q⟩) b
theorem yz(r:ax [x] us):∃u,us=[u]/\aQ x u:=by
 cases r with
 |cons a m=>cases m;exact⟨_,rfl,a⟩
theorem vals2(r:ax [x,y] us):∃u w',us=[u,w']/\aQ x u/\aQ y w':=by
 cases r with
 |cons a m =>
  cases m with
  |cons D M=>cases M;exact⟨_,_,rfl,a,D⟩
theorem BP(f:X.calm=a9):df X (.builtin "max") (λxs H Q=>∃i j,xs=[.int i,.int j]/\Q (.int<|if j > i then j else i) H):=by
 intro p s σ H xs us Q I r h;obtain⟨i,j,rfl,q⟩:=h;obtain⟨u,Y,rfl,⟨t,rfl⟩,⟨t',rfl⟩⟩:=vals2 r;refine max_two_ints (I.ok.hd f) λh' a k=>⟨_,H,I.kept k,?_,q⟩
 by_cases L:j > i;rw[p9 L,p9 L];exact⟨_,rfl⟩;rw[q9 L,q9 L];exact⟨_,rfl⟩
theorem EA:df X (.builtin "ord") (λxs H Q=>∃x,xs=[.str x]/\x.length=1/\Q (.int (x.cps.getD 0 0:Nat)) H):=by intro p s σ H xs us Q I r h;obtain⟨x,rfl,b,q⟩:=h;obtain⟨u,rfl,t,rfl⟩:=yz r;exact ord_of_one b ⟨.int _,H,I.tok _,⟨_,rfl⟩,q⟩
structure ObjM(h:d9)(x dx C:d7)(mA:c9->Option b9):Prop where
 obj:h.get? x=a7 (PySem.W.instObj C dx)
 ns:h.Ns1 dx mA
 ne:dx≠x
structure Cls(K:v9)(C:d7):Prop where
 pg:PySem.W.plainGet K C Str.empty=a9
 hd:PySem.W.hasDictIn K C=a9
 po:PySem.W.plainOver K C=a9
 sa:P8 K (.ref C) "__setattr__" = a7 (a7<|.builtin "object.__setattr__")
structure Con(K:v9)(C:d7)(f:c9)(v:V)(u:b9):Prop where
 at_:P8 K (.ref C) f=a7 (a7 u)
 rel:aQ v u
 get:PySem.W.specialIn K u "__get__" = a7 a8
 cp:PySem.W.copiedNames.contains f=b7
structure Meth(K:v9)(C:d7)(m:c9)(f:d7):Prop where
 at_:P8 K (.ref C) m=a7 (a7<|.ref f)
 fn:PySem.W.isFn K (.ref f)=a9
 kp:Ox K (.ref f)=a9
inductive TyOf(K:v9)(H:Hp):V->b9->Prop where
 |non:TyOf K H .non (.type "NoneType")
 |bl (x:Bool):TyOf K H (.bl x) (.type "bool")
 |int (i:Int):TyOf K H (.int i) (.type "int")
 |str (x:c9):TyOf K H (.str x) (.type "str")
 |flt (x:UInt64):TyOf K H (.flt x) (.type "float")
 |lst {a:d7}{xs:List V} (e:H a=a7 (.lst xs)):TyOf K H (.ref a) (.type "list")
 |frz {a:d7}{o:d8}{xs:List V} (e:H a=a7 (.frz o (.lst xs))):TyOf K H (.ref a) (.type "list")
 |tup {a:d7}{xs:List V} (e:H a=a7 (.tup xs)):TyOf K H (.ref a) (.type "tuple")
 |dK {a:d7}{kvs:List (D9×V)} (e:H a=a7 (.dK kvs)):TyOf K H (.ref a) (.type "dict")
 |dT {a:d7}{kvs:List (List D9×V)} (e:H a=a7 (.dT kvs)):TyOf K H (.ref a) (.type "dict")
 |ins {a C dx:d7}{fs:List (c9×V)} (e:H a=a7 (.ins C dx fs)) (cl:Cls K C) (ha:P8 K (.ref C) "__class__" = a7 (a7 (.builtin "object.__class__")))
   (hn:PySem.W.specialIn K (.builtin "object.__class__") "__get__" = a7 (a7<|.builtin "getset_descriptor.__get__")) (htk:PySem.W.takesIn K (.builtin "object.__class__")=a7 a9)
   (hm:PySem.W.mroIn K C (.type "object")=a7 a9):TyOf K H (.ref a) (.ref C)
structure Room(k:Nat)(A:f9):Prop where
 hd:A.handled=a8
 dp:A.depth+3*k+5<recursionLimit
 un:A.units+16*k+200<m9
theorem Room.mono(r:Room k A)(h:j<=k):Room j A:=⟨r.hd,by have:=r.dp;lia,by have:=r.un;lia⟩
theorem Room.deeper(r:Room (k+1) A)(env:Env):Room k (A.deeper env):=⟨r.hd,by have:=r.dp;show A.depth+1+3*k+5<_;lia,by have:=r.un;show A.units+3+16*k+200<_;lia⟩
theorem Room.depth(r:Room k A):A.depth<recursionLimit:=by have:=r.dp;lia
def tNil:TA:=λ_ H Q=>Q [] H
def tCons(t:TE)(tr:TA):TA:=λσ H Q=>t σ H λx a=>tr σ a λxs b=>Q (x::xs) b
theorem Ka:PA X [] tNil:=λ_ _ _ _ H Q I h=>Qj ⟨[],H,I,.nil,h⟩
theorem Gm(g:PE X e te)(i:PA X es t)(hs:j6 (e::es) X.env=(b7,eval e X.env)::j6 es X.env:=by rfl):PA X (e::es) (tCons te t):=by intro a p s σ H Q I h;rw[hs];show i7 _ _ (spliced<|(b7,eval e X.env)::j5 a (j6 es X.env)) _ _ s;refine Qn<|z6 (g p s σ H _ I h) ?_;rintro u k ⟨x,b,d,r,q⟩;refine z6 (i a p k σ b _ d q) ?_;rintro us w ⟨xs,c,f,m,j⟩;exact⟨x::xs,c,f,.cons r m,j⟩
def tTup(t:TA):TE:=λσ H Q=>t σ H λxs a=>xs.length<=sizeLine/\∀p,a p=a8->Q (.ref p) (A0 a p<|.tup xs)
def tLst(t:TA):TE:=λσ H Q=>t σ H λxs a=>xs.length<=sizeLine/\∀p,a p=a8->Q (.ref p) (A0 a p<|.lst xs)
theorem JN{x1}(h:PA X es t):PE X (.Tuple es x1 pos) (tTup t):=by intro p s σ H Q I g;refine wpAny_Tuple_spliced<|z6 (h pos p s σ H _ I g) λus f ⟨xs,a,c,r,z,q⟩=>⟨by rw[<-r.length];exact z,?_⟩;have d:a f.heap.objs.size=a8:=c.hok.fresh<|z5 _;refine⟨.ref f.heap.objs.size,A0 a f.heap.objs.size<|.tup xs,c.laid (t':=f.toks) (λb u e=>A9 _ e) (z5 _) ?_,rfl,q _ d⟩;exact⟨z,us,r,⟨_,E1 _ rfl,rfl,⟨_,rfl⟩,rfl⟩⟩
theorem JS(h:PA X es t):PE X (.List es pos) (tLst t):=by intro p s σ H Q I g;refine wpAny_List_spliced<|z6 (h pos p s σ H _ I g) λus f ⟨xs,a,c,r,z,q⟩=>⟨by rw[<-r.length];exact z,?_⟩;have d:a f.heap.objs.size=a8:=c.hok.fresh<|z5 _;refine⟨.ref f.heap.objs.size,A0 a f.heap.objs.size<|.lst xs,c.laid (t':=f.toks) (λb u e=>A9 _ e) (z5 _) ?_,rfl,q _ d⟩;exact⟨z,us,0,r,E1 _ rfl⟩
abbrev Sp:=List V->Hp->VK->XK->Prop
abbrev NQ:=List Env->Hp->g8->XK->b9->g8->Prop
structure Env0(P:d6)(w:d5)(K:v9)(mg:c9->Option b9)(base:d9)(A:f9)(outer:List Env)(s:g8)(H:Hp):Prop where
 frames:A.frames=a7 outer
 mod:Mod K mg base
 bs:∀b o,base.get? b=a7 o->s.heap.get? b=a7 o/\H b=a8
 bsz:base.objs.size<=s.heap.objs.size
 funs:s.heap.FunFrames base outer
 frf:∀b∈K7 outer,H b=a8
 hok:E8 P w H s.heap
 bare:i5 s.gens
inductive CE(outer:List Env)(P:d6)(w:d5)(H:Hp)(s:g8)(Q:VK)(u:b9)(s':g8):Prop
 |mk (v:_) (H':_) (f0:s'.os=s.os) (f1:i5 s'.gens) (f2:Un (K7 outer) [] H H' s.heap s'.heap) (f3:E8 P w H' s'.heap) (f4:aQ v u) (f5:Q v H')
def CR(CX:NQ)(o:List Env)(P:d6)(w:d5)(H:Hp)(s:g8)(Q:VK)(E:XK)(r:Result)(s':g8):Prop:=match r with
 |.ok (.ret u)=>CE o P w H s Q u s'
 |.ok _=>False
 |.error e=>CX o H s E e s'
structure FnOk(P:d6)(w:d5)(K:v9)(mg:c9->Option b9)(base:d9)(CX:NQ)(k:Nat)(f:d7)(fd:n0)(ps:List c9)(sp:Sp):Prop where
 len:∀vs H Q E,sp vs H Q E->vs.length=ps.length
 run:∀(A:f9) (outer:List Env) (s:g8) (H:Hp) (args:Args) (us:List b9) (vs:List V) (Q:VK) (E:XK),Room k A->Env0 P w K mg base A outer s H->BindsTo s fd args (ps.zip us)->ax vs us->sp vs H Q E ->n3 (j2 P w) A (.call (.ref f) args) (CR CX outer P w H s Q E) s
theorem u6.env0(I:u6 X pins σ H s):Env0 X.prog X.w X.K X.mg X.base X.A X.stack s H:=⟨I.ok.frames,I.ok.mod,I.bs,MF I.ok.bsz I.sz,I.stack,I.stkFree,I.hok,I.bare⟩
theorem u6.after(I:u6 X pins σ H s)(h:CE X.stack X.prog X.w H s Q u s'):EP X pins σ Q u s':=by obtain⟨v,H',c,e,n,K,r,q⟩:=h;obtain⟨a,g,d,t,o⟩:=s';obtain rfl:o=s.os:=c;exact⟨v,H',I.call (h':=a) (g':=g) (d':=d) (t':=t) (ch:=[]) n K e (λb z=>r9 z<|by simp),r,q⟩
def Jh(sp:Sp)(s:List V)(E:XK)(t:TA):TE:=λσ H Q=>t σ H λvs a=>sp (vs++s) a Q E
def tj(K:v9)(d:n0)(ps:List c9)(ds:List b9):Prop:=∀(s:g8) (us:List b9),K.In s.heap->(us++ds).length=ps.length->BindsTo s d ⟨us,[]⟩ (ps.zip<|us++ds)
theorem tj.all{K:v9}{d:n0}{ps:List c9}(h:∀us:List b9,us.length=ps.length->bindArgs d ⟨us,[]⟩=pure (ps.zip us)):tj K d ps []:=λs us _ g=>by rw[NZ]at g ⊢;exact .of_eq<|h us g
def Cc(CX:NQ)(X:Cx)(E:XK):Prop:=∀(p:List (d7×d8)) (σ:St) (H:Hp) (s:g8) (e:b9) (s':g8),u6 X p σ H s->CX X.stack H s E e s'->X.xe e s'
theorem Jv(F:FnOk X.prog X.w X.K X.mg X.base CX k f fd ps sp)(i:Room k X.A)(d:tj X.K fd ps ds)(a:ax dvs ds)(x:Cc CX X E)(I:u6 X pins σ H s) (r:ax vs us) (h:sp (vs++dvs) H Q E):i7 (j2 X.prog X.w) X.A (call (.ref f) us) (EP X pins σ Q) X.xe s:=by
 have m:ax (vs++dvs) (us++ds):=r.append a;have g:(us++ds).length=ps.length:=by rw[<-m.length];exact F.len _ _ _ _ h
 refine wpAny_call<|Pj (F.run X.A X.stack s H ⟨us,[]⟩ (us++ds) (vs++dvs) Q E i I.env0 (d s us I.kIn g) m h) λr s' q=>?_;cases r with
 |error e=>exact x pins σ H s e s' I q
 |ok l =>
  cases l with
  |ret u=>exact I.after q
  |next=>exact NV q
  |brk=>exact NV q
  |cont=>exact NV q
theorem Gh(F:FnOk X.prog X.w X.K X.mg X.base CX k f fd ps sp)(o:Room k X.A)(S:Gl X x)(n:X.mg x=a7 (.ref f))(m:Ox X.K (.ref f)=a9)(g:tj X.K fd ps ds)(i:ax dvs ds)(u:Cc CX X E)(d:PA X (e::es) t) (b:(x==("__debug__":c9))=b7:=by decide) (j:j6 (e::es) X.env=(b7,eval e X.env)::j6 es X.env:=by rfl) (l:(j5 pos<|j6 es X.env).any (·.1)=b7:=by rfl):PE X (.Call (.Name x p) (e::es) [] pos) (Jh sp dvs E t):=by intro a s σ H Q I h;refine OD<|AO I S n ?_ b;refine PySem.W.callWith_K (h₀:=X.base) I.ok.mod.kin m (z6 (d pos a s σ H _ I h) λus y ⟨vs,v,c,r,q⟩=>⟨c.kIn,?_⟩) j l;exact Jv F o g i u c r q
structure Mk(K:v9)(C f:d7):Prop where
 makes:PySem.W.makesIn K C=a9
 init:P8 K (.ref C) "__init__" = a7 (a7<|.ref f)
 fn:PySem.W.isFn K (.ref f)=a9
 kp:Ox K (.ref C)=a9
structure KBinds(K:v9)(fd:n0)(ps ks:List c9)(g:List b9->List b9->List b9)(gV:List V->List V->List V):Prop where
 to:∀(s:g8) (us ws:List b9),K.In s.heap->(g us ws).length=ps.length->BindsTo s fd ⟨us,ks.zip ws⟩ (ps.zip<|g us ws)
 rel:∀{vs:List V}{us:List b9}{zs:List V}{ws:List b9},ax vs us->ax zs ws->ax (gV vs zs) (g us ws)
structure FnScope(N P:List c9)(sc:g9):Prop where
 kind:sc.kind=.function
 co:sc.isCoroutine=b7
 gen:sc.isGenerator=b7
 nd:N.Nodup
 pre:N.take P.length=P
 par:∀x∈P,sc.names.lookup x=a7 .local\/sc.names.lookup x=a7 .cell
 nofree:∀y∈sc.names,y.2≠.free
theorem sT{kindOf:c9->Option n4}{x:c9}:∀{binds:List (c9×b9)}{m:c9->Option b9},(∀v,(x,v)∉binds)->bindL kindOf binds m x=m x
 | [],_,_=>rfl
 |(n,v)::r,m,h=>by
  unfold bindL;rw[sT λw hw=>h w<|C0 _ hw];split;have:x≠n:=by rintro rfl;exact h v C7
  simp[this];rfl
theorem sV{kindOf:c9->Option n4}{x:c9}:∀{binds:List (c9×b9)}{m:c9->Option b9},(∀v,(x,v)∉binds)->bindC kindOf binds m x=m x
 | [],_,_=>rfl
 |(n,v)::r,m,h=>by
  unfold bindC;rw[sV λw hw=>h w<|C0 _ hw];split;rfl;have:x≠n:=by rintro rfl;exact h v C7
  simp[this]
theorem sU{kindOf:c9->Option n4}{x:c9}{v:b9}:∀{P:List c9}{vs:List b9}{i:Nat}{m:c9->Option b9},P.Nodup->P[i]?=a7 x->vs[i]?=a7 v->kindOf x=a7 .local ->bindL kindOf (P.zip vs) m x=a7 v
 | [],_,_,_,_,h,_,_=>by simp at h
 |_::_,[],_,_,_,_,h,_=>by simp at h
 |p::P,w::vs,0,m,nd,h1,h2,hk=>by simp at h1 h2;subst h1;subst h2;show bindL kindOf ((p,w)::P.zip vs) m p=_;unfold bindL;rw[sT λv hv=>(MR.mp nd).1 (Q6 hv).1,p9 hk];simp
 |p::P,w::vs,i+1,m,nd,h1,h2,hk=>by show bindL kindOf ((p,w)::P.zip vs) m x=_;unfold bindL;exact sU (i:=i) (MR.mp nd).2 (by simpa using h1) (by simpa using h2) hk
theorem sW{kindOf:c9->Option n4}{x:c9}{v:b9}:∀{P:List c9}{vs:List b9}{i:Nat}{m:c9->Option b9},P.Nodup->P[i]?=a7 x->vs[i]?=a7 v->kindOf x≠a7 .local ->bindC kindOf (P.zip vs) m x=a7 v
 | [],_,_,_,_,h,_,_=>by simp at h
 |_::_,[],_,_,_,_,h,_=>by simp at h
 |p::P,w::vs,0,m,nd,h1,h2,hk=>by simp at h1 h2;subst h1;subst h2;show bindC kindOf ((p,w)::P.zip vs) m p=_;unfold bindC;rw[sV λv hv=>(MR.mp nd).1 (Q6 hv).1,q9 hk];simp
 |p::P,w::vs,i+1,m,nd,h1,h2,hk=>by show bindC kindOf ((p,w)::P.zip vs) m x=_;unfold bindC;exact sW (i:=i) (MR.mp nd).2 (by simpa using h1) (by simpa using h2) hk
noncomputable def start(N:List c9)(vs:List V):St:=vs.map a7++P7 (N.length-vs.length) a8
noncomputable def yp(CX:NQ)(P:d6)(w:d5)(K:v9)(mg:c9->Option b9)(base:d9)(N:List c9)(l:c9)(scope:g9)(f:d7)(d:b9)(A:f9)(outer:List Env)(s:g8)(H:Hp)(E:XK):Cx where
 prog:=P
 w:=w
 K:=K
 mg:=mg
 base:=base
 A:=A.deeper<|n5 l scope s.heap.objs.size f d
 N:=N
 s₀:=s
 H₀:=H
 env:=n5 l scope s.heap.objs.size f d
 outer:=outer
 stack:=n5 l scope s.heap.objs.size f d::outer
 ex:=[]
 calm:=a9
 fn:=λ_=>a9
 pn:=[]
 xe:=λe s'=>i7 (j2 P w) (A.deeper<|n5 l scope s.heap.objs.size f d) (leaving (n5 l scope s.heap.objs.size f d) e) (λ_ a=>CX outer H s E e a) (λb a=>CX outer H s E b a) s'
theorem wF{s:g9}{n:Nat}{x:c9}(h:s.names.lookup x=a7 .cell):∃c,(cellsFrom n s.names []).lookup x=a7 c:=by have q:=PySem.W.cellsFrom_some s.names n []<|.inl h;exact Option.isSome_iff_exists.mp q
theorem Bi{CX:NQ}{P:d6}{w:d5}{K:v9}{mg:c9->Option b9}{base:d9}{N ps:List c9}{l:c9}{scope:g9}{f:d7}{t:b9}{A:f9}{o:List Env}{s D:g8}{H:Hp}{E:XK}{us:List b9}{vs:List V}(S:FnScope N ps scope) (G:A.handled=a8) (d:Env0 P w K mg base A o s H) (M:vs.length=ps.length) (r:ax vs us)(x:InCallC s s.heap.objs.size (bindL (n5 l scope s.heap.objs.size f t).kindOf (ps.zip us) λ_=>a8) (cellsFrom (s.heap.objs.size+1) scope.names []) (bindC (n5 l scope s.heap.objs.size f t).kindOf (ps.zip us) λ_=>a8) D):u6 (yp CX P w K mg base N l scope f t A o s H E) [] (start N vs) H D:=by
 have I:ps.length<=N.length:=by have:=t7 Ob S.pre;rw[H9]at this;lia
 obtain⟨h1,O,rfl,B⟩:=x.done;have g:∀b:d7,b∉(yp CX P w K mg base N l scope f t A o s H E).ex:=λb z=>r9 (show b∈([]:List d7)from z) (by simp);refine⟨⟨d.mod,S.kind,rfl,rfl,z5 _,λy z c h1 h2=>?_,λy Q=>?_,λy c _ h=>?_,λ_=>G,Around.frames_deeper d.frames,.inr ⟨rfl,rfl⟩,λb z=>r9 z<|g b,d.bs,d.bsz,λb _ _=>g b,λb z=>r9 z<|g b,d.funs,d.frf⟩,rfl,d.bare,Un.kept B,⟨_,x.toInCall.ns,λi y v h1 h2 L=>?_⟩,λy c h=>⟨_,x.cell y c h⟩,d.hok.fresh<|z5 _,λy c h=>?_,λp j=>r9 (show p∈([]:List (d7×d8))from j) (by simp),d.hok.kept B,?_⟩;exact name_of_addr x.apart (Om h1)<|Om h2;have Q:scope.names.lookup y=a7 .cell\/scope.names.lookup y=a7 .free:=Q;rcases Q with Q|Q;exact wF Q;exact r9 rfl<|S.nofree _<|Om Q;exact P4<|x.above y c<|Om h;have hi:i<vs.length:=by unfold start at h2;by_cases hi:i<vs.length;exact hi;rw[ND<|by simpa using hi]at h2;rw[Rl]at h2;split at h2<;>cases h2
 have F:vs[i]?=a7 v:=by
  unfold start at h2;rw[J0 (by simpa using hi),G2]at h2;cases e:vs[i]? with
  |none=>rw[e]at h2;cases h2
  |some a=>rw[e]at h2;cases h2;rfl
 obtain⟨u,C,J⟩:=r.get F;have j:ps[i]?=a7 y:=by rw[<-S.pre,O6<|by lia];exact h1
 have m:ps.Nodup:=by rw[<-S.pre];exact S.nd.sublist<|Qi _ _
 refine⟨u,J,?_⟩;rcases S.par y (NA j)with k|k;exact .inl ⟨k,sU m j C k⟩;obtain⟨c,e⟩:=wF (n:=s.heap.objs.size+1) k;refine .inr ⟨.inl k,c,e,?_⟩;have q:=x.cell y c e;rw[sW m j C<|by show scope.names.lookup y≠_;rw[k];decide]at q;exact q;exact d.hok.fresh<|P4<|x.above y c<|Om h;unfold start;show _=N.length;rw[A7,x6,Rj];lia
theorem fn_of{CX:NQ}{P:d6}{w:d5}{K:v9}{mg:c9->Option b9}{base:d9}{k:Nat}{f:d7}{name l:c9}{p:Arguments}{a:List j7}{scope:g9}{T kV i U c R oc:b9}{M od:Option d7}{G:Array (Option b9)}{N ps:List c9}{sp:Sp} (lk:K.lookup f=a7 ⟨oc,od,.func<|Od name l p a scope T kV i U M c R,G⟩) (C:QY K c l=a9) (S:FnScope N ps scope)(B:∀vs H Q E,sp vs H Q E->vs.length=ps.length)(h:∀(A:f9) (outer:List Env) (s:g8) (H:Hp) (vs:List V) (Q:VK) (E:XK),Room k (A.deeper<|n5 l scope s.heap.objs.size f c)->sp vs H Q E -> ∃t,L7 (yp CX P w K mg base N l scope f c A outer s H E) a t/\t { nx:=λ_ H'=>Q .non H',rt:=Q } (start N vs) H):FnOk P w K mg base CX (k+1) f (Od name l p a scope T kV i U M c R) ps sp:=by
 refine⟨B,λA outer s H O us vs Q E D j hb r z=>?_⟩;have hl:=B _ _ _ _ z;have X:K.In s.heap:=j.mod.kin.keeps λb o e=>(j.bs b o e).1;have F:s.heap.NoLimit:=j.mod.nolimit.keeps λb o e=>(j.bs b o e).1;have g:∀y∈ps.zip us,scope.names.lookup y.1=a7 .local\/(scope.names.lookup y.1=a7 .cell/\((cellsFrom (s.heap.objs.size+1) scope.names []).lookup y.1).isSome=a9):=λ⟨n,v⟩ hy=>by rcases S.par n (Q6 hy).1 with q|q;exact .inl q;exact .inr ⟨q,PySem.W.cellsFrom_some _ _ _<|.inl q⟩
 refine codeAny_call_function D.depth (X _ _ lk) rfl S.co S.gen rfl (PySem.W.codeRec_of X C)<|hb _ _ _ _ ?_;refine wpAny_newFunctionEnv_cells S.kind g λenv he Y x=>?_;subst he;refine⟨F.keeps x.toInCall.keep,codeAny_func ?_⟩;obtain⟨t,ht,hq⟩:=h A outer s H vs Q E (D.deeper _) z;have I:u6 (yp CX P w K mg base N l scope f c A outer s H E) [] (start N vs) H Y:=Bi S D.hd j hl r x;refine L6 (ht [] Y (start N vs) H _ I hq) (λZ s' hs=>?_) λe s' hs=>hs;have m:∀{d:St}{H':Hp}{v:V}{u:b9},u6 (yp CX P w K mg base N l scope f c A outer s H E) [] d H' s'->aQ v u->Q v H'->CE outer P w H s Q u s':=λ{d H' v u} J L q=>⟨v,H',J.os,J.bare,J.base,J.hok,L,q⟩
 cases Z with
 |ret u=>obtain⟨v,d,H',J,L,q⟩:=hs;exact m J L q
 |next=>obtain⟨d,H',J,q⟩:=hs;exact m (v:=V.non) (u:=K4) J rfl q
 |brk=>obtain⟨_,_,_,q⟩:=hs;exact NV q
 |cont=>obtain⟨_,_,_,q⟩:=hs;exact NV q
def Rv(r:List V->Hp->VK->Prop)(t:TA):TE:=λσ H Q=>t σ H λvs a=>r vs a Q
theorem CT{X:Cx}{x:c9}{p b:Pos}{e:i9}{es:List i9}{t:TA}{id:String}{r:List V->Hp->VK->Prop}(i:df X (.builtin id) r)(S:Gl X x)(m:X.mg x=a8)(v:f8 x=a7 (.builtin id))(g:PA X (e::es) t)(n:x≠"__name__":=by decide)(c:(x==("__debug__":c9))=b7:=by decide)(j:j6 (e::es) X.env=(b7,eval e X.env)::j6 es X.env:=by rfl) (l:(j5 b<|j6 es X.env).any (·.1)=b7:=by rfl):PE X (.Call (.Name x p) (e::es) [] b) (Rv r t):=by intro a s σ H Q I h;refine OD<|fv I S m v ?_ n c;exact PyProof.Rows.callWith_builtin1 (z6 (g b a s σ H _ I h) λus o ⟨vs,d,f,k,q⟩=>i a o σ d vs us Q f k q) j l
theorem zX(g:df X (.type T) r)(S:Gl X x)(m:X.mg x=a8)(v:f8 x=a7 (.type T))(f:PA X (e::es) t)(n:x≠"__name__":=by decide)(b:(x==("__debug__":c9))=b7:=by decide)(i:j6 (e::es) X.env=(b7,eval e X.env)::j6 es X.env:=by rfl) (l:(j5 pos<|j6 es X.env).any (·.1)=b7:=by rfl):PE X (.Call (.Name x p) (e::es) [] pos) (Rv r t):=by intro a s σ H Q I h;refine OD<|fv I S m v ?_ n b;exact Qz (z6 (f pos a s σ H _ I h) λus k ⟨vs,c,d,j,q⟩=>g a k σ c vs us Q d j q) i l
end L2
namespace HT
open PySem PyProof.Rows
theorem rcLt_int(A:f9)(s:g8)(a:Int)(t:Tok)(c:Int)(u:Tok)(prog:d6)(w:d5)(E:b9->g8->Prop)(Q:b9->g8->Prop)(h:Q (.bool<|decide<|a<c) s):i7 (j2 prog w) A (richCompare .Lt (.int a t)<|.int c u) Q E s:=(PyProof.Rows.lt_int h:i7 (j2 prog w) A (m5 .Lt (.int a t)<|.int c u) Q E s)
theorem cat_tup(D:IsTup s.heap t vs.toArray)(q:IsTup s.heap b ws.toArray)(v:vs≠[])(h1:ws=[]->Q (.ref t) s) (h2:ws≠[]->Q (.ref s.heap.objs.size) { s with heap:=s.heap.push { cls:=.type "tuple",data:=.seq (vs++ws).toArray } })(hsz:vs.length+ws.length<=sizeLine):i7 (j2 prog w) A (m3 .Add (.ref t)<|.ref b) Q E s:=by
 obtain⟨⟨cls,k,data,p⟩,B,l,n,m⟩:=id D;obtain⟨⟨j,d,i,f⟩,h,a,o,c⟩:=id q;simp only at l m a c;subst l m a c;have e:vs.toArray++ws.toArray=(vs++ws).toArray:=by simp
 by_cases g:ws=[]
 exact concat_meets ⟨_,B,rfl⟩ ⟨_,h,rfl⟩ noFill_tuple_add seq_tuple_add RQ RR (RT _ _) (tuple_addW1 t b vs.toArray ws.toArray n o k d p f (by simpa using v)<|by simp[g]) ⟨B,h,h1 g⟩;refine concat_meets ⟨_,B,rfl⟩ ⟨_,h,rfl⟩ noFill_tuple_add seq_tuple_add RQ RR (RT _ _) (tuple_addW2 t b vs.toArray ws.toArray n o k d p f (by simpa using v) (by simpa using g)<|by rw[C9,C9];exact hsz) ⟨B,h,?_⟩;rw[e];exact h2 g
noncomputable def sIx(n d:Nat):Option Int->Nat
 |none=>d
 |some v=>if v<0 then(v+(n:Int)).toNat else min v.toNat n
theorem sIx_none(n d:Nat):sIx n d a8=d:=rfl
theorem sIx_nat(n d k:Nat):sIx n d (a7 (k:Int))=min k n:=by show (if (k:Int)<0 then((k:Int)+(n:Int)).toNat else min (k:Int).toNat n)=min k n;rw[q9 (by lia),N1]
theorem Jt(n d:Nat)(h:d<=n)(o:Option Int):sIx n d o<=n:=by
 cases o with
 |none=>exact h
 |some v=>show (if v<0 then(v+(n:Int)).toNat else min v.toNat n)<=n;by_cases c:v<0;rw[p9 c];lia;rw[q9 c];exact Nat.min_le_right _ _
theorem BK(v:Int)(n d:Nat):(if v<0 then max (v+(n:Int)) 0 else min v (n:Int))=((sIx n d (a7 v):Nat):Int):=by
 show (if v<0 then max (v+(n:Int)) 0 else min v (n:Int))=(((if v<0 then(v+(n:Int)).toNat else min v.toNat n):Nat):Int)
 by_cases c:v<0;simp only[p9 c];lia;simp only[q9 c];lia
theorem yh(lo hi:Option Int)(n:Nat):RV lo hi 1 (n:Int)=(((sIx n 0 lo:Nat):Int),((sIx n n hi:Nat):Int)):=by
 have h1:¬((1:Int)<0):=by lia
 unfold RV;simp only[h1,t5];refine Prod.ext ?_ ?_;cases lo with
 |none=>rfl
 |some v=>exact BK v n 0
 cases hi with
 |none=>rfl
 |some v=>exact BK v n n
theorem xu(i j:Nat):Rq (i:Int) (j:Int) 1=j-i:=by
 unfold Rq;have h1:(1:Int) > 0:=by lia
 simp only[h1,t6,Int.ediv_one];split<;>lia
theorem nR(p:n6 v o)(h:Q o s):i7 (j2 prog w) A (Builtin.Slice.slicePartIndex v) Q E s:=by
 cases p with
 |none=>exact slicePart_none h
 |int i t=>exact slicePart_int h
theorem eI{m:d7}{l u:b9}{lo hi:Option Int}{n:Nat}{Q:Int×Int×Nat->g8->Prop}(hs:s.heap.IsSliceOf m l u .none)(p:n6 l lo)(d:n6 u hi)(h:Q (((sIx n 0 lo:Nat):Int),1,sIx n n hi-sIx n 0 lo) s):i7 (j2 prog w) A (R5 (.ref m)<|pure (n:Int)) Q E s:=by obtain⟨o,b,c,a⟩:=id hs;unfold R5 Builtin.Slice.sliceFields;refine t9<|t9<|MN b a (x:=l) rfl<|t9<|MN b a (x:=u) rfl<|t9<|MN b a (x:=.none) rfl<|u9 ?_;refine t9<|slicePart_none ?_;show i7 _ _ (if ((1:Int)==0)=a9 then _ else _) _ _ s;rw[q9<|by decide];refine t9<|nR p<|t9<|nR d<|t9<|u9 ?_;show i7 _ _ (match RV lo hi 1 (n:Int)with|(lo,hi)=>pure (lo,(1:Int),Rq lo hi 1)) _ _ s;rw[yh lo hi n];show i7 _ _ (pure (((sIx n 0 lo:Nat):Int),(1:Int),Rq ((sIx n 0 lo:Nat):Int) ((sIx n n hi:Nat):Int) 1)) _ _ s;rw[xu];exact u9 h
theorem CO(xs:Array b9)(i k:Nat):((C3 k).filterMap λ(m:Nat)=>xs[((i:Int)+(m:Int)*1).toNat]?).toArray=((xs.toList.drop i).take k).toArray:=by
 have e:(λ(m:Nat)=>xs[((i:Int)+(m:Int)*1).toNat]?)=λm=>xs[i+m]?:=by
  funext m;have:((i:Int)+(m:Int)*1).toNat=i+m:=by lia
  rw[this]
 rw[e];have:=pick_run xs i k;rw[List.filterMap_map]at this;have l:((λx=>xs[x]?) ∘ λx=>i+x)=λm=>xs[i+m]?:=rfl;rw[l]at this;rw[this]
theorem getItem_tuple_cut{t l:d7}{i:Array b9}{v u:b9}{lo hi:Option Int}{Q:b9->g8->Prop}(D:IsTup s.heap t i)(hs:s.heap.IsSliceOf l v u .none)(p:n6 v lo)(j:n6 u hi)(f:¬(sIx i.size 0 lo=0/\sIx i.size i.size hi=i.size))(h:Q (.ref s.heap.objs.size) { s with heap:=s.heap.push { cls:=.type "tuple",data:=.seq ((i.toList.drop<|sIx i.size 0 lo).take<|sIx i.size i.size hi-sIx i.size 0 lo).toArray } })(hsz:i.size<=sizeLine):i7 (j2 prog w) A (n9 (.ref t)<|.ref l) Q E s:=by
 have e:sizeOk (.seq ((i.toList.drop<|sIx i.size 0 lo).take<|sIx i.size i.size hi-sIx i.size 0 lo).toArray):=by show ((i.toList.drop<|sIx i.size 0 lo).take<|sIx i.size i.size hi-sIx i.size 0 lo).toArray.size<=sizeLine;rw[C9,H9,N0,G3];lia
 have L:sIx i.size i.size hi<=i.size:=Jt _ _ (z5 _) hi;obtain⟨g,b,c,d⟩:=id hs;have a:s.TypeIs (.ref l) "slice":=⟨g,b,c⟩
 unfold n9
 try with_reducible refine K8 ?_
 first|refine t9 (u9 ?_)|skip
 refine t9<|wpAny_sequenceKey D.typeIs (by decide) ?_;refine t9<|MY (name:=AA1 "__getitem__") D.typeIs PC<|J2 PC D.typeIs entry_tuple_getitem ?_<|args_tuple_getitem _ _;show i7 _ _ (Rr (.ref t) >>= _) _ _ s;refine t9<|tupleItemsOf_ D ?_;refine t9<|Pi a ?_;rw[p9<|by decide];refine t9<|eI hs p j ?_;have o:¬((((sIx i.size 0 lo:Nat):Int)==0&&(1:Int)==1&&(sIx i.size i.size hi-sIx i.size 0 lo)==i.size)=a9):=by intro q;rw[B8,B8]at q;have k:((sIx i.size 0 lo:Nat):Int)=0:=eq_of_beq q.1.1;have n:sIx i.size i.size hi-sIx i.size 0 lo=i.size:=eq_of_beq q.2;exact f ⟨by lia,by lia⟩
 show i7 _ _ (if (((sIx i.size 0 lo:Nat):Int)==0&&(1:Int)==1&&(sIx i.size i.size hi-sIx i.size 0 lo)==i.size)=a9 then _ else _) _ _ s;rw[q9 o,CO]
 first
  |exact t9 (m:=Ro _) (K5 (u9 ⟨_,rfl,u9 h⟩) e)
  |exact t9 (m:=Ro _) (K5 (t9 (u9 (u9 ⟨_,rfl,u9 h⟩))) e)
  |exact t9 (t9 (m:=Ro _) (K5 (u9 (u9 ⟨_,rfl,u9 h⟩)) e))
  |exact t9 (t9 (m:=Ro _) (K5 (u9 ⟨_,rfl,u9 h⟩) e))
end HT
namespace L2
open PySem PySem.Spec PyProof.Rows
abbrev TO:=St->Hp->(Option Int->Hp->Prop)->Prop
def PO(X:Cx)(e:Option i9)(t:TO):Prop:=∀(p:List (d7×d8)) (s:g8) (σ:St) (H:Hp) (Q:Option Int->Hp->Prop),u6 X p σ H s->t σ H Q ->i7 (j2 X.prog X.w) X.A (evalPart e X.env) (λu s'=>∃o H',u6 X p σ H' s'/\n6 u o/\Q o H') X.xe s
def FF:TO:=λ_ H Q=>Q a8 H
def tPart(t:TE):TO:=λσ H Q=>t σ H λx a=>∃i,x=.int i/\Q (a7 i) a
section
variable{X:Cx}{e:i9}{te:TE}{lo hi:Option i9}{tl th:TO}{pos p2:Pos}
theorem Gc:PO X a8 FF:=by intro p s σ H Q I h;rw[evalPart_none];exact u9 ⟨a8,H,I,.none,h⟩
theorem Gb(h:PE X e te):PO X (a7 e) (tPart te):=by intro p s σ H Q I w;rw[evalPart_some];refine z6 (h p s σ H _ I w) ?_;rintro u f ⟨x,a,b,r,c⟩;obtain⟨i,rfl,q⟩:=c;obtain⟨t,rfl⟩:=r;exact⟨a7 i,a,b,.int i t,q⟩
def PN(X:Cx)(r:V->Option Int->Option Int->Hp->VK->Prop):Prop:=∀(p:List (d7×d8)) (s:g8) (σ:St) (H:Hp) (x:V) (v a u:b9) (l hi:Option Int) (m:d7) (Q:VK),u6 X p σ H s->aQ x v->s.heap.IsSliceOf m a u .none->n6 a l->n6 u hi->r x l hi H Q ->∃T id,typeLookup (.type T) "__getitem__" = pure (a7<|.builtin id)/\s.TypeIs v T/\i7 (j2 X.prog X.w) X.A (n9 v<|.ref m) (EP X p σ Q) X.xe s
def tSl(r:V->Option Int->Option Int->Hp->VK->Prop)(te:TE)(t h:TO):TE:=λσ H Q=>te σ H λx a=>t σ a λl b=>h σ b λu c=>r x l u c Q
theorem CQ(y:PN X r)(o:PE X e te)(t:PO X lo tl)(B:PO X hi th):PE X (.Subscript e (.Slice lo hi a8 p2) pos) (tSl r te tl th):=by intro p s σ H Q I h;refine Subscript_<|z6 (o p s σ H _ I h) ?_;rintro v L ⟨x,f,i,K,F⟩;refine wpAny_Slice<|z6 (t p L σ f _ i F) ?_;rintro a M ⟨l,g,j,C,G⟩;refine z6 (B p M σ g _ j G) ?_;rintro c z ⟨u,d,k,E,J⟩;rw[evalPart_none];refine u9 ?_;have m:u6 X p σ d { z with heap:=z.heap.push { cls:=.type "slice",data:=.fields #[a,c,.none] } }:=k.kept (t':=z.toks) λb N q=>A9 _ q;obtain⟨T,id,n,D,S⟩:=y p { z with heap:=z.heap.push { cls:=.type "slice",data:=.fields #[a,c,.none] } } σ d x v a c l u z.heap.objs.size Q m K (Heap.IsSliceOf.new ..) C E J;show i7 (j2 X.prog X.w) X.A (subscriptTail e (.Slice lo hi a8 p2) v<|.ref z.heap.objs.size) (EP X p σ Q) X.xe { z with heap:=z.heap.push { cls:=.type "slice",data:=.fields #[a,c,.none] } };exact tail_any (ops:=[.ref z.heap.objs.size,v]) D n S<|by with_unfolding_all rfl
noncomputable def Fm(xs:List V)(lo hi:Option Int):List V:=(xs.drop<|HT.sIx xs.length 0 lo).take<|HT.sIx xs.length xs.length hi-HT.sIx xs.length 0 lo
theorem mQ(xs:List V)(lo hi:Option Int):(Fm xs lo hi).length<=xs.length:=by unfold Fm;rw[H9,N0];lia
def rSlT(K:v9):V->Option Int->Option Int->Hp->VK->Prop:=λx l hi H Q=>∃a xs,x=.ref a/\E2 K H a xs /\¬(HT.sIx xs.length 0 l=0/\HT.sIx xs.length xs.length hi=xs.length)/\∀p,H p=a8->Q (.ref p) (A0 H p<|.tup<|Fm xs l hi)
theorem Jp:PN X (rSlT X.K):=by
 intro p s σ H x v f i l hi m Q I g hs d u h;obtain⟨a,xs,rfl,c,w,q⟩:=h;cases g;obtain⟨its,r,D,z⟩:=I.tuple c;have n:its.toArray.size=xs.length:=by rw[C9];exact r.length.symm
 refine⟨"tuple",_,PC.lookup,D.typeIs,?_⟩;refine HT.getItem_tuple_cut D hs d u (by rw[n];exact w) ?_ (by rw[n];exact z);rw[n];refine⟨.ref s.heap.objs.size,_,I.laid (t':=s.toks) (o:=.tup<|Fm xs l hi) (λb e q=>A9 _ q) (z5 _) ?_,rfl,q _<|I.hok.fresh<|z5 _⟩;exact⟨MF (mQ xs l hi) z,_,(r.drop<|HT.sIx xs.length 0 l).take<|HT.sIx xs.length xs.length hi-HT.sIx xs.length 0 l,Fq.new _ _⟩
def rCatT(K:v9):R2:=λx y H Q=>∃a b xs ys,x=.ref a/\y=.ref b/\E2 K H a xs/\E2 K H b ys/\xs≠[]/\xs.length+ys.length<=sizeLine /\(ys=[]->Q (.ref a) H)/\(ys≠[]->∀p,H p=a8->Q (.ref p) (A0 H p<|.tup<|xs++ys))
theorem ax.nil_iff(r:ax xs us):us=[]↔xs=[]:=by
 cases r with
 |nil=>simp
 |cons _ _=>simp
theorem Gs:E4 X (m3 .Add) (rCatT X.K):=by intro p s σ H x y v u Q I n t h;obtain⟨a,b,xs,ys,rfl,rfl,f,d,e,c,k,l⟩:=h;cases n;cases t;obtain⟨its,r,g,_⟩:=I.tuple f;obtain⟨i,m,j,_⟩:=I.tuple d;refine HT.cat_tup g j (λz=>e<|r.nil_iff.mp z) (λz=>⟨.ref a,H,I,rfl,k<|m.nil_iff.mp z⟩) (λz=>?_) (by rw[<-r.length,<-m.length];exact c);refine⟨.ref s.heap.objs.size,_,I.laid (t':=s.toks) (o:=.tup<|xs++ys) (λb A q=>A9 _ q) (z5 _) ?_,rfl,l (λw=>z<|m.nil_iff.mpr w) _<|I.hok.fresh<|z5 _⟩;exact⟨by rw[A7];exact c,_,r.append m,Fq.new _ _⟩
end
noncomputable def Nm(n:Nat)(i:Int):Option Nat:=if 0<=i then(if i<n then a7 i.toNat else a8)else if -(n:Int)<=i then a7 (i+n).toNat else a8
noncomputable def atI{α:Type}(xs:List α)(i:Int):Option α:=(Nm xs.length i).bind λj=>xs[j]?
theorem Bg(h:Nm n i=a7 j):seqIndex? i n=a7 j/\j<n/\-(n:Int)<=i/\i<n:=by unfold Nm at h;by_cases a:0<=i;rw[p9 a]at h;by_cases h1:i<n;rw[p9 h1]at h;have e:i.toNat=j:=F3 h;exact⟨by rw[seqIndex_of a h1,e],by lia,by lia,h1⟩;rw[q9 h1]at h;cases h;rw[q9 a]at h;by_cases h1:-(n:Int)<=i;rw[p9 h1]at h;have e:(i+n).toNat=j:=F3 h;exact⟨by rw[seqIndex_neg (by lia) h1,e],by lia,h1,by lia⟩;rw[q9 h1]at h;cases h
theorem vd{α:Type}{xs:List α}{i:Int}{v:α}(h:atI xs i=a7 v):∃j,seqIndex? i xs.length=a7 j/\xs[j]?=a7 v/\j<xs.length/\-(xs.length:Int)<=i/\i<xs.length:=by
 unfold atI at h;cases e:Nm xs.length i with
 |none=>rw[e]at h;cases h
 |some j=>rw[e]at h;obtain⟨h1,h2,a,d⟩:=Bg e;exact⟨j,h1,h,h2,a,d⟩
theorem bp{α:Type}{xs:List α}{j:Nat}{v:α}(h:xs[j]?=a7 v):atI xs (j:Int)=a7 v:=by
 have L:j<xs.length:=(A3.mp h).1;have e:Nm xs.length (j:Int)=a7 j:=by unfold Nm;rw[p9 (by lia),p9<|by lia];simp
 unfold atI;rw[e];exact h
def pV(b:i9):Prop:=∀o i,subscripted b b7 o i=operate [o,i] (n9 o i)
def MS(X:Cx)(r:R2):Prop:=∀(a e:i9) (p:List (d7×d8)) (s:g8) (σ:St) (H:Hp) (x y:V) (v u:b9) (Q:VK),u6 X p σ H s->aQ x v->aQ y u->r x y H Q ->subscripted e b7 v u=operate [v,u] (n9 v u)->i7 (j2 X.prog X.w) X.A (subscriptTail a e v u) (EP X p σ Q) X.xe s
def Nd(X:Cx)(id:String)(r:V->List V->Hp->VK->Prop):Prop:=∀(p:List (d7×d8)) (s:g8) (σ:St) (H:Hp) (x:V) (xs:List V) (v:b9) (us:List b9) (Q:VK),u6 X p σ H s->aQ x v->ax xs us->r x xs H Q ->i7 (j2 X.prog X.w) X.A (call (.builtin id)<|v::us) (EP X p σ Q) X.xe s
section
variable{X:Cx}{a b:i9}{ta tb:TE}{pos:Pos}
theorem MS.or(h:MS X r)(h':MS X r'):MS X (λx y H Q=>r x y H Q\/r' x y H Q):=by intro a e p s σ H x y v u Q I g i q hs;rcases q with q|q;exact h a e p s σ H x y v u Q I g i q hs;exact h' a e p s σ H x y v u Q I g i q hs
theorem JU(i:MS X r)(f:PE X a ta)(d:PE X b tb)(hs:pV b):PE X (.Subscript a b pos) (OI r ta tb):=by intro p s σ H Q I h;exact Subscript_<|binT f d I h λv u w x y c e g j q=>i a b p w σ c x y v u Q e g j q<|hs _ _
def rIxL(K:v9):R2:=λx y H Q=>∃p xs i v,x=.ref p/\y=.int i/\J1 K H p xs/\atI xs i=a7 v/\Q v H
def rIxT(K:v9):R2:=λx y H Q=>∃p xs i v,x=.ref p/\y=.int i/\E2 K H p xs/\atI xs i=a7 v/\Q v H
def rIxS:R2:=λx y H Q=>∃z i c,x=.str z/\y=.int i/\z.length<=sizeLine/\atI z.cps.toList i=a7 c/\Q (.str ⟨#[c]⟩) H
theorem Hl:MS X (rIxL X.K):=by
 intro c e a s σ H x y v u Q I B C h hs;obtain⟨p,xs,i,z,rfl,rfl,A,m,q⟩:=h;cases B;obtain⟨t,rfl⟩:=C;obtain⟨its,r,l,F⟩:=I.list A;obtain⟨j,h1,h2,D,g,k⟩:=vd m;obtain⟨w,d,b⟩:=r.get h2;have o:=r.length;have E:=om;have n:EP X a σ Q w s:=⟨z,H,I,b,q⟩
 by_cases f:0<=i;have L:i.toNat=j:=by rw[seqIndex_of f k]at h1;exact F3 h1
 exact item_listR l.isList f (by lia) (by rw[L];simpa using d) n hs;have L:(i+(its.toArray.size:Int)).toNat=j:=by rw[seqIndex_neg (by lia) g]at h1;rw[C9,<-o];exact F3 h1
 exact subscriptTail_builtinR (x:=w) l.isList.typeIs slot_list_getitem.lookup (wpAny_getItem_list_neg (Q:=λr s'=>r=w/\EP X a σ Q r s') l.isList (by lia) (by rw[C9]<;>lia) (by lia) (by rw[L];simpa using d) ⟨rfl,n⟩) hs
theorem Lb:MS X (rIxT X.K):=by
 intro c e a s σ H x y v u Q I m o h hs;obtain⟨p,xs,i,z,rfl,rfl,k,f,q⟩:=h;cases m;obtain⟨t,rfl⟩:=o;obtain⟨its,r,l,E⟩:=I.tuple k;obtain⟨j,h1,h2,A,B,C⟩:=vd f;obtain⟨w,d,b⟩:=r.get h2;have g:=r.length;have D:=om;have n:EP X a σ Q w s:=⟨z,H,I,b,q⟩
 exact subscriptTail_builtinR (x:=w) l.typeIs slot_tuple_getitem.lookup (getItem_tuple (j:=j) (Q:=λr s'=>r=w/\EP X a σ Q r s') l (by lia) (by lia) (by rw[C9,<-g];exact h1) (by simpa using d) ⟨rfl,n⟩) hs
theorem Lc:MS X rIxS:=by
 intro a e p s σ H x y v u Q I r m h hs;obtain⟨z,i,c,rfl,rfl,w,f,q⟩:=h;obtain⟨t,rfl⟩:=r;obtain⟨t',rfl⟩:=m;obtain⟨j,h1,h2,n,d,k⟩:=vd f;have g:z.cps.toList.length=z.length:=by simp[Str.length]
 rw[g]at h1 d k;have o:=om;exact tail_any (typeIs_str s z t) slot_str_getitem.lookup (getItem_str (c:=c) (by have b:decide (i < -(2 ^ 63:Int))=b7:=dF_ (by lia);have l:decide (i ≥ 2 ^ 63)=b7:=dF_ (by lia);rw[b,l,Bool.or_false]) (by rw[h1];simpa using h2) ⟨.str ⟨#[c]⟩,H,I.tok _,⟨_,rfl⟩,q⟩) hs
def rIx(K:v9):R2:=λx y H Q=>rIxL K x y H Q\/rIxT K x y H Q\/rIxS x y H Q
theorem Ld:MS X (rIx X.K):=Hl.or<|Lb.or Lc
theorem xH(its:List b9)(n j:Nat)(u:b9):MM (·.setIfInBounds j u) { cls:=.type "list",data:=.seq its.toArray n }={ cls:=.type "list",data:=.seq (its.set j u).toArray n }:=by simp[MM]
theorem u6.lst(I:u6 X pins σ H s)(h:H p=a7 (.lst xs)):∃(its:List b9) (n:Nat),ax xs its/\s.heap.get? p=a7 { cls:=.type "list",data:=.seq its.toArray n }/\xs.length<=sizeLine:=by obtain⟨z,its,n,r,e⟩:=I.hok p _ h;exact⟨its,n,r,e,z⟩
theorem u6.lstUpd{pins:List (d7×d8)}{σ:St}{H:Hp}{s:g8}{p:d7}{xs ys:List V}{its its':List b9}{n a:Nat}{f:d8->d8}(I:u6 X pins σ H s)(h:H p=a7 (.lst xs))(B:s.heap.get? p=a7 { cls:=.type "list",data:=.seq its.toArray n }) (c:f { cls:=.type "list",data:=.seq its.toArray n }={ cls:=.type "list",data:=.seq its'.toArray a }) (r:ax ys its') (hz:ys.length<=sizeLine) (t:Nat):u6 X pins σ (A0 H p<|.lst ys) { s with heap:=s.heap.update p f,toks:=t }:=by
 have e:(s.heap.update p f).get? p=a7 { cls:=.type "list",data:=.seq its'.toArray a }:=by rw[MX f B (by rw[c]<;>rfl),c]
 refine I.write (x:=p) (e:=p) (by rw[h];trivial) (.inl rfl) (λb u d q=>(Py _ _<|D3 d).trans q) ⟨_,e⟩ ?_;exact⟨hz,its',a,r,e⟩
def rSetL:V->V->V->Hp->(Hp->Prop)->Prop:=λo i v H Q=>∃p xs k j,o=.ref p/\i=.int k/\H p=a7 (.lst xs)/\Nm xs.length k=a7 j/\Q (A0 H p<|.lst<|xs.set j v)
theorem CB:PSet X rSetL:=by
 intro a s σ H o i v C A u Q I w m x h;obtain⟨p,xs,k,j,rfl,rfl,l,L,q⟩:=h;cases w;obtain⟨t,rfl⟩:=m;obtain⟨its,n,r,B,z⟩:=I.lst l;obtain⟨h1,h2,e,f⟩:=Bg L;have g:=r.length;have y:=om;have c:u6 X a σ (A0 H p<|.lst<|xs.set j v) { s with heap:=s.heap.update p (MM (·.setIfInBounds j u)) }:=I.lstUpd l B (xH its n j u) (r.set x j) (by rw[MU];exact z) s.toks;by_cases d:0<=k;have b:k.toNat=j:=by rw[seqIndex_of d f]at h1;exact F3 h1
 exact PySem.W.ki_setAt B d (by lia) (by rw[C9,<-g];exact f) (by rw[b];exact⟨_,c,q⟩);have b:(k+(its.toArray.size:Int)).toNat=j:=by rw[seqIndex_neg (by lia) e]at h1;rw[C9,<-g];exact F3 h1
 exact PySem.W.ki_setBack B (by lia) (by rw[C9,<-g];exact e) (by lia)<|by rw[b];exact⟨_,c,q⟩
theorem rH(lo hi:Option Int)(n:Nat):(o0 lo hi a8 n).1=((HT.sIx n 0 lo:Nat):Int)/\(o0 lo hi a8 n).2.1=((HT.sIx n n hi:Nat):Int)/\(o0 lo hi a8 n).2.2=1:=by
 refine⟨?_,?_,rfl⟩;cases lo with
 |none=>simp[o0,HT.sIx]
 |some i=>simp only[o0,HT.sIx,Option.getD_none,show (1:Int) > 0 by decide,t6];by_cases h:i<0;simp only[h,t6]<;>lia;simp only[h,t5]<;>lia
 cases hi with
 |none=>simp[o0,HT.sIx]
 |some i=>simp only[o0,HT.sIx,Option.getD_none,show (1:Int) > 0 by decide,t6];by_cases h:i<0;simp only[h,t6]<;>lia;simp only[h,t5]<;>lia
theorem oP(its:List b9)(lo hi:Option Int):slicePick its.toArray lo hi a8=((its.drop<|HT.sIx its.length 0 lo).take<|HT.sIx its.length its.length hi-HT.sIx its.length 0 lo).toArray:=by obtain⟨h1,h2,a⟩:=rH lo hi its.toArray.size;unfold slicePick;rw[h1,h2,a];simp only[sliceRange_one,pick_run,C9]<;>rfl
def rSlL(K:v9):V->Option Int->Option Int->Hp->VK->Prop:=λx l hi H Q=>∃a xs,x=.ref a/\J1 K H a xs/\∀p,H p=a8->Q (.ref p) (A0 H p<|.lst<|Fm xs l hi)
theorem FK:PN X (rSlL X.K):=by intro p s σ H x v f i l hi m Q I g hs d u h;obtain⟨a,xs,rfl,c,q⟩:=h;cases g;obtain⟨its,r,D,z⟩:=I.list c;have n:=r.length;refine⟨"list",_,slot_list_getitem.lookup,D.isList.typeIs,?_⟩;refine wpAny_getItem_list_slice D.isList hs d u .none (by simp) ?_ (by rw[C9]<;>lia);rw[oP,<-n];refine⟨.ref s.heap.objs.size,_,I.laid (t':=s.toks) (o:=.lst<|Fm xs l hi) (λb e q=>A9 _ q) (z5 _) ?_,rfl,q _<|I.hok.fresh<|z5 _⟩;exact⟨MF (mQ xs l hi) z,_,0,(r.drop<|HT.sIx xs.length 0 l).take<|HT.sIx xs.length xs.length hi-HT.sIx xs.length 0 l,E1 _ rfl⟩
theorem sS:df X (.builtin "len") (λxs H Q=>∃p ys,xs=[.ref p]/\(J1 X.K H p ys\/E2 X.K H p ys)/\Q (.int ys.length) H):=by intro b s σ H xs us Q I r h;obtain⟨p,ys,rfl,a,q⟩:=h;obtain⟨u,rfl,g⟩:=yz r;cases g;have f:=om;rcases a with a|a;obtain⟨its,r',l,z⟩:=I.list a;have n:=r'.length;exact Calls.call_len_list l.isList (by simp only[C9]<;>lia) ⟨.int ys.length,H,I.tok _,⟨s.toks+1,by rw[C9,n]⟩,q⟩;obtain⟨its,r',l,z⟩:=I.tuple a;have n:=r'.length;exact len_tuple l (by simp only[C9]<;>lia) ⟨.int ys.length,H,I.tok _,⟨s.toks+1,by rw[C9,n]⟩,q⟩
theorem sR:df X (.builtin "len") (λxs H Q=>∃z,xs=[.str z]/\z.length<=sizeLine/\Q (.int z.length) H):=by intro p s σ H xs us Q I r h;obtain⟨z,rfl,b,q⟩:=h;obtain⟨u,rfl,t,rfl⟩:=yz r;have f:=om;exact len_str (by lia) ⟨.int z.length,H,I.tok _,⟨_,rfl⟩,q⟩
theorem df.or(h:df X f r)(h':df X f r'):df X f (λxs H Q=>r xs H Q\/r' xs H Q):=by intro p s σ H xs us Q I a q;rcases q with q|q;exact h p s σ H xs us Q I a q;exact h' p s σ H xs us Q I a q
theorem sQ:df X (.type "list") (λxs H Q=>∃p ys,xs=[.ref p]/\(J1 X.K H p ys\/E2 X.K H p ys)/\∀l,H l=a8->Q (.ref l) (A0 H l<|.lst ys)):=by
 intro d s σ H xs us Q I r h;obtain⟨p,ys,rfl,c,q⟩:=h;obtain⟨u,rfl,x⟩:=yz r;cases x;have f:∀(its:List b9),ax ys its->ys.length<=sizeLine->∀(h':d9) (U:Nat),(∀b o',s.heap.get? b=a7 o'->h'.get? b=a7 o') -> h'.get? s.heap.objs.size=a7 { cls:=.type "list",dict:=a8,data:=.seq its.toArray U,slots:=#[] }->EP X d σ Q (.ref s.heap.objs.size) { s with heap:=h' }:=λits r' z h' U k e =>
  ⟨.ref s.heap.objs.size,_,I.laid (t':=s.toks) k (z5 _)<|show bX X.prog X.w _ h' _ (.lst ys)from⟨z,its,U,r',e⟩,rfl,q _<|I.hok.fresh<|z5 _⟩
 rcases c with c|c;obtain⟨its,r',j,z⟩:=I.list c;have a:=r'.length;obtain⟨o,B,g,n,i⟩:=j.isList;exact call_list_seq p (.inl rfl) B g i (λh' U k e=>f its r' z h' U k e) (by simp only[C9]<;>lia);obtain⟨its,r',j,z⟩:=I.tuple c;have a:=r'.length;obtain⟨o,B,g,n,i⟩:=j;exact call_list_seq p (.inr rfl) B g i (λh' U k e=>f its r' z h' U k e)<|by simp only[C9]<;>lia
theorem pQ:df X (.type "tuple") (λxs H Q=>∃p ys,xs=[.ref p]/\((J1 X.K H p ys/\∀l,H l=a8->Q (.ref l) (A0 H l<|.tup ys))\/(E2 X.K H p ys/\Q (.ref p) H))):=by
 intro a s σ H xs us Q I r h;obtain⟨p,ys,rfl,h⟩:=h;obtain⟨u,rfl,x⟩:=yz r;cases x;rcases h with⟨c,q⟩|⟨c,q⟩
 obtain⟨its,r',d,z⟩:=I.list c;have n:=r'.length;refine call_tuple_list d.isList (λh' k=>?_) (by simp only[C9]<;>lia);have f:u6 X a σ H { s with heap:=h' }:=I.kept (t':=s.toks) k;have g:u6 X a σ (A0 H h'.objs.size<|.tup ys) { s with heap:=h'.push { cls:=.type "tuple",data:=.seq its.toArray } }:=f.laid (t':=s.toks) (λb o e=>A9 _ e) (z5 _)<|show bX X.prog X.w _ _ _ (.tup ys)from⟨z,its,r',Fq.new _ _⟩;exact⟨.ref h'.objs.size,_,g,rfl,q _<|f.hok.fresh<|z5 _⟩;obtain⟨its,r',d,z⟩:=I.tuple c;exact call_tuple_same d ⟨.ref p,H,I,rfl,q⟩
def RW(K:v9)(T:String)(x:V)(H:Hp):Prop:=match x with
 |.str _=>T = "str"
 |.int _=>T = "int"
 |.ref p=>(T = "list"/\∃xs,J1 K H p xs)\/(T = "tuple"/\∃o,K.lookup p=a7 o/\o.cls=.type "tuple"/\o.dict=a8) \/(T = "dict"/\((∃kvs,H p=a7 (.dK kvs))\/∃kvs,H p=a7 (.dT kvs)))\/(T = "set"/\∃S n,H p=a7 (.set S n))
 |_=>False
theorem Jb(I:u6 X pins σ H s)(r:aQ x v)(y:RW X.K T x H):s.TypeIs v T/\∀a,v=.ref a->∃ob,s.heap.get? a=a7 ob/\ob.dict=a8:=by
 cases x with
 |str z=>obtain⟨t,rfl⟩:=r;cases (show T = "str" from y);exact⟨typeIs_str s z t,λ_ e=>nomatch e⟩
 |int i=>obtain⟨t,rfl⟩:=r;cases (show T = "int" from y);exact⟨typeIs_int s i t,λ_ e=>nomatch e⟩
 |ref p =>
  cases r;rcases y with⟨rfl,xs,q⟩|⟨rfl,o,k,h,d⟩|⟨rfl,k⟩|⟨rfl,S,n,k⟩
  obtain⟨its,_,f,_⟩:=I.list q;refine⟨f.isList.typeIs,λa e=>?_⟩;cases e;obtain⟨o,n,e,c,d,_⟩:=f;exact⟨o,e,d⟩;refine⟨⟨o,I.kIn p o k,h⟩,λa e=>?_⟩;cases e;exact⟨o,I.kIn _ o k,d⟩;have z:∃o,s.heap.get? p=a7 o/\o.ExactDict:=by
   rcases k with⟨kvs,k⟩|⟨kvs,k⟩
   obtain⟨_,_,_,_,o,_,_,e,b,_⟩:=I.hok p _ k;exact⟨o,e,b⟩;obtain⟨_,_,_,_,o,_,_,e,b,_⟩:=I.hok p _ k;exact⟨o,e,b⟩
  obtain⟨o,e,b⟩:=z;refine⟨⟨o,e,b.1⟩,λa l=>?_⟩;cases l;exact⟨o,e,b.2.1⟩;obtain⟨o,_,_,_,e,b,_⟩:=I.hok p _ k;refine⟨⟨o,e,b.1⟩,λa l=>?_⟩;cases l;exact⟨o,e,b.2.1⟩
 |_=>exact NV y
def tBM(K:v9)(T:String)(r:V->List V->Hp->VK->Prop)(e:TE)(t:TA):TE:=λσ H Q=>e σ H λx a=>RW K T x a/\t σ a λxs b=>r x xs b Q
variable{o e:i9}{es:List i9}{to:TE}{t:TA}{name:c9}{apos cpos:Pos}{T id:String}{r:V->List V->Hp->VK->Prop}
theorem JW(q:PlainAttrs T)(slot:Slot T name id)(y:typeOf (.builtin id)=pure (.type "method_descriptor"))(l:Nd X id r)(B:PE X o to)(k:PA X (e::es) t)(b:o4 o name X.env (eval o X.env)=eval o X.env:=by rfl)(w:((j5 cpos<|j6 (e::es) X.env).all (λx=>!x.1)&&(backToKw cpos<|o5 [] X.env).all (λx=>x.1.isSome) && decide ((e::es).length+([]:List o6).length+(if ([]:List o6).isEmpty then 0 else 1)<30))=a9:=by rfl)(c:(apos.endLine==cpos.line)=a9:=by rfl) (hs:j6 (e::es) X.env=(b7,eval e X.env)::j6 es X.env:=by rfl) (n:(j5 cpos<|j6 es X.env).any (·.1)=b7:=by rfl):PE X (.Call (.Attribute o name apos) (e::es) [] cpos) (tBM X.K T r to t):=by intro p s σ H Q I h;refine wpAny_Call_method_late b w c rfl<|z6 (B p s σ H _ I h) ?_;rintro v D ⟨x,g,d,f,F,u⟩;obtain⟨h1,h2⟩:=Jb d f F;refine⟨T,id,q,slot,y,h1,h2,?_⟩;have A:=k cpos p D σ g _ d u;rw[hs]at A ⊢;refine RP (by show (b7||(j5 cpos<|j6 es X.env).any (·.1))=b7;rw[n]<;>rfl)<|Calls.evalArgs_plain ?_;refine z6 A ?_;rintro us E ⟨vs,i,j,C,z⟩;exact l p E σ i x vs v us Q j f C z
/- xs.append(e),list.index on a module's tuple .. are Nd facts of 06m -/
end
def RZ(X:Cx)(id:String)(r:V->List V->Hp->VK->Prop):Prop:=∀(p:List (d7×d8)) (s:g8) (σ:St) (H:Hp) (x:V) (xs:List V) (v:b9) (us:List b9) (Q:VK),u6 X p σ H s->aQ x v->ax xs us->r x xs H Q ->i7 (j2 X.prog X.w) X.A (call (.builtin id)<|v::us) (EP X p σ Q) X.xe s
theorem ax.one(h:ax [x] us):∃u,us=[u]/\aQ x u:=by
 cases h with
 |cons r t=>cases t;exact⟨_,rfl,r⟩
theorem ax.two(h:ax [x,y] us):∃u v,us=[u,v]/\aQ x u/\aQ y v:=by
 cases h with
 |cons r t=>obtain⟨v,e,q⟩:=ax.one t;subst e;exact⟨_,v,rfl,r,q⟩
theorem u6.lset{its its':List b9}{n:Nat}{f:Array b9->Array b9}{t':Nat}(I:u6 X pins σ H s)(h:H l=a7 (.lst xs))(e:s.heap.get? l=a7 { cls:=.type "list",data:=.seq its.toArray n }) (a:f its.toArray=its'.toArray) (c:ax ys its') (hz:ys.length<=sizeLine):u6 X pins σ (A0 H l<|.lst ys) { s with heap:=s.heap.update l<|MM f,toks:=t' }:=by have q:=PySem.IsL.update e f;rw[a]at q;refine I.write (x:=l) (e:=l) (by rw[h];exact trivial) (.inl rfl) (λb u d g=>(Py s.heap (MM f)<|D3 d).trans g) ⟨_,q⟩ ?_;exact⟨hz,its',_,c,q⟩
theorem u6.lnew(I:u6 X pins σ H s)(c:ax ys its)(hz:ys.length<=sizeLine):u6 X pins σ (A0 H s.heap.objs.size<|.lst ys) { s with heap:=s.heap.push { cls:=.type "list",data:=.seq its.toArray },toks:=t' }:=I.laid (λ_ _ q=>A9 _ q) (z5 _) ⟨hz,its,0,c,E1 _ rfl⟩
theorem u6.fresh(I:u6 X pins σ H s):H s.heap.objs.size=a8:=I.hok.fresh<|z5 _
theorem u6.lstM(I:u6 X pins σ H s)(h:H l=a7 (.lst xs)):xs.length<=sizeLine/\∃(its:List b9) (n:Nat),ax xs its/\xs.length=its.length/\s.heap.get? l=a7 { cls:=.type "list",data:=.seq its.toArray n }:=by obtain⟨z,its,n,r,e⟩:=I.hok l _ h;exact⟨z,its,n,r,r.length,e⟩
theorem Df(h:n<=sizeLine):RS n=b7:=by unfold RS;exact dF_<|by lia
def FO:V->List V->Hp->VK->Prop:=λx vs H Q=>∃l xs y,x=.ref l/\vs=[y]/\H l=a7 (.lst xs)/\xs.length<sizeLine/\Q .non (A0 H l<|.lst<|xs++[y])
theorem Ay:RZ X "list.append" FO:=by intro p s σ H x vs v us Q I g d h;obtain⟨l,xs,y,rfl,rfl,a,c,q⟩:=h;cases g;obtain⟨u,rfl,T⟩:=d.one;obtain⟨z,its,n,r,b,e⟩:=I.lstM a;refine call_meets F.slot_list_append ⟨_,e,rfl⟩ F.entry_list_append (F.args_list_append_2 _ _) (PySem.list_append l its.toArray n u<|by rw[C9];lia) ⟨e,?_⟩;refine⟨.non,_,I.lset (its':=its++[u]) a e (by simp) (r.append<|.cons T .nil) ?_,rfl,q⟩;rw[A7,J4];lia
def FN:V->List V->Hp->VK->Prop:=λx vs H Q=>∃l b xs s,x=.ref l/\vs=[.ref b]/\H l=a7 (.lst xs)/\H b=a7 (.lst s)/\xs.length+s.length<=sizeLine/\Q .non (A0 H l<|.lst<|xs++s)
theorem Ax:RZ X "list.extend" FN:=by
 intro p s σ H x vs v us Q I k j h;obtain⟨l,b,xs,A,rfl,rfl,c,B,w,q⟩:=h;cases k;obtain⟨u,rfl,T⟩:=j.one;cases T;obtain⟨z,its,n,r,t,e⟩:=I.lstM c;obtain⟨y,i,o,m,f,d⟩:=I.lstM B;have a:its.toArray.size+i.toArray.size<=sizeLine:=by rw[C9,C9];lia
 have g:¬(!its.toArray.isEmpty&&RS (its.toArray.size+i.toArray.size))=a9:=by rw[Df a,Pn];exact K0
 refine call_meets F.slot_list_extend ⟨_,e,rfl⟩ F.entry_list_extend (F.args_list_extend_2 _ _) (AutoSeq1.list_extend_list_list_0 l its.toArray n b i.toArray o g (by rw[C9];lia)<|by lia) ⟨e,d,?_⟩;refine⟨.non,_,I.lset (its':=its++i) c e (by simp) (r.append m) ?_,rfl,q⟩;rw[A7];lia
def rCat:R2:=λx y H Q=>∃l b xs s,x=.ref l/\y=.ref b/\H l=a7 (.lst xs)/\H b=a7 (.lst s)/\xs.length+s.length<=sizeLine/\∀p,H p=a8->Q (.ref p) (A0 H p<|.lst<|xs++s)
theorem Kg:E4 X (m3 .Add) rCat:=by
 intro p s σ H x y v u Q I g j h;obtain⟨l,b,xs,A,rfl,rfl,d,B,o,q⟩:=h;cases g;cases j;obtain⟨z,its,n,r,k,e⟩:=I.lstM d;obtain⟨w,i,t,m,f,a⟩:=I.lstM B;refine PySem.P.add_list e a ?_ (by rw[C9,C9];lia);have c:its.toArray++i.toArray=(its++i).toArray:=by simp
 rw[c];exact⟨.ref _,_,I.lnew (t':=s.toks) (r.append m) (by rw[A7];lia),rfl,q _ I.fresh⟩
end L2
namespace Att
open PySem PySem.W PySem.Calls PyProof.Rows
theorem mG:∀(ns:List Int) (vs:List b9),WellAll P h vs (ns.map WData.int)->IntsAre vs ns:=by
 intro ns;induction ns with
 |nil=>intro vs w;rw[Oc]at w;cases w;exact .nil
 |cons n ns i =>
  intro vs w;rw[B9]at w;cases w with
  |cons a b=>cases a;exact .cons _ _<|i _ b
theorem zC{l:OpenLaw}{n:Nat}(o:l.most=a7 n){P:Params}{h:d9}{args:List WData}{s:List b9}(e:l.row.toRowW.claim.pre args=a9) (i:WellAll P h s args):∃a vs ns,s=[I0 a]/\args=[WData.list<|ns.map WData.int]/\h.get? a=a7 { cls:=.type "list",data:=.seq vs.toArray }/\IntsAre vs ns/\ns.length<=n:=by
 have g:WShape.hasAll [] args [.list .int]=a9:=(pre_splitW e).1;have j:l.pre.holds [] { args:=args }=a9:=(pre_splitW e).2;obtain⟨d,r,rfl,h1,h2⟩:=hasAllW_cons g;obtain rfl:=hasAllW_nil h2;obtain⟨xs,rfl,m⟩:=hasW_list h1;obtain⟨ns,rfl⟩:=items_int m;have c:ns.length<=n:=by
  unfold OpenLaw.pre at j;have f:(WTm.not<|.lt (.lit<|.int (n:Int))<|.len<|.arg 0).holds [] { args:=[.list<|ns.map .int] }=a9:=by have f:=(holds_andW j).1;rw[o]at f;exact f
  have k:=condW_of f<|w_not<|w_lt w_lit<|w_len_list<|w_arg rfl;rw[x6]at k;refine Nat.le_of_not_lt λq=>?_;have p:(n:Int)<((ns.length:Nat):Int):=by lia
  first
   |(rw[dT_ p]at k;exact r9 k (by decide))
   |(simp at k;lia)
 cases i with
 |cons w t =>
  cases t;cases w with
  |list B b=>exact⟨_,_,ns,rfl,rfl,B,mG ns _ b,c⟩
theorem zR(l:OpenLaw)(args:List WData):l.row.toRowW.claim.post args (.bool a9) args=a9:=postW_of (r:=l.row.toRowW) (X:=(a9==a9))
  (show WShape.has [] (.bool a9) .bool=a9 by first|rfl|decide|simp[WShape.has,WShape.arms,WShape.armsAll])
  (show (WTm.eq .res<|.lit<|.bool a9).value [] { args:=args,res:=a7<|.bool a9,after:=args }=a7 (.bool<|a9==a9)from w_eq_bool (w_res rfl) w_lit) rfl
theorem attach_call{l:OpenLaw}{n:Nat}{q:d6}{e:List c9}{P:(c9->Option b9)->d9->Prop}{YP:d5->d9->Prop}{d:DefRec}(A:l.most=a7 n) (i:d.params.defaults=[])(c:∀(w:d5) (s₀ s₁:g8) (mg mb:c9->Option b9) (fa:d7) (o:d8) (pm cd doc:b9) (a:d7) (vs:List b9) (ns:List Int),Ground q e [] P w s₀ mg mb s₁.heap->YP w s₁.heap -> s₁.heap.get? fa=a7 o->o.data=.func (docDef d.name d.params d.body d.scope pm cd doc)->s₁.heap.CodeRec cd d.name->mg d.name=a7 (.ref fa) ->s₁.heap.get? a=a7 { cls:=.type "list",data:=.seq vs.toArray }->IntsAre vs ns->ns.length<=n->s₁.gens = #[] ->n3 (j2 l.prog w) callerA (.call (.ref fa) ⟨[.ref a],[]⟩) (λr s'=>r=.ok (.ret<|.bool a9)/\OldK s₁.heap s'.heap/\s'.os=s₁.os/\i5 s'.gens) s₁):WalkO q e P YP l.row.toRowW d [] (λf vs=>PySem.call f vs):=by intro w s₀ s₁ mg mb G Y fa o pm cd doc T kV B u g D k S O v F b y E m x;obtain rfl:T=.none:=Dflts.none D i;obtain rfl:kV=.none:=Dflts.noKw D;obtain⟨a,vs,ns,rfl,rfl,j,s,h⟩:=zC A b m;refine enter_call<|Pj (c w s₀ s₁ mg mb fa o pm cd doc a vs ns G Y B (fd_plain u) g k j s h S) λr s' C=>?_;obtain⟨rfl,h2,p,t⟩:=C;exact⟨.inl ⟨.bool a9,.bool a9,[],rfl,λ_=>rfl,.bool a9,zR l _,λ_=>⟨Re,λ_ z=>(nomatch z)⟩⟩,h2,p,t⟩
noncomputable def wu(h:d9):d9:={ h with objs:=#[] }
theorem iX(h:d9)(b:d7):(wu h).get? b=a8:=by
 cases e:(wu h).get? b with
 |none=>rfl
 |some o=>exact r9 (C2 e)<|Og _
noncomputable def ledger(h:d9)(L d:d7):List (d7×d8):=(C3 h.objs.size).filterMap λa=>if a=L\/a=d then a8 else(h.get? a).map λo=>(a,o)
theorem mem_ledger:(a,o)∈ledger h L d↔a≠L/\a≠d/\h.get? a=a7 o:=by unfold ledger;rw[List.mem_filterMap];constructor;rintro⟨b,_,e⟩;split at e;cases e;rename_i c;obtain⟨o',B,f⟩:=O4.mp e;cases f;exact⟨λq=>c<|.inl q,λq=>c<|.inr q,B⟩;rintro⟨n1,n2,B⟩;refine⟨a,I9.mpr<|C2 B,?_⟩;rw[q9<|show ¬(a=L\/a=d)from λq=>q.elim n1 n2,B]<;>rfl
theorem news_ledger(b:d≠L)(B:h.get? d=a7 od):News (wu h) L h ([]++(d,od)::ledger h L d):=by rintro⟨a,o⟩ p;rcases A5.mp p with e|p;cases e;exact⟨B,b,iX _ _⟩;obtain⟨n,c,e⟩:=mem_ledger.mp p;exact⟨e,n,iX _ _⟩
theorem fr_all(n:h.Ns L m):Fr (wu h) L h m:=⟨n,λb o e=>(by rw[iX]at e;cases e),D4 _⟩
end Att
namespace L2
open PySem PySem.Spec PyProof.Rows
theorem eK:∀{vs:List b9}{ns:List Int},IntsAre vs ns->ax (ns.map V.int) vs
 |_,_,.nil=>.nil
 |_,_,.cons n t h=>.cons ⟨t,rfl⟩<|eK h
def Only(H:Hp):Prop:=∀b,H b=a8\/∃o xs,H b=a7 (.frz o<|.lst xs)
theorem Dz{P:d6}{w:d5}{K:v9}{mg mb:c9->Option b9}{CX:NQ}{k:Nat}{I a:d7}{R:n0}{x:c9}{sp:Sp}{s₁:g8}{vs:List b9}{ns:List Int}(O:K.In s₁.heap) (y:s₁.heap.Ns f7 mg) (c:s₁.heap.Ns builtinsNs mb) (J:∀x:c9,x≠"__name__"->mb x=f8 x) (t:s₁.heap.NoLimit) (hg:s₁.gens = #[])(D:s₁.heap.get? a=a7 { cls:=.type "list",data:=.seq vs.toArray }) (hi:IntsAre vs ns) (U:ns.length<=sizeLine) (hr:Room k callerA)(F:∀base:d9,K.In base->base.Ns f7 mg->FnOk P w K mg base CX k I R [x] sp) (j:∀(s:g8) (u:b9),BindsTo s R ⟨[u],[]⟩ [(x,u)])(M:∀H:Hp,Only H->J1 K H a (ns.map V.int)->sp [.ref a] H (λv _=>v=.bl a9) λ_ _ _=>False)(X:∀H e s',CX [] H s₁ (λ_ _ _=>False) e s'->False):n3 (j2 P w) callerA (.call (.ref I) ⟨[.ref a],[]⟩) (λr s'=>r=.ok (.ret<|.bool a9)/\OldK s₁.heap s'.heap/\s'.os=s₁.os/\i5 s'.gens) s₁:=by
 have W:=eK hi;have C:=hi.length
 -- from an abstract heap in which nothing but the script may be tracked
 have i:∀H:Hp,Only H->J1 K H a (ns.map V.int)->E8 P w H s₁.heap->(∀b,H b≠a8->b=a)->(H a≠a8->K.lookup a=a8) -> n3 (j2 P w) callerA (.call (.ref I) ⟨[.ref a],[]⟩) (λr s'=>r=.ok (.ret<|.bool a9)/\OldK s₁.heap s'.heap/\s'.os=s₁.os/\i5 s'.gens) s₁:=by
  intro H T hS A S hK;have f:∀{b:d7}{o:d8},s₁.heap.get? b=a7 o->H b=a8->(Eb s₁.heap H).get? b=a7 o:=λe n=>Ea e n;have N:∀{b:d7}{o:d8}{es:Array o7}{ep:Nat},s₁.heap.get? b=a7 o->o.data=.dict es ep->H b=a8:=λ{b o es ep} e d=>by
   cases q:H b with
   |none=>rfl
   |some u=>have E:b=a:=S b (by rw[q];simp);subst E;rw[D]at e;cases e;have Z:Data.seq vs.toArray _=Data.dict es ep:=d;cases Z
  have g:∀{b:d7}{m:c9->Option b9},s₁.heap.Ns b m->(Eb s₁.heap H).Ns b m:=λ{b m} ⟨o,es,ep,e,d,r⟩=>⟨o,es,ep,f e<|N e d,d,r⟩
  have p:K.In (Eb s₁.heap H):=λb o e=>f (O b o e) (by
   cases q:H b with
   |none=>rfl
   |some u=>have E:b=a:=S b (by rw[q];simp);subst E;rw[hK<|by rw[q];simp]at e;cases e)
  have hM:Mod K mg (Eb s₁.heap H):=⟨p,g y,⟨mb,g c,J⟩,let ⟨mc,h1,h2⟩:=t;⟨mc,g h1,h2⟩⟩
  have e0:Env0 P w K mg (Eb s₁.heap H) callerA [] s₁ H:=⟨rfl,hM,λb o e=>Gx e,Nat.le_of_eq<|Bp _ _,trivial,λb c=>r9 (show b∈([]:List d7)from c) (by simp),A,.of_eq hg⟩
  refine Pj ((F _ p<|g y).run callerA [] s₁ H ⟨[.ref a],[]⟩ [.ref a] [.ref a] _ _ hr e0 (j s₁<|.ref a) (.cons rfl .nil)<|M H T hS) λr s' h=>?_;cases r with
  |error e=>exact(X H e s' h).elim
  |ok fl =>
   cases fl with
   |next=>exact NV h
   |brk=>exact NV h
   |cont=>exact NV h
   |ret u =>
    obtain⟨v,H',os,l,Y,B,r',q⟩:=h;have q':v=.bl a9:=q;subst q';obtain rfl:u=Pg a9:=r';refine⟨rfl,OldK.of_keep λb o e=>?_,os,l⟩;cases q:H b with
    |none=>exact Y.keep b o e q (by intro z;exact r9 (show b∈([]:List d7)from z)<|by simp)<|by simp
    |some u =>
     rcases T b with z|⟨ob,xs,z⟩
     rw[q]at z;cases z;have z2:=Y.frzs b ob _ z;obtain⟨Q,_⟩:=A b _ z;obtain⟨e2,_⟩:=B b _ z2;rw[e]at Q;cases Q;exact e2
 cases L:K.lookup a with
 |some o =>
  -- the script is one of the module's own objects
  have e:=O a o L;rw[D]at e;cases e;refine i (λ_=>a8) (λ_=>.inl rfl) (.inr ⟨_,vs.toArray,_,L,rfl,rfl,rfl,by rw[C9,C];exact U,by simpa using W⟩) (λb u z=>by have G:(a8:Option HO)=a7 u:=z;cases G) (λb z=>r9 rfl z) λz=>r9 rfl z
 |none=>refine i (λb=>if b=a then a7 (.frz { cls:=.type "list",data:=.seq vs.toArray }<|.lst<|ns.map V.int)else a8) (λb=>?_) (.inl<|.inr ⟨{ cls:=.type "list",data:=.seq vs.toArray },p9 rfl⟩) (λb u z=>?_) (λb z=>?_) λ_=>L;by_cases c:b=a;exact .inr ⟨_,_,p9 c⟩;exact .inl<|q9 c;by_cases c:b=a;have G:=(p9 c).symm.trans z;cases G;subst c;exact⟨D,by rw[x6];exact U,vs,_,W,D⟩;have G:=(q9 c).symm.trans z;cases G;by_cases c:b=a;exact c;exact r9 (q9 c) z
noncomputable abbrev KOf{K:v9}{h:d9}(_:K.In h):v9:=K
theorem walk_of{l:PySem.W.OpenLaw}{n k:Nat}{q:d6}{j:List c9}{P:(c9->Option b9)->d9->Prop}{YP:d5->d9->Prop}{d:DefRec}{K:Params->v9}{CX:d5->NQ}{sp:d5->Sp}{x:c9}(L:l.most=a7 n) (t:n<=sizeLine) (p:d.params.defaults=[]) (M:Room k callerA)(D:∀(w:d5) (h:d9),YP w h->(K w.params).In h)(F:∀(w:d5) (mg:c9->Option b9) (fa:d7) (h:d9),(K w.params).In h->h.Ns f7 mg->mg d.name=a7 (.ref fa) -> ∃fd:n0,(∀(s:g8) (u:b9),BindsTo s fd ⟨[u],[]⟩ [(x,u)]) /\∀base:d9,(K w.params).In base->base.Ns f7 mg->FnOk l.prog w (K w.params) mg base (CX w) k fa fd [x] (sp w))(z:∀(w:d5) (H:Hp) (a:d7) (ns:List Int),ns.length<=n->Only H->J1 (K w.params) H a (ns.map V.int)->sp w [.ref a] H (λv _=>v=.bl a9) λ_ _ _=>False)(X:∀(w:d5) (H:Hp) (s:g8) (e:b9) (s':g8),CX w [] H s (λ_ _ _=>False) e s'->False):PySem.W.WalkO q j P YP l.row.toRowW d [] (λf vs=>PySem.call f vs):=by refine Att.attach_call L p λw A s₁ mg mb fa o U N B a vs ns G Y R Q I r m i c J=>?_;have y:=D w _ Y;obtain⟨fd,E,C⟩:=F w mg fa _ y G.T.g r;exact Dz y G.T.g G.T.b G.T.builtins G.T.nolimit J m i (MF c t) M C E (λH O S=>z w H a ns c O S) λH e s'=>X w H s₁ e s'
noncomputable def gM(s:j7):Arguments:=match s with
 |.FunctionDef _ a _ _ _ _ _ _ _ _=>a
 |_=>{ posonlyargs:=[],args:=[],vararg:=a8,kwonlyargs:=[],kw_defaults:=[],kwarg:=a8,defaults:=[] }
noncomputable def bU(s:j7):List j7:=match s with
 |.FunctionDef _ _ b _ _ _ _ _ _ _=>b
 |_=>[]
noncomputable def aC(s:j7):g9:=match s with
 |.FunctionDef _ _ _ _ _ _ sc _ _ _=>sc
 |_=>{ kind:=.function,names:=[],isGenerator:=b7,isCoroutine:=b7 }
abbrev L5:NQ:=λ_ _ _ _ _ _=>False
abbrev E0:XK:=λ_ _ _=>False
theorem pass0:Cc L5 X E0:=λ_ _ _ _ _ _ _ h=>h.elim
structure Nq(K:v9)(x qual:c9)(st:j7)(f:d7)(fd:n0):Prop where
 ex:∃(oc:b9) (od:Option d7) (kV doc pm:b9) (an:Option d7) (cdv ct:b9) (osl:Array (Option b9)),fd=Od x qual (gM st) (bU st) (aC st) .none kV doc pm an cdv ct/\K.lookup f=a7 ⟨oc,od,.func fd,osl⟩/\QY K cdv qual=a9
 kp:Ox K (.ref f)=a9
theorem Nq.ok{P:d6}{w:d5}{K:v9}{mg:c9->Option b9}{base:d9}{x l:c9}{st:j7}{f:d7}{a:n0}{N ps:List c9}{k:Nat}{sp:Sp}(F:Nq K x l st f a)(S:FnScope N ps (aC st))(B:∀vs H Q E,sp vs H Q E->vs.length=ps.length)(y:∀(cdv:b9) (A:f9) (outer:List Env) (s:g8) (H:Hp) (vs:List V) (Q:VK) (E:XK),Room k (A.deeper<|n5 l (aC st) s.heap.objs.size f cdv)->sp vs H Q E -> ∃t,L7 (yp L5 P w K mg base N l (aC st) f cdv A outer s H E).nox (bU st) t/\t { nx:=λ_ H'=>Q .non H',rt:=Q } (start N vs) H):FnOk P w K mg base L5 (k+1) f a ps sp:=by obtain⟨c,j,kV,i,U,M,cdv,R,G,rfl,b,d⟩:=F.ex;refine fn_of b d S B λA outer s H vs Q E r z=>?_;obtain⟨t,h,q⟩:=y cdv A outer s H vs Q E r z;exact⟨t,h.nox,q⟩
theorem Nq.binds{K:v9}{x l:c9}{st:j7}{f:d7}{d:n0}{ps:List c9}(F:Nq K x l st f d)(h:∀(kV doc pm:b9) (an:Option d7) (cdv ct:b9) (us:List b9),us.length=ps.length->bindArgs (Od x l (gM st) (bU st) (aC st) .none kV doc pm an cdv ct) ⟨us,[]⟩=pure (ps.zip us)):tj K d ps []:=by obtain⟨c,j,kV,doc,pm,an,cdv,ct,G,rfl,b,a⟩:=F.ex;exact .all<|h kV doc pm an cdv ct
theorem LD{K:v9}{x q:c9}{st:j7}{f:d7}{o:b9}{j M:Option d7}{G:Array (Option b9)}{kV i U v R:b9}(l:K.lookup f=a7 ⟨o,j,.func<|Od x q (gM st) (bU st) (aC st) .none kV i U M v R,G⟩)(c:QY K v q=a9) (k:Ox K (.ref f)=a9):Nq K x q st f (Od x q (gM st) (bU st) (aC st) .none kV i U M v R):=⟨⟨o,j,kV,i,U,M,v,R,G,rfl,l,c⟩,k⟩
theorem small1000(h:n<=1000):n<sizeLine:=Nat.lt_of_le_of_lt h<|by decide
theorem pv(i:Nat)(h:X.N[i]?=a7 x:=by rfl)(c:OK X.env.scope x:=by first|exact Or.inl rfl|exact Or.inr (Or.inl rfl)|exact Or.inr<|Or.inr rfl)(a:(x==("__debug__":c9))=b7:=by decide)(d:(x==("__classdict__":c9))=b7:=by decide):PE X (.Name x pos) (tVar i):=zW h c a d
theorem bc{A B:Prop}(h:B):if b7=a9 then A else B:=by rw[q9 K0];exact h
theorem aM{A B:Prop}(h:A):if a9=a9 then A else B:=by rw[p9 rfl];exact h
section
variable{κ:Type}[DecidableEq κ]
noncomputable def FA(kvs:List (κ×V))(k:κ):Option V:=(kvs.find? λv=>decide<|v.1=k).map (·.2)
noncomputable def tp(kvs:List (κ×V))(k:κ)(v:V):List (κ×V):=if (kvs.any λa=>decide<|a.1=k)=a9 then kvs.map (λa=>if a.1=k then(a.1,v)else a)else kvs++[(k,v)]
theorem vn{p:κ×V}{r:List (κ×V)}{k:κ}(e:p.1=k):FA (p::r) k=a7 p.2:=by simp[FA,MQ,e]
theorem vp{p:κ×V}{r:List (κ×V)}{k:κ}(e:¬p.1=k):FA (p::r) k=FA r k:=by simp[FA,MQ,e]
theorem vq(k:κ):∀kvs:List (κ×V),(kvs.any λkv=>decide<|kv.1=k)=(FA kvs k).isSome
 | []=>rfl
 |p::r=>by rw[Nh];by_cases e:p.1=k;simp only[vn e,dT_ e,Bool.true_or,Option.isSome_some];rw[vp e,dF_ e,Bool.false_or];exact vq k r
theorem gI(kvs:List (κ×V))(k:κ)(v:V):(tp kvs k v).length<=kvs.length+1:=by unfold tp;split;rw[x6];lia;rw[A7,C5,Fn];lia
theorem Mz.isSome_eq(r:Mz o u):o.isSome=u.isSome:=by
 cases o with
 |none=>cases u with
  |none=>rfl
  |some _=>exact(show False from r).elim
 |some _=>cases u with
  |none=>exact(show False from r).elim
  |some _=>rfl
theorem KV.any(r:KV kvs vs)(k:κ):(kvs.any λkv=>decide<|kv.1=k)=vs.any λkv=>decide (kv.1=k):=by
 unfold KV at r;induction r with
 |nil=>rfl
 |cons h t i=>rw[Nh,Nh,i,h.1]
theorem KV.repl(r:KV kvs vs)(k:κ)(a:aQ y u):KV (kvs.map λkv=>if kv.1=k then(kv.1,y)else kv) (vs.map λkv=>if kv.1=k then(kv.1,u)else kv):=by
 unfold KV at r ⊢;induction r with
 |nil=>exact .nil
 |@cons p q ps qs h t i=>rw[B9,B9];refine .cons ?_ i;obtain⟨h1,h2⟩:=h;by_cases e:p.1=k;rw[p9 e,p9<|h1.symm.trans e];exact⟨h1,a⟩;rw[q9 e,q9<|λz=>e<|h1.trans z];exact⟨h1,h2⟩
theorem KV.put(r:KV kvs vs)(k:κ)(i:aQ y u):KV (tp kvs k y) (stored vs k u):=by unfold tp stored;rw[r.any k];by_cases e:(vs.any λv=>decide<|v.1=k)=a9;rw[p9 e,p9 e];exact r.repl k i;rw[q9 e,q9 e];exact Paired.snoc r ⟨rfl,i⟩
theorem KV.length(r:KV kvs vs):kvs.length=vs.length:=QV r
end
theorem Hi(r:aQ (kV k) u):(bB P w).is k u=a9:=by
 cases k with
 |inl i=>obtain⟨t,e⟩:=(show ∃t,u=Value.int i t from r);subst e;exact uu P w i t
 |inr x=>obtain⟨t,e⟩:=(show ∃t,u=Value.str x t from r);subst e;exact ut P w x t
theorem sE:∀{ks:List D9}{us:List b9},ax (ks.map kV) us->ItemsAre (bB P w) ks us
 | [],_,r=>by rw[Oc]at r;cases r;exact .nil
 |k::ks,_,r=>by
  rw[B9]at r;cases r with
  |cons h t=>exact .cons (Hi h)<|sE t
abbrev KT(H:Hp):List (List D9×V)->List (List D9×d7×b9)->Prop:=Paired λp q=>p.1=q.1/\H q.2.1=a7 (.tup<|p.1.map kV)/\aQ p.2 q.2.2
theorem KT.val{H:Hp}{kvs:List (List D9×V)}{xs:List (List D9×d7×b9)}(r:KT H kvs xs)(k:List D9):Mz (FA kvs k) ((atKey xs k).map (·.2)):=by
 induction r with
 |nil=>exact NU
 |@cons p q ps qs h t i =>
  obtain⟨h1,_,h2⟩:=h;by_cases e:p.1=k;have a:q.1=k:=h1.symm.trans e;have b:atKey (q::qs) k=a7 q.2:=by simp[atKey,MQ,a]
  rw[vn e,b];exact h2;have a:¬q.1=k:=λz=>e<|h1.trans z;have b:atKey (q::qs) k=atKey qs k:=by simp[atKey,MQ,a]
  rw[vp e,b];exact i
theorem KT.repl(r:KT H kvs xs)(k:List D9)(b:aQ y u):KT H (kvs.map λkv=>if kv.1=k then(kv.1,y)else kv) (xs.map<|putAt k u):=by
 induction r with
 |nil=>exact .nil
 |@cons p q ps qs h t i=>rw[B9,B9];refine .cons ?_ i;obtain⟨h1,h2,a⟩:=h;unfold putAt;by_cases e:p.1=k;rw[p9 e,p9<|h1.symm.trans e];exact⟨h1,h2,b⟩;rw[q9 e,q9<|λz=>e<|h1.trans z];exact⟨h1,h2,a⟩
theorem KT.put(r:KT H kvs xs)(k:List D9)(d:H b=a7 (.tup<|k.map kV))(i:aQ y u):KT H (tp kvs k y) (storedH xs k b u):=by
 have e:(kvs.any λv=>decide<|v.1=k)=(atKey xs k).isSome:=by rw[vq,(r.val k).isSome_eq,Rc]
 unfold tp storedH;rw[e];by_cases q:(atKey xs k).isSome=a9;rw[p9 q,p9 q];exact r.repl k i;rw[q9 q,q9 q];exact Paired.snoc r ⟨rfl,d,i⟩
theorem KT.keeps(r:KT H kvs xs)(D:∀b ys,H b=a7 (.tup ys)->H' b=a7 (.tup ys)):KT H' kvs xs:=Paired.mapP r λ_ _ z=>⟨z.1,D _ _ z.2.1,z.2.2⟩
theorem Jx(ok:E8 P w H h)(e:Rd H a u):bX P w H h a u:=e.ok ok
theorem dk_rd(ok:E8 P w H h)(e:Rd H a (.dK kvs)):kvs.length<=sizeLine/\(a==f6)=b7/\∃vs,KV kvs vs/\h.DictOf (bB P w) a vs:=show bX P w H h a (.dK kvs)from Jx ok e
theorem LU(ok:E8 P w H h)(e:H a=a7 (.dK kvs)):kvs.length<=sizeLine/\(a==f6)=b7/\∃vs,KV kvs vs/\h.DictOf (bB P w) a vs:=dk_rd ok<|.inl e
theorem Fb(ok:E8 P w H h)(e:H a=a7 (.tup<|ks.map kV)):(tupleKind<|bB P w).is h ks a:=by
 obtain⟨_,its,r,o,h1,h2,⟨n,b⟩,_⟩:=(show bX P w H h a (.tup<|ks.map kV)from ok a _ e)
 exact⟨o,its.toArray,n,h1,h2,b,by simpa using sE r⟩
theorem dt_rd(ok:E8 P w H h)(e:Rd H a (.dT kvs)):kvs.length<=sizeLine/\(a==f6)=b7 /\∃xs,KT H kvs xs/\h.DictOfH (tupleKind<|bB P w) a xs:=by
 obtain⟨z,y,xs,r,o,es,i,h1,h2,f,g,k⟩:=(show bX P w H h a (.dT kvs)from Jx ok e)
 refine⟨z,y,xs,r,o,es,i,h1,h2,f,g,λx b=>?_,k⟩;have c:∀{l:List (List D9×V)}{m:List (List D9×d7×b9)},KT H l m->∀x∈m,(tupleKind<|bB P w).is h x.1 x.2.1:=by
  intro l m q;induction q with
  |nil=>intro x b;exact nomatch b
  |@cons p q ps qs d t j=>intro x b;rcases A5.mp b with e|b;subst e;exact Fb ok (by rw[<-d.1];exact d.2.1);exact j x b
 exact c r x b
theorem dt_of(ok:E8 P w H h)(e:H a=a7 (.dT kvs)):kvs.length<=sizeLine/\(a==f6)=b7 /\∃xs,KT H kvs xs/\h.DictOfH (tupleKind<|bB P w) a xs:=dt_rd ok<|.inl e
def DPut(H:Hp)(a:d7)(y v:V)(H':Hp):Prop:=(∃kvs k,H a=a7 (.dK kvs)/\y=kV k/\kvs.length<sizeLine/\H'=A0 H a (.dK<|tp kvs k v)) \/∃kvs k b,H a=a7 (.dT kvs)/\y=.ref b/\H b=a7 (.tup<|k.map kV)/\kvs.length<sizeLine/\H'=A0 H a (.dT<|tp kvs k v)
theorem u6.big(I:u6 X pins σ H s):f6<s.heap.objs.size:=by have h:f7<s.heap.objs.size:=(I.mod.glob.keeps I.bk).lt;exact Nat.lt_trans (by decide) h
theorem pO(I:u6 X pins σ H s)(m:PR (H a))(hs:NK a s.heap h')(i:∃q,h'.get? a=a7 q)(n:bX X.prog X.w (A0 H a ob) h' a ob):u6 X pins σ (A0 H a ob) { s with heap:=h',toks:=t' }:=I.write (x:=a) (e:=a) m (.inl rfl) (λb q d z=>(hs.2 b d).trans z) i n
theorem Fk(z:kvs.length<=sizeLine)(d:(a==f6)=b7)(l:KV kvs vs)(k:h'.DictOf (bB P w) a vs):bX P w H' h' a (.dK kvs):=⟨z,d,vs,l,k⟩
theorem BH(L:A.units+1<m9)(I:u6 X pins σ H s)(g:DPut H a y v H')(C:aQ y u)(B:aQ v r)(h:∀s',u6 X pins σ H' s'->Q () s'):i7 (j2 X.prog X.w) A (setItem (.ref a) u r) Q E s:=by
 rcases g with⟨kvs,k,e,n,l,m⟩|⟨kvs,k,b,e,n,M,l,m⟩
 subst n m;obtain⟨z,o,vs,d,j⟩:=LU I.hok e;have t:vs.length<=sizeLine:=by rw[<-d.length];exact z
 have p:(tp kvs k v).length<=sizeLine:=by have:=gI kvs k v;lia
 refine wpAny_setItem_pairs (hsz:=t) (Hi C) j λh' f hs=>h _ ?_;have K:∃q,h'.get? a=a7 q:=let ⟨q,_,_,i,_⟩:=f;⟨q,i⟩
 exact pO I (by rw[e];exact NU) hs K<|Fk p o (d.put k B) f;subst n m;cases (show u=I0 b from C);obtain⟨z,o,xs,d,j⟩:=dt_of I.hok e;have t:xs.length<=sizeLine:=by rw[<-QV d];exact z
 have p:(tp kvs k v).length<=sizeLine:=by have:=gI kvs k v;lia
 refine wpAny_setItem_heap (hsz:=t) (tupleKind_room_in1 L) (Fb I.hok M) j λh' f hs=>h _ ?_;obtain⟨q,es,D,i,h2,F,G,_,J⟩:=f;refine pO I (by rw[e];exact NU) hs ⟨q,i⟩ ⟨p,o,_,(d.put k M B).keeps λc ys x=>?_,q,es,D,i,h2,F,G,J⟩;rw[az<|ne_of x e<|λz=>nomatch z];exact x
def NoSl(i:i9):Prop:=∀b a,subscripted i b7 b a=operate [b,a] (n9 b a)
theorem FG{prog:d6}{w:d5}{A:f9}{E:b9->g8->Prop}{s:g8}{env:Env}{a e:i9}{p:Pos}{T id:String}{Q:b9->g8->Prop}(l:typeLookup (.type T) "__getitem__" = pure (a7<|.builtin id)) (hs:NoSl e)(h:i7 (j2 prog w) A (eval a env) (λo s₁=>i7 (j2 prog w) A (eval e env) (λi s₂=>s₂.TypeIs o T/\i7 (j2 prog w) A (n9 o i) Q E s₂) E s₁) E s):i7 (j2 prog w) A (eval (.Subscript a e p) env) Q E s:=by
 refine Subscript_<|L6 h (λo s₁ d=>L6 d (λi s₂ b=>?_) λ_ _ x=>x) λ_ _ x=>x;obtain⟨g,b⟩:=b;unfold subscriptTail;refine t9 ?_;rw[getitemInPython_of_ne g.not_modules];refine t9<|Of g l ?_;have n:i7 (j2 prog w) A (subscripted e b7 o i) (λr c=>i7 (j2 prog w) A (letTemporaryGo a o r >>= λ_=>pure r) Q E c) E s₂:=by rw[hs o i];exact wpAny_operating<|L6 b (λr c f=>t9<|wpAny_letTemporaryGo<|u9 f) λ_ _ x=>x
 first
  |exact u9 (t9 n)
  |exact t9 (u9 (t9 n))
  |exact t9 n
def sDPut(t g f:TE):TS:=λD σ H=>f σ H λv b=>t σ b λx c=>g σ c λy e=>∃a d,x=.ref a/\DPut e a y v d/\D.nx σ d
theorem FZ(l:X.A.units+1<m9)(B:PE X o td)(hi:PE X i ty)(m:PE X value tv)(hs:j9 value (a7<|.Subscript o i pos') pos.line X.env=pure b7):PS X (.Assign [.Subscript o i pos'] value pos) (sDPut td ty tv):=by intro p s σ H D I h;refine wpAny_Assign_Subscript (z6 (m p s σ H _ I h) λr F ⟨v,b,e,z,q⟩=>z6 (B p F σ b _ e q) λu G ⟨x,c,f,C,n⟩=>z6 (hi p G σ c _ f n) ?_) hs;rintro K L ⟨y,J,j,E,a,d,k,g,t⟩;subst k;obtain rfl:u=I0 a:=C;exact BH l j g E z λR w=>⟨σ,d,w,t⟩
theorem Ep(h:d9)(d:f6<h.objs.size):bX P w H (h.push { cls:=.type "dict",data:=.dict #[] }) h.objs.size (.dK []):=⟨D4 _,beq_eq_false_iff_ne.mpr<|D3<|D6 d,[],.nil,Heap.DictOf.new h⟩
def zk:List (TE×TE)->St->Hp->(List (V×V)->Hp->Prop)->Prop
 | [],_,H,Q=>Q [] H
 |(tk,tv)::r,σ,H,Q=>tk σ H λx H1=>tv σ H1 λy H2=>zk r σ H2 λps H3=>Q ((x,y)::ps) H3
abbrev VV:List (V×V)->List (b9×b9)->Prop:=Paired λp q=>aQ p.1 q.1/\aQ p.2 q.2
def QO(X:Cx)(a:Pos)(k:List (Option i9))(v:List i9)(t:List (TE×TE)):Prop:=∀(p:List (d7×d8)) (s:g8) (σ:St) (H:Hp) (Q:List (V×V)->Hp->Prop),u6 X p σ H s->zk t σ H Q ->i7 (j2 X.prog X.w) X.A (evalPairs<|pairTrees k v X.env a) (λvs s'=>∃ps H',u6 X p σ H' s'/\VV ps vs/\Q ps H') X.xe s
theorem Ga:QO X pos [] [] []:=λp s σ H Q I h=>pairTrees_nil_walk ⟨[],H,I,.nil,h⟩
theorem CN(g:PE X k tk)(j:PE X v tv)(i:QO X pos ks vs trs):QO X pos (a7 k::ks) (v::vs) ((tk,tv)::trs):=by refine λp s σ H Q I h=>pairTrees_cons_walk<|z6 (g p s σ H _ I h) ?_;rintro u t ⟨x,a,d,r,q⟩;refine z6 (j p t σ a _ d q) ?_;rintro A w ⟨y,b,e,o,m⟩;refine z6 (i p w σ b _ e m) ?_;rintro ws z ⟨ps,c,f,l,n⟩;exact⟨(x,y)::ps,c,f,.cons ⟨r,o⟩ l,n⟩
noncomputable def og(kvs e:List (D9×V)):List (D9×V):=e.foldl (λacc v=>tp acc v.1 v.2) kvs
theorem KV.merge:∀{more:List (D9×V)}{rs:List (D9×b9)}{kvs:List (D9×V)}{vs:List (D9×b9)},KV more rs->KV kvs vs->KV (og kvs more) (merged vs rs):=by
 intro more rs kvs vs r;unfold KV at r;induction r generalizing kvs vs with
 |nil=>intro q;exact q
 |@cons p q ps qs h t i =>
  intro a;have e:KV (tp kvs p.1 p.2) (stored vs q.1 q.2):=by have:=a.put p.1 h.2;rw[<-h.1];exact this
  exact i e
theorem iz:∀(more kvs:List (D9×V)),(og kvs more).length<=kvs.length+more.length
 | [],kvs=>by show kvs.length<=kvs.length+0;lia
 |p::r,kvs=>by have h1:=iz r<|tp kvs p.1 p.2;have h2:=gI kvs p.1 p.2;show (og (tp kvs p.1 p.2) r).length<=_;rw[C5];lia
theorem oy:∀{kvs:List (D9×V)}{ws:List (b9×b9)},VV (kvs.map λkv=>(kV kv.1,kv.2)) ws->∃rs,Carries (bB P w) ws rs/\KV kvs rs
 | [],_,r=>by rw[Oc]at r;cases r;exact⟨[],NU,.nil⟩
 |p::kvs,_,r=>by
  rw[B9]at r;cases r with
  |@cons a b as bs h t=>obtain⟨rs,c,q⟩:=oy (P:=P) (w:=w) t;obtain⟨b1,b2⟩:=b;exact⟨(p.1,b2)::rs,⟨Hi h.1,rfl,c⟩,.cons ⟨rfl,h.2⟩ q⟩
def tDisp(t:List (TE×TE)):TE:=λσ H Q=>∀p,H p=a8->zk t σ (A0 H p<|.dK []) λps b=>b p=a7 (.dK [])/\∃kvs:List (D9×V),ps=kvs.map (λv=>(kV v.1,v.2))/\kvs.length<=15/\Q (.ref p) (A0 b p<|.dK<|og [] kvs)
theorem Gf(h:QO X pos keys values trs)(b:keys.all (·.isSome)=a9)(t:keys.length=values.length)(m:keys≠[])(d:keys.length<=15):PE X (.Dict keys values pos) (tDisp trs):=by
 intro p s σ H Q I q;have u:=I.hok.fresh<|z5 s.heap.objs.size;have i:=I.laid (a:=s.heap.objs.size) (o:=.dK []) (h':=s.heap.push { cls:=.type "dict",data:=.dict #[] }) (t':=s.toks) (λ_ _ q=>A9 _ q) (z5 _)<|Ep s.heap I.big;refine wpAny_Dict_walk (knd:=bB X.prog X.w) b t m d<|z6 (h p _ σ _ _ i<|q _ u) ?_;rintro ws F ⟨ps,D,g,l,e,kvs,j,E,x⟩;subst j;obtain⟨B,c,A⟩:=oy (P:=X.prog) (w:=X.w) l;obtain⟨z,n,C,y,k⟩:=LU g.hok e;cases y;refine⟨B,c,k,λh' f hs=>⟨.ref s.heap.objs.size,_,?_,rfl,x⟩⟩;have v:(og [] kvs).length<=sizeLine:=by have h1:=iz kvs [];rw[Fn]at h1;rw[M8];lia
 have r:∃q,h'.get? s.heap.objs.size=a7 q:=let ⟨q,_,_,hq,_⟩:=f;⟨q,hq⟩
 exact pO g (by rw[e];exact NU) hs r<|Fk v n (A.merge .nil) f
end L2
namespace DL
open PySem
theorem gP(env:Env):∀(names:List (c9×n4)) (acc:List (c9×d7)),(∀p∈names,p.2=MP->∃c,env.cells.lookup p.1=a7 c) ->∃cl,(forIn (m:=Sem) names acc λ(p:c9×n4) (r:List (c9×d7)) =>
    if (p.2==MP)=a9 then(do let a <-cellOf env p.1;pure (Q5<|(p.1,a)::r))else pure (Q5 r))=pure cl /\
   (∀z c,cl.lookup z=a7 c->acc.lookup z=a7 c\/env.cells.lookup z=a7 c) /\
   (∀z c,acc.lookup z=a7 c->∃c',cl.lookup z=a7 c') /\
   (∀p∈names,p.2=MP->∃c,cl.lookup p.1=a7 c)
 | [],acc,_=>⟨acc,rfl,λ_ _ h=>.inl h,λz c h=>⟨c,h⟩,λ_ h=>nomatch h⟩
 |(n,k)::aX,acc,hyp=>by
  by_cases hk:k=MP;subst hk;obtain⟨c0,hc0⟩:=hyp (n,.free) C7 rfl;obtain⟨cl,e,h1,h2,h3⟩:=gP env aX ((n,c0)::acc) λp hp=>hyp p<|C0 _ hp;have ce:cellOf env n=pure c0:=by unfold cellOf;rw[hc0]
  have own:∃c',cl.lookup n=a7 c':=h2 n c0 (by simp[Oi]);refine⟨cl,?_,λz c hz=>?_,λz c hz=>?_,λp hp hf=>?_⟩;rw[Q4];simp only[t8,t6,ce,pure_bind];exact e;rcases h1 z c hz with q|q;rw[Oi]at q;by_cases hz':(z==n)=a9;rw[hz']at q;have:z=n:=by simpa using hz'
  subst this;cases q;exact .inr hc0;have hz'':(z==n)=b7:=by simpa using hz'
  rw[hz'']at q;exact .inl q;exact .inr q;by_cases hz':z=n;subst hz';exact own;refine h2 z c ?_;rw[Oi];have hz'':(z==n)=b7:=by simpa using hz'
  rw[hz''];exact hz;rcases A5.mp hp with rfl|hp;exact own;exact h3 p hp hf;have hb:(k==MP)=b7:=by simpa using hk
  obtain⟨cl,e,h1,h2,h3⟩:=gP env aX acc λp hp=>hyp p<|C0 _ hp;refine⟨cl,?_,h1,h2,λp hp hf=>?_⟩;rw[Q4];simp only[hb,E3,t5,pure_bind];exact e;rcases A5.mp hp with rfl|hp;exact r9 hf hk;exact h3 p hp hf
theorem jO(h:∀p∈scope.names,p.2=MP->∃c,env.cells.lookup p.1=a7 c):∃cl,closureFor scope env=pure cl/\(∀z c,cl.lookup z=a7 c->env.cells.lookup z=a7 c)/\(∀p∈scope.names,p.2=MP->∃c,cl.lookup p.1=a7 c):=by obtain⟨cl,e,h1,h2,a⟩:=gP env scope.names [] h;refine⟨cl,?_,λz c b=>?_,a⟩;unfold closureFor;simp only[bind_pure];exact e;rcases h1 z c b with q|q;simp at q;exact q
theorem eY{env:Env}:∀{names:List (c9×n4)}{x:c9}{k:n4},(names.map λ(p:c9×n4)=>if (p.2==MP&&env.scope.kind==.function&&env.kindOf p.1==a7 .cell)=a9 then(p.1,Ov)else(p.1,p.2)).lookup x=a7 k ->(names.lookup x=a7 k\/(k=Ov/\names.lookup x=a7 .free))
 | [],_,_,h=>by simp at h
 |(n,j)::aX,x,k,h=>by
  have ih:=@eY env aX x k;rw[B9,Oi]at h;by_cases hx:(x==n)=a9;have hl:List.lookup x ((n,j)::aX)=a7 j:=by rw[Oi,hx]
  rw[hl];by_cases hc:(j==MP&&env.scope.kind==.function&&env.kindOf n==a7 .cell)=a9;simp only[hc,t6,hx]at h;cases h;have:j=MP:=by simp only[B8]at hc;simpa using hc.1.1
  exact .inr ⟨rfl,by rw[this]⟩;simp only[hc,E3,t5,hx]at h;exact .inl h;have hx':(x==n)=b7:=by simpa using hx
  have hl:List.lookup x ((n,j)::aX)=List.lookup x aX:=by rw[Oi,hx']
  rw[hl];refine ih ?_;by_cases hc:(j==MP&&env.scope.kind==.function&&env.kindOf n==a7 .cell)=a9;simp only[hc,t6,hx']at h;exact h;simp only[hc,E3,t5,hx']at h;exact h
theorem oH(s:List i9)(env:Env):compTests s env =
  (forIn s a9 λc r=>if r=a9 then do let ok <-isTrue c env (eval c env);pure (Q5 ok)else pure (Q5 r)):=by unfold compTests;simp only[bind_pure]
theorem ya(J:Nat->g8->Prop)(F:b9->g8->Prop)(b:∀e s',F e s'->notedBy (j2 prog w) A env (λe s'=>R (.error e) s') e s')(M:∀n s,J n s->i7 (j2 prog w) A (k8 it) (λr s1=>match r with
   |none=>R (.ok .next) s1
   |some v=>i7 (j2 prog w) A (k9 target it v) (λ_ s2=>i7 (j2 prog w) A (k6 target env v) (λ_ s3 =>
     i7 (j2 prog w) A (compTests ifs env) (λok s4 =>
      if ok=a9 then i7 (j2 prog w) A (eval elt env) (λy s5=>i7 (j2 prog w) A (call (.builtin "list.append") [acc,y]) (λ_ s6=>∃m,m<n/\J m s6) F s5) F s4
      else ∃m,m<n/\J m s4) F s3) F s2) F s1) F s)
  (n:Nat) (h:J n s):n3 (j2 prog w) A (.compLoop (.ListComp elt [⟨target,iter,ifs,0⟩] scope pos) 0 it acc env) R s:=by
 refine codeAny_loop rfl J (λn s f=>?_) n h;show i7 _ A ((compTurn (.ListComp elt [⟨target,iter,ifs,0⟩] scope pos) 0 it acc env).onRaise<|λx=>do noteFrame x env;theTreesLotGoes x) _ _ s;refine wpAny_noted ?_;rw[compTurn_list];refine t9<|wpAny_standAt<|t9<|L6 (M n s f) (λr s1 h1=>?_) b;cases r with
 |none=>exact u9 h1
 |some v =>
  refine t9<|L6 h1 (λ_ s2 h2=>?_) b;refine t9<|L6 h2 (λ_ s3 a=>?_) b;rw[oH]at a;refine t9<|L6 a (λok s4 d=>?_) b;cases ok with
  |false=>exact u9 ⟨rfl,d⟩
  |true=>exact t9<|t9<|L6 d (λy s5 k=>t9<|L6 k (λ_ s6 c=>u9<|u9 ⟨rfl,c⟩) b) b
end DL
namespace L2
open PySem PySem.Spec PyProof.Rows DL
theorem jD{env:Env}:∀{names:List (c9×n4)}{x:c9},names.lookup x=a7 .free ->((names.map λ(p:c9×n4)=>if (p.2==MP&&env.scope.kind==.function&&env.kindOf p.1==a7 .cell)=a9 then(p.1,Ov)else(p.1,p.2)).lookup x=a7 .cell \/ (names.map λ(p:c9×n4)=>if (p.2==MP&&env.scope.kind==.function&&env.kindOf p.1==a7 .cell)=a9 then(p.1,Ov)else(p.1,p.2)).lookup x=a7 .free)
 | [],_,h=>by simp at h
 |(n,j)::aX,x,h=>by
  have ih:=@jD env aX x;rw[B9,Oi];rw[Oi]at h;by_cases hc:(j==MP&&env.scope.kind==.function&&env.kindOf n==a7 .cell)=a9;by_cases hx:(x==n)=a9;simp[hc,hx];have hx':(x==n)=b7:=by simpa using hx
  rw[hx']at h;simp only[hc,t6,hx'];exact ih h;by_cases hx:(x==n)=a9;rw[hx]at h;cases h;right;simp only[hc,E3,t5,hx];have hx':(x==n)=b7:=by simpa using hx
  rw[hx']at h;simp only[hc,E3,t5,hx'];exact ih h
noncomputable def D0(X:Cx)(N':List c9)(scope:g9)(l:List (c9×d7))(s₀:g8)(H₀:Hp)(ex:List d7):Cx:={ X with N:=N',s₀:=s₀,H₀:=H₀,env:=compEnvC scope l s₀.heap.objs.size X.env,outer:=X.stack,ex:=ex,fn:=λx=>scope.names.lookup x==a7 .cell,pn:=[],xe:=λ_ _=>False }
structure BlkSc(X:Cx)(N':List c9)(nt:Nat)(js:List Nat)(scope:g9):Prop where
 kind:scope.kind=.function
 nocell:∀y∈scope.names,y.2≠.cell
 loc:∀y∈scope.names,y.2=.local->scope.names.lookup y.1=a7 .local
 free:∀y∈scope.names,y.2=.free->(X.env.kindOf y.1=a7 .cell\/X.env.kindOf y.1=a7 .free)
 len:N'.length=nt+js.length
 fr:∀(k j:Nat),js[k]?=a7 j->∃x,N'[nt+k]?=a7 x/\X.N[j]?=a7 x/\scope.names.lookup x=a7 .free/\(X.env.kindOf x=a7 .cell\/X.env.kindOf x=a7 .free)
noncomputable def bst(t:Nat)(s:List Nat)(σ:St):St:=P7 t a8++s.map λj=>(σ[j]?).join
theorem BT(t:Nat)(s:List Nat)(σ:St):(bst t s σ).length=t+s.length:=by simp[bst]
theorem Iv(h:(bst nt js σ)[i]?=a7 (a7 v)):∃k j,i=nt+k/\js[k]?=a7 j/\σ[j]?=a7 (a7 v):=by
 unfold bst at h;by_cases hi:i<nt;rw[J0 (by simpa using hi),Rl]at h;simp[hi]at h;rw[ND (by simpa using NT.mp hi),Rj,G2]at h;cases e:js[i-nt]? with
 |none=>rw[e]at h;cases h
 |some j =>
  rw[e]at h;refine⟨i-nt,j,by lia,e,?_⟩;have h':(σ[j]?).join=a7 v:=by simpa using h
  cases q:σ[j]? with
  |none=>rw[q]at h';cases h'
  |some o=>rw[q]at h';exact t7 a7 h'
def NH(X:Cx)(i:List i9)(t:TT):Prop:=∀(p:List (d7×d8)) (s:g8) (σ:St) (H:Hp) (Q:Bool->Hp->Prop),u6 X p σ H s->t σ H Q->i7 (j2 X.prog X.w) X.A (compTests i X.env) (TP X p σ Q) X.xe s
def ttNil:TT:=λ_ H Q=>Q a9 H
theorem FV:NH X [] ttNil:=λp s σ H Q I h=>by rw[oH];exact wpAny_tests_nil ⟨H,I,h⟩
theorem FU(h:PT X c t):NH X [c] t:=λp s σ H Q I q=>by rw[oH];exact wpAny_tests_one<|h p s σ H Q I q
def QF(t:Nat)(s:List Nat)(wi:TI)(g:TG)(tt:TT)(te:TE):TE:=λσ H Q=>wi σ H λJ e=>∃W:Nat->Nat->List V->St->Hp->Prop,(∃m,W 0 m [] (bst t s σ) e) /\∀i m vs τ H,W i m vs τ H->(J.stop i H/\∀p,H p=a8->Q (.ref p) (A0 H p<|.lst vs)) \/(J.go i H/\∀x H',J.yld i H x H'->g x τ H' λa f=>tt a f λb d=>if b=a9 then te a d λy h=>vs.length<sizeLine/\∃c,c < m/\W (i+1) c (vs++[y]) a h else ∃c,c < m/\W (i+1) c vs a d)
noncomputable abbrev cx(its:List b9)(k:Nat):d8:={ cls:=.type "list",data:=.seq its.toArray k }
structure TurnX(X:Cx)(tg:i9)(J:It)(fp:List d7)(it:d7)(tn:Nat->d9->Prop):Prop where
 item:∀(i:Nat) (pins:List (d7×d8)) (s:g8) (σ:St) (H:Hp) (E:b9->g8->Prop),u6 X pins σ H s->(∀b∈fp,sZ X pins H b)->tn i s.heap->J.go i H ->i7 (j2 X.prog X.w) X.A (k8<|.ref it) (λr s1=>∃u,r=a7 u /\ i7 (j2 X.prog X.w) X.A (k9 tg (.ref it) u) (λ_ s2=>∃x H',u6 X pins σ H' s2/\aQ x u/\J.yld i H x H'/\tn (i+1) s2.heap/\∀b∈fp,H' b=a8) E s1) E s
 done:∀(i:Nat) (pins:List (d7×d8)) (s:g8) (σ:St) (H:Hp) (E:b9->g8->Prop),u6 X pins σ H s->(∀b∈fp,sZ X pins H b)->tn i s.heap->J.stop i H ->i7 (j2 X.prog X.w) X.A (k8<|.ref it) (λr s1=>r=a8/\u6 X pins σ H s1) E s
theorem Turn.at(T:Turn X.prog X.w X.K tg J fp it tn)(f:X.calm=a9):TurnX X tg J fp it tn:=⟨T.item X rfl rfl rfl f,T.done X rfl rfl rfl f⟩
theorem u6.blkOk(B:BlkSc X N' nt js scope)(I:u6 X pins σ H s)(a:∀z c,cl.lookup z=a7 c->X.env.cells.lookup z=a7 c) (f:∀p∈scope.names,p.2=MP->∃c,cl.lookup p.1=a7 c) (i:∀b∈fp,sZ X pins H b) (j:∀b∈fp,b<s.heap.objs.size):(D0 X N' scope cl { s with heap:=s.heap.push ob } H<|s.heap.objs.size::fp).Ok:=by
 have J:u6 X pins σ H { s with heap:=s.heap.push ob }:=I.kept (t':=s.toks) λb o e=>A9 _ e;have ltc:∀z c,cl.lookup z=a7 c->c<s.heap.objs.size:=λz c e=>by obtain⟨v,q⟩:=I.cell z c<|a z c e;exact q.lt
 have C:(s.heap.push ob).objs.size=s.heap.objs.size+1:=MH ..;refine⟨I.ok.mod,B.kind,I.ok.glob,I.ok.blt,z5 _,λy z c h1 h2=>I.ok.inj y z c (a y c h1)<|a z c h2,λy Q=>?_,λy c h=>?_,I.ok.hd,I.ok.frames,.inl rfl,λb d=>?_,λb o e=>?_,?_,λb o e d=>?_,λb d=>?_,J.stack,I.stkFree⟩;have l:scope.names.lookup y=a7 .free:=by
  rcases Q with Q|Q;rcases eY (env:=X.env) (names:=scope.names) (x:=y) (k:=.cell) Q with q|⟨_,q⟩
  exact r9 rfl<|B.nocell _<|Om q;exact q;rcases eY (env:=X.env) (names:=scope.names) (x:=y) (k:=.free) Q with q|⟨q,_⟩
  exact q;cases q
 exact f (y,.free) (Om l) rfl;exact r9 rfl<|B.nocell _<|Om<|beq_iff_eq.mp<|show (scope.names.lookup y==a7 Ov)=a9 from h;show b≠(s.heap.push ob).objs.size/\∀x c,cl.lookup x=a7 c->c≠b;rw[C];rcases A5.mp d with rfl|d;exact⟨D6<|MW _,λx c e=>D6<|ltc x c e⟩;exact⟨D6<|OZ<|j b d,λx c e=>(i b d).2.2.2.2.1 x c<|a x c e⟩;exact⟨A9 _ (I.bs b o e).1,(I.bs b o e).2⟩;show X.base.objs.size<=(s.heap.push ob).objs.size;rw[C];exact Nat.le_succ_of_le<|MF I.ok.bsz I.sz;rcases A5.mp d with rfl|d;exact r9 (C2 (I.bs _ o e).1)<|K9 _;rcases(i b d).2.2.2.1 with z|z;exact I.ok.noex b o e z;exact r9 (K6 (C2 (I.ok.bs b o e).1) z)<|K9 _;intro m;have g:=I.stkSub b m;rcases A5.mp d with rfl|d;rcases A5.mp g with q|q;exact r9 I.lt (by rw[<-q];exact K9 _);exact I.nofs (z5 _) q;rcases A5.mp g with q|q;exact(i b d).2.1 q;exact(i b d).2.2.1 q
theorem u6.blkStart(B:BlkSc X N' nt js scope)(I:u6 X pins σ H s)(a:∀z c,cl.lookup z=a7 c->X.env.cells.lookup z=a7 c) (f:∀p∈scope.names,p.2=MP->∃c,cl.lookup p.1=a7 c) (J:∀b∈fp,sZ X pins H b) (m:∀b∈fp,b<s.heap.objs.size)(g:∀b o,(s.heap.push<|cx [] 0).get? b=a7 o->h1.get? b=a7 o) (K:h1.Ns (s.heap.push<|cx [] 0).objs.size mm):u6 (D0 X N' scope cl { s with heap:=s.heap.push (cx [] 0) } H<|s.heap.objs.size::fp) [(s.heap.objs.size,cx [] 0)] (bst nt js σ) H { s with heap:=h1,toks:=tk }:=by
 have d:∀b o,s.heap.get? b=a7 o->h1.get? b=a7 o:=λb o e=>g b o<|A9 _ e;have C:(s.heap.push<|cx [] 0).objs.size=s.heap.objs.size+1:=MH ..;refine⟨I.blkOk B a f J m,rfl,I.bare,Un.kept g,⟨mm,K,λi x v D E T=>?_⟩,λx c e=>?_,?_,λx c e=>I.freeC x c<|a x c e,λp N=>?_,I.hok.kept d,?_⟩;obtain⟨k,j,rfl,L,t⟩:=Iv E;obtain⟨S,Q,R,A,y⟩:=B.fr k j L;have F:x=S:=F3<|D.symm.trans Q;subst F;obtain⟨W,M,n⟩:=I.loc;have w:OK X.env.scope x:=y.elim (λz=>.inr<|.inl z) λz=>.inr<|.inr z;obtain⟨u,r,h⟩:=n j x v R t w;refine⟨u,r,?_⟩;rcases h with⟨q,_⟩|⟨q,c,G,l⟩
 rcases y with z|z<;>(rw[q]at z;cases z)
 obtain⟨U,O⟩:=f (x,.free) (Om A) rfl;have:U=c:=F3<|(a x U O).symm.trans G;subst this;exact .inr ⟨jD (env:=X.env) A,U,O,l.keeps d⟩;obtain⟨v,q⟩:=I.cell x c<|a x c e;exact⟨v,q.keeps d⟩;exact I.hok.fresh (by show s.heap.objs.size<=(s.heap.push<|cx [] 0).objs.size;rw[C];exact OQ _);have e:p=(s.heap.objs.size,cx [] 0):=by simpa [D0]using N
 subst e;refine⟨g _ _<|E1 _ rfl,I.hok.fresh<|z5 _,?_,?_,λv z=>by cases z⟩;show s.heap.objs.size≠(s.heap.push<|cx [] 0).objs.size;rw[C];exact D6<|MW _;intro P;rcases A5.mp (I.stkSub _ P)with q|q;exact r9 I.lt (by rw[<-q];exact K9 _);exact I.nofs (z5 _) q;rw[BT];exact B.len.symm
theorem u6.blkEnd(I:u6 X pins σ H s)(E:∀b∈fp,sZ X pins H b)(a:u6 (D0 X N' scope cl { s with heap:=s.heap.push (cx [] 0) } H<|s.heap.objs.size::fp) [(s.heap.objs.size,cx its k)] τ H' s')(L:ax vs its) (G:vs.length<=sizeLine) (U:NK (s.heap.push<|cx [] 0).objs.size s'.heap h'):u6 X pins σ (A0 H' s.heap.objs.size<|.lst vs) { s' with heap:=h' }:=by
 have l:(s.heap.push<|cx [] 0).objs.size=s.heap.objs.size+1:=MH ..;have C:s.heap.objs.size≠(s.heap.push<|cx [] 0).objs.size:=by rw[l];exact D6<|MW _
 obtain⟨K,D,_⟩:=a.pin (s.heap.objs.size,cx its k) (by simp[D0]);have i:s'.heap.get? s.heap.objs.size=a7 (cx its k):=K;have f:H' s.heap.objs.size=a8:=D;have j:H' (s.heap.push<|cx [] 0).objs.size=a8:=a.free;have u:Un (K7 X.stack) (s.heap.objs.size::fp) H H' (s.heap.push<|cx [] 0) s'.heap:=a.base;have F:∀b o,s.heap.get? b=a7 o->b≠s.heap.objs.size/\b≠(s.heap.push<|cx [] 0).objs.size:=λb o e=>by have:=C2 e;exact⟨D6 this,by rw[l];exact D6<|OZ this⟩
 have p:∀b o,s.heap.get? b=a7 o->(s.heap.push<|cx [] 0).get? b=a7 o:=λb o e=>A9 _ e;have g:∀b o,s.heap.get? b=a7 o->b∉fp->b∉s.heap.objs.size::fp:=λb o e x J=>by rcases A5.mp J with q|q;exact(F b o e).1 q;exact x q
 refine I.call' (s':={ s' with heap:=h' }) (ch:=fp) a.os ⟨λb o e n d x=>?_,λb o e n d x=>?_,λb o e n x=>?_,λb o e x=>?_,λb xs e=>?_,λb o w e=>?_,λb ps e=>?_⟩ (λb w q=>?_) a.bare λb d=>?_;exact(U.2 b (F b o e).2).trans<|u.keep b o (p b o e) n d<|g b o e x;obtain⟨M,z⟩:=u.slot b o (p b o e) n d<|g b o e x;exact⟨M,(U.2 b (F b o e).2).trans z⟩;rw[az (F b o e).1];exact u.free b o (p b o e) n<|g b o e x;obtain⟨o',z⟩:=u.there b o (p b o e)<|g b o e x;exact⟨o',(U.2 b (F b o e).2).trans z⟩;have z:=u.tups b xs e;rw[az<|ag z f];exact z;have z:=u.frzs b o w e;rw[az<|ag z f];exact z;obtain⟨m,z⟩:=u.tbls b ps e;exact⟨m,by rw[az<|ag z f];exact z⟩;by_cases d:b=s.heap.objs.size;subst d;rw[bi]at q;cases q;exact⟨G,its,k,L,(U.2 _ C).trans i⟩;rw[az d]at q;refine(a.hok b w q).stay (λc v h r=>(U.2 c ?_).trans r) (λc z=>by rw[az<|ag z f];exact z) λc xs z=>by rw[az<|ag z f];exact z
 rcases h with rfl|h;exact ag q j;exact ag h j;obtain⟨_,t,_,y,A,B⟩:=E b d;exact⟨y,t,A,B⟩
theorem AR{C tg O:i9}{N:List i9}{scope:g9}{aT:Pos}{N':List c9}{l:List (c9×d7)}{J:It}{fp:List d7}{it:d7}{tn:Nat->d9->Prop}{g:TG}{tt:TT}{te:TE}{Q:VK}{W:Nat->Nat->List V->St->Hp->Prop}{R:Result->g8->Prop}{s0:g8}{H0:Hp}{D:d7} (TX:TurnX (D0 X N' scope l s0 H0<|D::fp) tg J fp it tn)(hg:PG (D0 X N' scope l s0 H0<|D::fp) tg g) (ht:NH (D0 X N' scope l s0 H0<|D::fp) N tt) (he:PE (D0 X N' scope l s0 H0<|D::fp) C te)(T:Turn X.prog X.w X.K tg J fp it tn) (M:D∉fp)(U:∀i m vs τ H,W i m vs τ H->(J.stop i H/\∀p,H p=a8->Q (.ref p) (A0 H p<|.lst vs)) \/ (J.go i H/\∀x H',J.yld i H x H'->g x τ H' λτ2 H2=>tt τ2 H2 λb f=>if b=a9 then te τ2 f λy H4=>vs.length<sizeLine/\∃m',m' < m/\W (i+1) m' (vs++[y]) τ2 H4 else ∃m',m' < m/\W (i+1) m' vs τ2 f))(t:∀b∈fp,b≠s0.heap.objs.size/\b∉K7 X.stack/\∀x c,l.lookup x=a7 c->c≠b) (L:D≠s0.heap.objs.size) (as:D∉K7 X.stack) (ap:∀x c,l.lookup x=a7 c->c≠D)(ai:∀τ H' s' vs its k,u6 (D0 X N' scope l s0 H0<|D::fp) [(D,cx its k)] τ H' s'->ax vs its->vs.length<=sizeLine->Q (.ref D) (A0 H' D<|.lst vs)->R (.ok .next) s')
  (m0:Nat) {s:St}{s3:g8}{f:Hp} (I3:u6 (D0 X N' scope l s0 H0<|D::fp) [(D,cx [] 0)] s f s3) (bd:tn 0 s3.heap) (aj:∀b∈fp,f b=a8) (w0:W 0 m0 [] s f) :
  n3 (j2 X.prog X.w) X.A (.compLoop (.ListComp C [⟨tg,O,N,0⟩] scope aT) 0 (.ref it) (.ref D)<|compEnvC scope l s0.heap.objs.size X.env) R s3:=by
 have h:∀{ob:d8}{H':Hp},(∀b∈fp,H' b=a8)->∀b∈fp,sZ (D0 X N' scope l s0 H0<|D::fp) [(D,ob)] H' b:=λ{ob H'} hn b d=>by
  obtain⟨a1,a2,a3⟩:=t b d;refine⟨hn b d,a1,a2,.inl<|C0 _ d,a3,λp j z=>?_⟩;have e:p=(D,ob):=by simpa [D0]using j
  subst e;exact M<|by rw[show D=b from z];exact d
 refine ya (λn s'=>∃i τ H' vs its k,u6 (D0 X N' scope l s0 H0<|D::fp) [(D,cx its k)] τ H' s'/\tn i s'.heap/\(∀b∈fp,H' b=a8)/\ax vs its/\vs.length<=sizeLine/\W i n vs τ H') (λ_ _=>False) (λ_ _ z=>z.elim) ?_ m0 ⟨0,s,f,[],[],0,I3,bd,aj,.nil,D4 _,w0⟩;rintro n s' ⟨i,τ,H',vs,its,k,I',P,I,rv,hl,w'⟩;rcases U i n vs τ H' w' with⟨stop,q⟩|⟨go,S⟩
 refine z6 (TX.done i _ s' τ H' (λ_ _=>False) I' (h I) P stop) ?_;rintro r s4 ⟨hr,I4⟩;subst hr;exact ai τ H' s4 vs its k I4 rv hl<|q D (I'.pin (D,cx its k)<|by simp[D0]).2.1;refine z6 (TX.item i _ s' τ H' (λ_ _=>False) I' (h I) P go) ?_;rintro r s4 ⟨u,hr,h4⟩;subst hr;refine z6 h4 ?_;rintro _ s5 ⟨x,H5,I5,r5,y5,B,an⟩;have ab:=I5.pinned (h an)<|T.obj _ _ B;refine z6 (hg _ s5 τ H5 x u _ ab r5<|S x H5 y5) ?_;rintro _ s6 ⟨a,H6,I6,q6⟩;refine z6 (ht _ s6 a H6 _ I6 q6) ?_;rintro ok s7 ⟨H7,Z,q7⟩;have F:∀{b:d7}{o:d8},b∈fp->s5.heap.get? b=a7 o->(b,o)∈(D0 X N' scope l s0 H0<|D::fp).pn++([(D,cx its k)]++ip fp s5.heap):=λd e=>MJ _<|MJ _<|fJ d e;cases ok with
 |false =>
  obtain⟨m',hm,w7⟩:=(show ∃m',m' < n/\W (i+1) m' vs a H7 from q7)
  refine⟨m',hm,i+1,a,H7,vs,its,k,Z.unpinned,T.keep _ _ _ B λb d o e=>(Z.pin (b,o)<|F d e).1,λb d=>?_,rv,hl,w7⟩;obtain⟨o,e,_⟩:=T.obj _ _ B b d;exact(Z.pin (b,o)<|F d e).2.1
 |true =>
  refine z6 (he _ s7 a H7 _ Z q7) ?_;rintro yv s8 ⟨y,Y,I8,r8,q8⟩;obtain⟨aS,m',hm,w8⟩:=q8;obtain⟨oD,fD,_⟩:=I8.pin (D,cx its k) (MJ _<|Qv _<|by simp);have E:Y D=a8:=fD;refine append_at (its:=its.toArray) (n:=k) oD (λh9 ba o9=>?_) (by rw[C9,<-rv.length];exact hl);have J8:u6 (D0 X N' scope l s0 H0<|D::fp) (ip fp s5.heap) a Y s8:=I8.pins_of λp j=>I8.pin p<|MJ _<|MJ _ j;have J9:u6 (D0 X N' scope l s0 H0<|D::fp) (ip fp s5.heap) a Y { s8 with heap:=h9 }:=J8.turned (t':=s8.toks) (it:=D) (λb o d e=>(ba.2 b d).trans e) E L (.inl C7) ap λp j z=>by
   have aD:p∈ip fp s5.heap:=by simpa [D0]using j
   exact M<|by rw[<-z];exact(se aD).1
  have G:∀{b:d7}{o:d8},b∈fp->s5.heap.get? b=a7 o->(b,o)∈(D0 X N' scope l s0 H0<|D::fp).pn++ip fp s5.heap:=λd e=>MJ _<|fJ d e;refine⟨m',hm,i+1,a,Y,vs++[y],its++[yv],k+1,J9.pins_of λp j=>?_,T.keep _ _ _ B λb d o e=>(J9.pin (b,o)<|G d e).1,λb d=>?_,rv.append<|.cons r8 .nil,?_,w8⟩;have e:p=(D,cx (its++[yv])<|k+1):=by simpa using j
  subst e;refine⟨?_,E,L,as,λv z=>by cases z⟩;rw[show cx (its++[yv]) (k+1)=({ cls:=.type "list",data:=.seq (its.toArray.push yv) (k+1) }:d8) by rw[List.push_toArray]];exact o9;obtain⟨o,e,_⟩:=T.obj _ _ B b d;exact(J9.pin (b,o)<|G d e).2.1;rw[A7];exact aS
def PIG(X:Cx)(P:It->List d7->d7->(Nat->d9->Prop)->Prop)(r:i9)(wi:TI):Prop:=∀(p:List (d7×d8)) (s:g8) (σ:St) (H:Hp) (R:It->Hp->Prop),u6 X p σ H s->wi σ H R ->i7 (j2 X.prog X.w) X.A (eval r X.env) (λv f=>i7 (j2 X.prog X.w) X.A (l6 v) (λi a=>∃it C tn J H',i=.ref it/\u6 X p σ H' a/\P J C it tn/\tn 0 a.heap/\(∀b∈C,sZ X p H' b)/\R J H') X.xe f) X.xe s
theorem JT(B:BlkSc X N' nt js scope)(V:∀J fp it tn,PP J fp it tn->Turn X.prog X.w X.K tg J fp it tn/\∀pins σ H s cl s0 ex,u6 X pins σ H s->TurnX (D0 X N' scope cl s0 H ex) tg J fp it tn)(hi:PIG X PP iter wi)(hg:∀cl s0 H0 ex,PG (D0 X N' scope cl s0 H0 ex) tg g) (ht:∀cl s0 H0 ex,NH (D0 X N' scope cl s0 H0 ex) ifs tt) (Y:∀cl s0 H0 ex,PE (D0 X N' scope cl s0 H0 ex) elt te)(hs:∀x,l9 iter X.env x=pure x:=by intro _;rfl):PE X (.ListComp elt [⟨tg,iter,ifs,0⟩] scope pos) (QF nt js wi g tt te):=by
 intro pins s σ H Q I h;rw[eval_ListComp];obtain⟨cl,D,d,m⟩:=jO (scope:=scope) (env:=X.env) λp hp Z=>I.ok.has p.1<|B.free p hp Z;refine wpAny_comprehension_free (use:=a8) rfl hs D B.kind B.loc ?_;refine z6 (hi pins s σ H _ I h) λv s1 h1=>z6 h1 λab a h2=>?_;obtain⟨it,fp,tn,J,P,e,f,T,U,N,W,⟨m0,w0⟩,M⟩:=h2;obtain⟨T,S⟩:=V _ _ _ _ T;subst e;refine K5<|wpAny_newFunctionEnv B.nocell (by intro y hy;simp at hy) (λh1 n r=>?_) B.kind;have j:∀b∈fp,b<a.heap.objs.size:=λb i=>by obtain⟨o,e,_⟩:=T.obj _ _ U b i;exact C2 e
 have O:(a.heap.push<|cx [] 0).objs.size=a.heap.objs.size+1:=MH ..;have u:∀b o,(a.heap.push<|cx [] 0).get? b=a7 o->h1.get? b=a7 o:=λb o e=>(r.2 b<|D6<|C2 e).trans<|A9 _ e;have R:=f.blkStart (tk:=a.toks+([]:List (c9×b9)).length) B d m N j u n;have C:tn 0 h1:=T.keep _ _ _ U λb _ o e=>u b o<|A9 _ e;have F:a.heap.objs.size∉fp:=λz=>K9 _<|j _ z;have G:a.heap.objs.size∉K7 X.stack:=λz=>by rcases A5.mp (f.stkSub _ z)with q|q;exact r9 f.lt (by rw[<-q];exact K9 _);exact f.nofs (z5 _) q
 have E:a.heap.objs.size≠(a.heap.push<|cx [] 0).objs.size:=by rw[O];exact D6<|MW _
 have ltc:∀z c,cl.lookup z=a7 c->c<a.heap.objs.size:=λz c e=>by obtain⟨v,q⟩:=f.cell z c<|d z c e;exact q.lt
 have t:∀b∈fp,b≠(a.heap.push<|cx [] 0).objs.size/\b∉K7 X.stack/\∀x c,cl.lookup x=a7 c->c≠b:=λb i=>by refine⟨by rw[O];exact D6<|OZ<|j b i,λz=>?_,λx c e=>(N b i).2.2.2.2.1 x c<|d x c e⟩;rcases A5.mp (f.stkSub b z)with q|q;exact(N b i).2.1 q;exact(N b i).2.2.1 q
 have l:n3 (j2 X.prog X.w) X.A (.compLoop (.ListComp elt [⟨tg,iter,ifs,0⟩] scope pos) 0 (.ref it) (.ref a.heap.objs.size)<|compEnvC scope cl (a.heap.push<|cx [] 0).objs.size X.env) (compPost (j2 X.prog X.w) X.A X.xe a8 (EP X pins σ Q) (.ref a.heap.objs.size) (a.heap.push<|cx [] 0).objs.size) { a with heap:=h1,toks:=a.toks+([]:List (c9×b9)).length }:=by refine AR (s0:={ a with heap:=a.heap.push (cx [] 0) }) (H0:=P) (N':=N') (Q:=Q) (S _ _ _ _ _ _ _ f) (hg _ _ _ _) (ht _ _ _ _) (Y _ _ _ _) T F M t E G (λx c e=>D6<|ltc x c e) ?_ m0 R C (λb i=>(N b i).1) w0;intro τ H' s' vs its k L rv hl q;obtain⟨mm,hn,_⟩:=id L.loc;exact⟨mm,hn,λh' sb=>⟨.ref a.heap.objs.size,_,f.blkEnd N L rv hl sb,rfl,q⟩⟩
 exact codeAny_compStart_list l<|T.self _ 0 _ _ _ C l
theorem pe_lc{C t r:i9}{i:List i9}{scope:g9}{a:Pos}{N':List c9}{n:Nat}{j:List Nat}{wi:TI}{g:TG}{tt:TT}{te:TE}(B:BlkSc X N' n j scope)(h:X.calm=a9)(hi:PI X t r wi)(S:∀cl s0 H0 ex,PG (D0 X N' scope cl s0 H0 ex) t g) (D:∀cl s0 H0 ex,NH (D0 X N' scope cl s0 H0 ex) i tt) (e:∀cl s0 H0 ex,PE (D0 X N' scope cl s0 H0 ex) C te)(hs:∀x,l9 r X.env x=pure x:=by intro _;rfl):PE X (.ListComp C [⟨t,r,i,0⟩] scope a) (QF n j wi g tt te):=JT B (λJ f it tn (T:Turn X.prog X.w X.K t J f it tn)=>⟨T,λ_ _ _ _ cl s0 ex _=>Turn.at T h⟩)
  (λp s σ H R I q=>z6 (hi p s σ H R I q) λv k h1=>z6 h1 λd l ⟨it,f,tn,J,H',m,b,N,c,y,A⟩=>⟨it,f,tn,J,H',m,b,N,c,y,A⟩) S D e hs
section
inductive D where
 |non|bl (b:Bool)|int (i:Int)|str (x:c9)|ty (n:String)|tup (ds:List D)|ref (n:Nat)
inductive MO where
 |lst (xs:List D)
 |fz (xs:List D)
 |kl (xs:List D)
 |dct (kvs:List (c9×D))
 |dkt (kvs:List (D×D))
 |dkq (e:Nat) (kvs:List (D×D))
 |dkm (kvs:List (D×D))
 |fdc (o:d8) (kvs:List (c9×D))
 |tb (x:c9) (b:Bool)
 |exc (x:c9) (e:d7)
 |ins (c:c9) (fs:List (c9×D))
 |tl (x:c9) (p:Pos) (q:c9) (e:d7)
noncomputable abbrev u8:=List MO
noncomputable def MO.isL:MO->Bool
 |.dct _=>b7
 |.dkt _=>b7
 |.dkq _ _=>b7
 |.fdc _ _=>b7
 |.dkm _=>b7
 |.tb _ _=>b7
 |.exc _ _=>b7
 |.ins _ _=>b7
 |.tl _ _ _ _=>b7
 |_=>a9
noncomputable def pe(ks:List c9)(vs:List V):List (D9×V):=(ks.zip vs).map λp=>(ACE p.1,p.2)
mutual
inductive w5(K:v9)(ρ:List d7)(H:Hp):D->V->Prop
 |non:w5 K ρ H .non .non
 |bl (b:Bool):w5 K ρ H (.bl b) (.bl b)
 |int (i:Int):w5 K ρ H (.int i) (.int i)
 |str (x:c9):w5 K ρ H (.str x) (.str x)
 |ty (n:String):w5 K ρ H (.ty n) (.ty n)
 |tup {a:d7}{vs:List V}{ds:List D} (h:E2 K H a vs) (r:Reps K ρ H ds vs):w5 K ρ H (.tup ds) (.ref a)
 |ref {n:Nat}{a:d7} (h:ρ[n]?=a7 a):w5 K ρ H (.ref n) (.ref a)
inductive Reps(K:v9)(ρ:List d7)(H:Hp):List D->List V->Prop
 |nil:Reps K ρ H [] []
 |cons {d:D}{v:V}{ds:List D}{vs:List V} (h:w5 K ρ H d v) (t:Reps K ρ H ds vs):Reps K ρ H (d::ds) (v::vs)
end
def KList(K:v9)(a:d7)(xs:List V):Prop:=∃(o:d8) (its:Array b9) (n:Nat),K.lookup a=a7 o/\o.cls=.type "list"/\o.dict=a8/\o.data=.seq its n/\its.size<=sizeLine/\ax xs its.toList
noncomputable def dh:Nat->D->Bool
 |_,.str _=>a9
 |_,.int _=>a9
 |n+1,.tup ds=>ds.all<|dh n
 |_,_=>b7
noncomputable def C8(w:d5):Nat->D->Int
 |_,.str x=>hashStr w x
 |_,.int i=>hashInt i
 |n+1,.tup ds=>o8<|O7<|ds.map<|C8 w n
 |_,_=>0
def dX(a:d7)(xs:List (D×d7×b9)):d6->d5->d9->Prop:=λ_ w h =>
 ∃(o:d8) (es:Array o7),h.get? a=a7 o/\o.ExactDict/\o.data=.dict es xs.length/\es.toList=xs.map λx=>⟨C8 w 8 x.1,.ref x.2.1,x.2.2⟩
def dQ(a:d7)(e:Nat)(xs:List (D×d7×b9)):d6->d5->d9->Prop:=λ_ w h =>
 ∃(o:d8) (es:Array o7),h.get? a=a7 o/\o.ExactDict/\o.data=.dict es e/\es.toList=xs.map λx=>⟨C8 w 8 x.1,.ref x.2.1,x.2.2⟩
noncomputable def keyM:D->Bool
 |.non=>a9
 |.tup ks=>dh 8<|.tup ks
 |_=>b7
noncomputable def hkM(w:d5):D->Int
 |.non=>o8 0xFCA86420
 |d=>C8 w 8 d
noncomputable def entM(hs:D->Int)(x:D×b9×b9):o7:=⟨hs x.1,x.2.1,x.2.2⟩
def dM(a:d7)(xs:List (D×b9×b9)):d6->d5->d9->Prop:=λ_ w h =>
 ∃(o:d8) (es:Array o7),h.get? a=a7 o/\o.ExactDict/\o.data=.dict es xs.length/\es.toList=xs.map (entM<|hkM w)
def QP(K:v9)(ρ:List d7)(H:Hp)(p:D×D)(q:D×b9×b9):Prop:=p.1=q.1/\keyM p.1=a9/\(∃u,w5 K ρ H p.1 u/\aQ u q.2.1)/\∃v,w5 K ρ H p.2 v/\aQ v q.2.2
def tw(K:v9)(ρ:List d7)(H:Hp)(p:D×D)(q:D×d7×b9):Prop:=p.1=q.1/\dh 8 p.1=a9/\w5 K ρ H p.1 (.ref q.2.1)/\∃v,w5 K ρ H p.2 v/\aQ v q.2.2
def RC(o:d8)(C:b9):Prop:=o.cls=C/\∃vs,o.data=.fields vs/\vs[2]?=a7 .none
def yk(K:v9)(ρ:List d7)(H:Hp)(a:d7):MO->Prop
 |.lst ds=>∃vs,H a=a7 (.lst vs)/\Reps K ρ H ds vs
 |.fz ds=>∃o vs,H a=a7 (.frz o<|.lst vs)/\Reps K ρ H ds vs
 |.kl ds=>∃vs,KList K a vs/\Reps K ρ H ds vs
 |.dct kvs=>∃vs,H a=a7 (.dK (pe (kvs.map (·.1)) vs))/\Reps K ρ H (kvs.map (·.2)) vs
 |.dkt kvs=>kvs.length<=sizeLine/\(a==f6)=b7/\(kvs.map (·.1)).Nodup/\∃xs,H a=a7 (.ext<|dX a xs)/\Paired (tw K ρ H) kvs xs
 |.dkq e kvs=>kvs.length<=sizeLine/\(a==f6)=b7/\(kvs.map (·.1)).Nodup/\∃xs,H a=a7 (.ext<|dQ a e xs)/\Paired (tw K ρ H) kvs xs
 |.dkm kvs=>kvs.length<=sizeLine/\(a==f6)=b7/\(kvs.map (·.1)).Nodup/\∃xs,H a=a7 (.ext<|dM a xs)/\Paired (QP K ρ H) kvs xs
 |.fdc o kvs=>∃vs,H a=a7 (.frz o (.dK (pe (kvs.map (·.1)) vs)))/\Reps K ρ H (kvs.map (·.2)) vs
 |.tb x b=>(∃c,PySem.W.tabIn K x=a7 (c,a)/\∀h:d9,K.In h->PySem.W.CodeHd h c a)/\∃ps,H a=a7 (.tbl ps)/\(b=b7->ps = #[])
 |.exc x e=>e=a/\∃C o,Nv K f7 x=a7 (a7<|.ref C)/\RC o (.ref C)/\H a=a7 (.frz o<|.own a)
 |.ins c fs=>∃C dx vs,Nv K f7 c=a7 (a7<|.ref C)/\H a=a7 (.ins C dx ((fs.map (·.1)).zip vs))/\Reps K ρ H (fs.map (·.2)) vs
 |.tl x p q e=>(∃c,PySem.W.tabIn K x=a7 (c,a)/\∀h:d9,K.In h->PySem.W.CodeHd h c a)/\∃o vs t,H a=a7 (.tbl #[l7 p.line,l7 p.col,.ref e])/\H e=a7 (.frz o<|.own e)/\o.data=.fields vs/\vs[1]?=a7 (.str q t)
def Nn(mo:Option MO):Prop:=∃ds,mo=a7 (.kl ds)
def ao(M:u8)(n:Nat)(xs:List D):Prop:=M[n]?=a7 (.lst xs)\/M[n]?=a7 (.fz xs)\/M[n]?=a7 (.kl xs)
structure x8(K:v9)(ρ:List d7)(M:u8)(H:Hp):Prop where
 nd:∀(n m:Nat) (a:d7),n≠m->ρ[n]?=a7 a->ρ[m]?=a7 a->Nn M[n]?\/Nn M[m]?
 len:ρ.length=M.length
 obj:∀(n:Nat) (a:d7) (mo:MO),ρ[n]?=a7 a->M[n]?=a7 mo->yk K ρ H a mo
structure Grow(K:v9)(ρ:List d7)(H:Hp)(ρ':List d7)(H':Hp):Prop where
 pre:ρ <+: ρ'
 tup:∀a xs,E2 K H a xs->E2 K H' a xs
 fr:∀a o,H a=a7 (.frz o<|.own a)->H' a=a7 (.frz o<|.own a)
theorem Grow.refl{K:v9}{ρ:List d7}{H:Hp}:Grow K ρ H ρ H:=⟨Q3,λ_ _ h=>h,λ_ _ h=>h⟩
theorem Grow.trans{K:v9}{ρ c d:List d7}{H e f:Hp}(a:Grow K ρ H c e)(b:Grow K c e d f):Grow K ρ H d f:=⟨a.pre.trans b.pre,λx xs h=>b.tup x xs<|a.tup x xs h,λx o h=>b.fr x o<|a.fr x o h⟩
theorem aO{α:Type}{l l':List α}(h:l <+: l'){n:Nat}{a:α}(e:l[n]?=a7 a):l'[n]?=a7 a:=by obtain⟨t,rfl⟩:=h;rw[J0 (A3.mp e).1];exact e
theorem w5.grow{K:v9}{ρ a:List d7}{H H':Hp}(g:Grow K ρ H a H'){d:D}{v:V}(h:w5 K ρ H d v):w5 K a H' d v:=w5.rec (motive_1:=λd v _=>w5 K a H' d v) (motive_2:=λds vs _=>Reps K a H' ds vs) .non .bl .int .str .ty (λh _ r=>.tup (g.tup _ _ h) r) (λh=>.ref<|aO g.pre h) .nil (λ_ _ h t=>.cons h t) h
theorem Reps.grow{K:v9}{ρ a:List d7}{H H':Hp}(g:Grow K ρ H a H'){ds:List D}{vs:List V}(h:Reps K ρ H ds vs):Reps K a H' ds vs:=Reps.rec (motive_1:=λd v _=>w5 K a H' d v) (motive_2:=λds vs _=>Reps K a H' ds vs) .non .bl .int .str .ty (λh _ r=>.tup (g.tup _ _ h) r) (λh=>.ref<|aO g.pre h) .nil (λ_ _ h t=>.cons h t) h
section
variable{K:v9}{ρ ρ':List d7}{H H':Hp}{M:u8}
theorem Reps.length(h:Reps K ρ H ds vs):ds.length=vs.length:=Reps.rec (motive_1:=λ_ _ _=>True) (motive_2:=λds vs _=>ds.length=vs.length) trivial (λ_=>trivial) (λ_=>trivial) (λ_=>trivial) (λ_=>trivial) (λ_ _ _=>trivial) (λ_=>trivial) rfl (λ_ _ _ t=>t7 Nat.succ t) h
theorem Reps.append(h:Reps K ρ H ds vs)(s:Reps K ρ H es ws):Reps K ρ H (ds++es) (vs++ws):=Reps.rec (motive_1:=λ_ _ _=>True) (motive_2:=λds vs _=>Reps K ρ H (ds++es)<|vs++ws) trivial (λ_=>trivial) (λ_=>trivial) (λ_=>trivial) (λ_=>trivial) (λ_ _ _=>trivial) (λ_=>trivial) s (λh _ _ t=>.cons h t) h
theorem Reps.get:∀{ds:List D}{vs:List V}{i:Nat}{d:D},Reps K ρ H ds vs->ds[i]?=a7 d->∃v,vs[i]?=a7 v/\w5 K ρ H d v
 |_,_,_,_,.nil,e=>by simp at e
 |_,_,0,_,.cons r _,e=>by simp at e;subst e;exact⟨_,rfl,r⟩
 |_,_,i+1,d,.cons _ t,e=>by obtain⟨v,h1,h2⟩:=Reps.get (i:=i) (d:=d) t (by simpa using e);exact⟨v,by simpa using h1,h2⟩
theorem Reps.getV:∀{ds:List D}{vs:List V}{i:Nat}{v:V},Reps K ρ H ds vs->vs[i]?=a7 v->∃d,ds[i]?=a7 d/\w5 K ρ H d v
 |_,_,_,_,.nil,e=>by simp at e
 |_,_,0,_,.cons r _,e=>by simp at e;subst e;exact⟨_,rfl,r⟩
 |_,_,i+1,d,.cons _ t,e=>by obtain⟨v,h1,h2⟩:=Reps.getV (i:=i) (v:=d) t (by simpa using e);exact⟨v,by simpa using h1,h2⟩
theorem Reps.take:∀{ds:List D}{vs:List V} (n:Nat),Reps K ρ H ds vs->Reps K ρ H (ds.take n) (vs.take n)
 |_,_,0,_=>by simpa using .nil
 |_,_,_+1,.nil=>.nil
 |_,_,n+1,.cons r t=>.cons r<|Reps.take n t
theorem Reps.drop:∀{ds:List D}{vs:List V} (n:Nat),Reps K ρ H ds vs->Reps K ρ H (ds.drop n) (vs.drop n)
 |_,_,0,r=>r
 |_,_,_+1,.nil=>.nil
 |_,_,n+1,.cons _ t=>Reps.drop n t
theorem E2.laid(b:H p=a8)(h:E2 K H a xs):E2 K (A0 H p o) a xs:=by
 rcases h with h|h;rcases h with h|⟨c,h⟩
 exact .inl (.inl<|by rw[az<|ag h b];exact h);exact .inl<|.inr ⟨c,by rw[az<|ag h b];exact h⟩;exact .inr h
noncomputable def HO.noT:HO->Bool
 |.tup _=>b7
 |.frz _ _=>b7
 |_=>a9
theorem E2.written(b:H p=a7 o')(t:o'.noT=a9)(h:E2 K H a xs):E2 K (A0 H p o) a xs:=by
 have F:∀u,u.noT=b7->H a=a7 u->a≠p:=λu q e z=>by rw[z,b]at e;cases e;rw[t]at q;cases q
 rcases h with h|h;rcases h with h|⟨c,h⟩
 exact .inl (.inl<|by rw[az<|F _ rfl h];exact h);exact .inl<|.inr ⟨c,by rw[az<|F _ rfl h];exact h⟩;exact .inr h
theorem Grow.laid(a:H p=a8):Grow K ρ H ρ (A0 H p o):=⟨Q3,λ_ _ h=>E2.laid a h,λ_ _ h=>(az<|ag h a).trans h⟩
theorem Grow.laidR(a:H p=a8):Grow K ρ H (ρ++[p]) (A0 H p o):=⟨NO _ _,λ_ _ h=>E2.laid a h,λ_ _ h=>(az<|ag h a).trans h⟩
theorem x8.tracked(S:x8 K ρ M H){n:Nat}{a:d7}(e:ρ[n]?=a7 a):(∃o,H a=a7 o)\/Nn M[n]?:=by
 have f:n<M.length:=by rw[<-S.len];exact(A3.mp e).1
 have m:M[n]?=a7 M[n]:=C4 f;have h:=S.obj n a _ e m;rw[m];cases d:M[n] with
 |lst ds=>rw[d]at h;obtain⟨vs,h,_⟩:=h;exact .inl ⟨_,h⟩
 |fz ds=>rw[d]at h;obtain⟨o,vs,h,_⟩:=h;exact .inl ⟨_,h⟩
 |kl ds=>exact .inr ⟨ds,rfl⟩
 |dct kvs=>rw[d]at h;obtain⟨vs,h,_⟩:=h;exact .inl ⟨_,h⟩
 |dkt kvs=>rw[d]at h;obtain⟨_,_,_,xs,h,_⟩:=h;exact .inl ⟨_,h⟩
 |dkq _ kvs=>rw[d]at h;obtain⟨_,_,_,xs,h,_⟩:=h;exact .inl ⟨_,h⟩
 |fdc o kvs=>rw[d]at h;obtain⟨vs,h,_⟩:=h;exact .inl ⟨_,h⟩
 |dkm kvs=>rw[d]at h;obtain⟨_,_,_,xs,h,_⟩:=h;exact .inl ⟨_,h⟩
 |tb x b=>rw[d]at h;obtain⟨_,ps,h,_⟩:=h;exact .inl ⟨_,h⟩
 |exc x e=>rw[d]at h;obtain⟨_,_,_,_,_,h⟩:=h;exact .inl ⟨_,h⟩
 |ins c s=>rw[d]at h;obtain⟨_,_,_,_,h,_⟩:=h;exact .inl ⟨_,h⟩
 |tl x p q e=>rw[d]at h;obtain⟨_,_,_,_,h,_⟩:=h;exact .inl ⟨_,h⟩
theorem yk.grow(g:Grow K ρ H ρ' H')(hs:H' a=H a\/Nn (a7 mo))(h:yk K ρ H a mo):yk K ρ' H' a mo:=by
 by_cases z:Nn (a7 mo);obtain⟨ds,z⟩:=z;cases z;obtain⟨vs,e,r⟩:=h;exact⟨vs,e,r.grow g⟩;have d:=hs.resolve_right z;clear hs;have y:∀{kvs:List (D×D)}{xs:List (D×d7×b9)},Paired (tw K ρ H) kvs xs->Paired (tw K ρ' H') kvs xs:=λr=>Paired.mapP r λ_ _ ⟨k,l,m,v,w,O⟩=>⟨k,l,m.grow g,v,w.grow g,O⟩
 cases mo with
 |lst ds=>obtain⟨vs,e,r⟩:=h;exact⟨vs,d.trans e,r.grow g⟩
 |fz ds=>obtain⟨o,vs,e,r⟩:=h;exact⟨o,vs,d.trans e,r.grow g⟩
 |kl ds=>exact r9 ⟨ds,rfl⟩ z
 |dct kvs=>obtain⟨vs,e,r⟩:=h;exact⟨vs,d.trans e,r.grow g⟩
 |dkt kvs=>obtain⟨h1,h2,j,xs,e,r⟩:=h;exact⟨h1,h2,j,xs,d.trans e,y r⟩
 |dkq _ kvs=>obtain⟨h1,h2,j,xs,e,r⟩:=h;exact⟨h1,h2,j,xs,d.trans e,y r⟩
 |dkm kvs=>obtain⟨h1,h2,j,xs,e,r⟩:=h;exact⟨h1,h2,j,xs,d.trans e,Paired.mapP r λ_ _ ⟨k,l,⟨u,m,s⟩,v,w,O⟩=>⟨k,l,⟨u,m.grow g,s⟩,v,w.grow g,O⟩⟩
 |fdc o kvs=>obtain⟨vs,e,r⟩:=h;exact⟨vs,d.trans e,r.grow g⟩
 |tb x b=>obtain⟨c,ps,e,q⟩:=h;exact⟨c,ps,d.trans e,q⟩
 |exc x e=>obtain⟨B,C,o,e,i,q⟩:=h;exact⟨B,C,o,e,i,d.trans q⟩
 |ins c F=>obtain⟨C,A,vs,n,e,r⟩:=h;exact⟨C,A,vs,n,d.trans e,r.grow g⟩
 |tl x p q E=>obtain⟨c,o,vs,t,e,f,r⟩:=h;exact⟨c,o,vs,t,d.trans e,g.fr _ _ f,r⟩
theorem x8.keeps{p:d7}{o:HO}(S:x8 K ρ M H)(h:H p=a8){n:Nat}{a:d7}{mo:MO}(t:ρ[n]?=a7 a)(l:M[n]?=a7 mo):A0 H p o a=H a\/Nn (a7 mo):=by rcases S.tracked t with⟨c,b⟩|q;exact .inl<|az<|ag b h;rw[l]at q;exact .inr q
theorem x8.laid{p:d7}{o:HO}(S:x8 K ρ M H)(h:H p=a8):x8 K ρ M (A0 H p o):=⟨S.nd,S.len,λn a m t l=>(S.obj n a m t l).grow (Grow.laid h)<|S.keeps h t l⟩
theorem bK{α:Type}{l:List α}{x y:α}{n:Nat}(h:(l++[x])[n]?=a7 y):l[n]?=a7 y\/(n=l.length/\y=x):=by
 by_cases f:n<l.length;rw[J0 f]at h;exact .inl h;have a:n=l.length:=by have:=(A3.mp h).1;rw[A7,J4]at this;lia
 subst a;rw[ND<|z5 _,Nu]at h;simp at h;exact .inr ⟨rfl,h.symm⟩
theorem Nn.more{mo:MO}{n:Nat}(h:Nn M[n]?):Nn (M++[mo])[n]?:=by obtain⟨ds,e⟩:=h;exact⟨ds,by rw[J0 (A3.mp e).1];exact e⟩
theorem x8.laidM(S:x8 K ρ M H)(b:H p=a8)(ok:yk K (ρ++[p]) (A0 H p o) p mo):x8 K (ρ++[p]) (M++[mo]) (A0 H p o):=by
 have g:Grow K ρ H (ρ++[p]) (A0 H p o):=Grow.laidR b;have d:∀(n:Nat),ρ[n]?=a7 p->Nn M[n]?:=λn e=>by rcases S.tracked e with⟨o,q⟩|q;rw[b]at q;cases q;exact q
 refine⟨λn m a h t l=>?_,by rw[A7,A7,S.len];rfl,λn a c t l=>?_⟩;rcases bK t with f|⟨f,g1⟩
 rcases bK l with N|⟨N,i⟩
 exact(S.nd n m a h f N).elim (λz=>.inl z.more) λz=>.inr z.more;subst i;exact .inl (d n f).more;rcases bK l with N|⟨N,i⟩
 subst g1;exact .inr (d m N).more;exact r9 (f.trans N.symm) h;rcases bK t with f|⟨f,g1⟩
 have j:n<M.length:=by rw[<-S.len];exact(A3.mp f).1
 rw[J0 j]at l;exact(S.obj n a c f l).grow g<|S.keeps b f l;subst g1 f;rw[S.len,ND<|z5 _,Nu]at l;simp at l;subst l;exact ok
theorem x8.laidL{p:d7}{ds:List D}{vs:List V}(S:x8 K ρ M H)(h:H p=a8)(r:Reps K ρ H ds vs):x8 K (ρ++[p]) (M++[.lst ds]) (A0 H p<|.lst vs):=S.laidM h ⟨vs,bi,r.grow<|Grow.laidR h⟩
theorem x8.last(S:x8 K ρ M H):(ρ++[p])[M.length]?=a7 p:=by rw[<-S.len,ND<|z5 _,Nu];rfl
theorem x8.writeG(S:x8 K ρ M H)(t:ρ[n]?=a7 a)(c:¬Nn M[n]?)(p:H a=a7 o')(r:o'.noT=a9)(ok:Grow K ρ H ρ (A0 H a o)->yk K ρ (A0 H a o) a mo):x8 K ρ (M.set n mo) (A0 H a o)/\Grow K ρ H ρ (A0 H a o):=by
 have g:Grow K ρ H ρ (A0 H a o):=⟨Q3,λ_ _ h=>E2.written p r h,λb _ h=>(az λz=>by rw[z,p]at h;cases h;cases r).trans h⟩
 have k:∀m,m≠n->(M.set n mo)[m]?=M[m]?:=λm d=>NB<|D3 d;refine⟨⟨λm l b e f N=>?_,by rw[MU];exact S.len,λm b i f N=>?_⟩,g⟩;have q:=S.nd m l b e f N;by_cases h1:m=n;subst h1;rw[k l<|D3 e];exact .inr<|q.resolve_left c;rw[k m h1];by_cases h2:l=n;subst h2;exact .inl<|q.resolve_right c;rw[k l h2];exact q;by_cases d:m=n;subst d;have j:b=a:=F3<|f.symm.trans t;subst j;rw[O5<|by rw[<-S.len];exact(A3.mp t).1]at N;cases N;exact ok g;rw[k m d]at N;by_cases j:b=a;subst j;have s:=(S.nd m n b d f t).resolve_right c;rw[N]at s;exact(S.obj m b i f N).grow g<|.inr s;exact(S.obj m b i f N).grow g<|.inl<|az j
theorem x8.write(S:x8 K ρ M H)(t:ρ[n]?=a7 a)(b:M[n]?=a7 (.lst ds))(h:H a=a7 (.lst vs))(r:Reps K ρ H ds' vs'):x8 K ρ (M.set n<|.lst ds') (A0 H a<|.lst vs')/\Grow K ρ H ρ (A0 H a<|.lst vs'):=S.writeG t (λ⟨_,z⟩=>by rw[b]at z;cases z) h rfl λg=>⟨vs',bi,r.grow g⟩
theorem ao.seq(S:x8 K ρ M H)(h:ao M n xs)(e:ρ[n]?=a7 a):∃vs,J1 K H a vs/\Reps K ρ H xs vs:=by rcases h with h|h|h;obtain⟨vs,q,r⟩:=S.obj n a _ e h;exact⟨vs,.inl<|.inl q,r⟩;obtain⟨o,vs,q,r⟩:=S.obj n a _ e h;exact⟨vs,.inl<|.inr ⟨o,q⟩,r⟩;obtain⟨vs,q,r⟩:=S.obj n a _ e h;exact⟨vs,.inr q,r⟩
theorem x8.get(S:x8 K ρ M H){n:Nat}{mo:MO}(e:M[n]?=a7 mo):∃a,ρ[n]?=a7 a/\yk K ρ H a mo:=by
 have f:n<ρ.length:=by rw[S.len];exact(A3.mp e).1
 exact⟨ρ[n],C4 f,S.obj n _ mo (C4 f) e⟩
end
noncomputable abbrev SD:=List<|Option D
structure SRep(K:v9)(ρ:List d7)(H:Hp)(S:SD)(σ:St):Prop where
 len:S.length=σ.length
 get:∀(i:Nat) (d:D),S[i]?=a7 (a7 d)->∃v,σ[i]?=a7 (a7 v)/\w5 K ρ H d v
theorem SRep.grow{K:v9}{ρ a:List d7}{H H':Hp}{S:SD}{σ:St}(r:SRep K ρ H S σ)(g:Grow K ρ H a H'):SRep K a H' S σ:=⟨r.len,λi d e=>let ⟨v,h1,h2⟩:=r.get i d e;⟨v,h1,h2.grow g⟩⟩
theorem SRep.set{K:v9}{ρ:List d7}{H:Hp}{S:SD}{σ:St}(r:SRep K ρ H S σ)(i:Nat){d:D}{v:V}(h:w5 K ρ H d v):SRep K ρ H (S.set i<|a7 d) (σ.set i<|a7 v):=by refine⟨by rw[MU,MU];exact r.len,λj e L=>?_⟩;by_cases a:i=j;subst a;by_cases g:i<S.length;rw[O5 g]at L;cases L;exact⟨v,by rw[O5<|by rw[<-r.len];exact g],h⟩;rw[O2<|by rw[MU];lia]at L;cases L;rw[NB a]at L;rw[NB a];exact r.get j e L
abbrev DK:=D->u8->Prop
abbrev A2:=SD->u8->DK->Prop
abbrev J5:=SD->u8->(Bool->u8->Prop)->Prop
abbrev K2:=SD->u8->(List D->u8->Prop)->Prop
structure DEnds where
 nx:SD->u8->Prop
 rt:DK
 bk:SD->u8->Prop:=λ_ _=>False
 ct:SD->u8->Prop:=λ_ _=>False
abbrev u7:=DEnds->SD->u8->Prop
abbrev ML:=D->SD->u8->(SD->u8->Prop)->Prop
abbrev IH:=List D->SD->u8->(SD->u8->Prop)->Prop
abbrev G8:=D->D->u8->DK->Prop
abbrev PY:=D->u8->DK->Prop
abbrev E9:=List D->u8->DK->Prop
section
variable(K:v9)
inductive VQ(ρ:List d7)(H:Hp)(Q:DK)(v:V)(H':Hp):Prop
 |mk (d:D) (M':u8) (ρ':List d7) (s:x8 K ρ' M' H') (g:Grow K ρ H ρ' H') (r:w5 K ρ' H' d v) (q:Q d M')
inductive BQ(ρ:List d7)(H:Hp)(Q:Bool->u8->Prop)(b:Bool)(H':Hp):Prop
 |mk (M':u8) (ρ':List d7) (s:x8 K ρ' M' H') (g:Grow K ρ H ρ' H') (q:Q b M')
inductive AQ(ρ:List d7)(H:Hp)(Q:List D->u8->Prop)(vs:List V)(H':Hp):Prop
 |mk (ds:List D) (M':u8) (ρ':List d7) (s:x8 K ρ' M' H') (g:Grow K ρ H ρ' H') (r:Reps K ρ' H' ds vs) (q:Q ds M')
inductive SQ(ρ:List d7)(H:Hp)(Q:SD->u8->Prop)(σ':St)(H':Hp):Prop
 |mk (S':SD) (M':u8) (ρ':List d7) (s:x8 K ρ' M' H') (g:Grow K ρ H ρ' H') (r:SRep K ρ' H' S' σ') (q:Q S' M')
structure PL(ρ:List d7)(H:Hp)(F:DEnds)(E:Ends):Prop where
 nx:∀σ' H',SQ K ρ H F.nx σ' H'->E.nx σ' H'
 rt:∀v H',VQ K ρ H F.rt v H'->E.rt v H'
 bk:∀σ' H',SQ K ρ H F.bk σ' H'->E.bk σ' H'
 ct:∀σ' H',SQ K ρ H F.ct σ' H'->E.ct σ' H'
inductive lowE(t:A2)(σ:St)(H:Hp)(R:VK):Prop
 |mk (S:SD) (M:u8) (ρ:List d7) (Q:DK) (s:x8 K ρ M H) (sr:SRep K ρ H S σ) (q:t S M Q) (k:∀v H',VQ K ρ H Q v H'->R v H')
inductive lowT(t:J5)(σ:St)(H:Hp)(R:Bool->Hp->Prop):Prop
 |mk (S:SD) (M:u8) (ρ:List d7) (Q:Bool->u8->Prop) (s:x8 K ρ M H) (sr:SRep K ρ H S σ) (q:t S M Q) (k:∀v H',BQ K ρ H Q v H'->R v H')
inductive lowA(t:K2)(σ:St)(H:Hp)(R:List V->Hp->Prop):Prop
 |mk (S:SD) (M:u8) (ρ:List d7) (Q:List D->u8->Prop) (s:x8 K ρ M H) (sr:SRep K ρ H S σ) (q:t S M Q) (k:∀v H',AQ K ρ H Q v H'->R v H')
inductive lowS(t:u7)(E:Ends)(σ:St)(H:Hp):Prop
 |mk (S:SD) (M:u8) (ρ:List d7) (F:DEnds) (s:x8 K ρ M H) (sr:SRep K ρ H S σ) (q:t F S M) (k:PL K ρ H F E)
inductive lowG(g:ML)(v:V)(σ:St)(H:Hp)(R:St->Hp->Prop):Prop
 |mk (d:D) (S:SD) (M:u8) (ρ:List d7) (Q:SD->u8->Prop) (s:x8 K ρ M H) (sr:SRep K ρ H S σ) (r:w5 K ρ H d v) (q:g d S M Q) (k:∀σ' H',SQ K ρ H Q σ' H'->R σ' H')
inductive lowGs(g:IH)(vs:List V)(σ:St)(H:Hp)(R:St->Hp->Prop):Prop
 |mk (ds:List D) (S:SD) (M:u8) (ρ:List d7) (Q:SD->u8->Prop) (s:x8 K ρ M H) (sr:SRep K ρ H S σ) (r:Reps K ρ H ds vs) (q:g ds S M Q) (k:∀σ' H',SQ K ρ H Q σ' H'->R σ' H')
inductive lowR(r:G8)(vx vy:V)(H:Hp)(R:VK):Prop
 |mk (x y:D) (M:u8) (ρ:List d7) (Q:DK) (s:x8 K ρ M H) (r1:w5 K ρ H x vx) (r2:w5 K ρ H y vy) (q:r x y M Q) (k:∀v H',VQ K ρ H Q v H'->R v H')
inductive lowU(r:PY)(vx:V)(H:Hp)(R:VK):Prop
 |mk (x:D) (M:u8) (ρ:List d7) (Q:DK) (s:x8 K ρ M H) (r1:w5 K ρ H x vx) (q:r x M Q) (k:∀v H',VQ K ρ H Q v H'->R v H')
inductive lowC(r:E9)(vs:List V)(H:Hp)(R:VK):Prop
 |mk (ds:List D) (M:u8) (ρ:List d7) (Q:DK) (s:x8 K ρ M H) (r1:Reps K ρ H ds vs) (q:r ds M Q) (k:∀v H',VQ K ρ H Q v H'->R v H')
end
def DE(X:Cx)(e:i9)(t:A2):Prop:=PE X e<|lowE X.K t
def DT(X:Cx)(e:i9)(t:J5):Prop:=PT X e<|lowT X.K t
def DW(X:Cx)(e:i9)(t:J5):Prop:=PW X e<|lowT X.K t
def DA(X:Cx)(es:List i9)(t:K2):Prop:=PA X es<|lowA X.K t
def DS(X:Cx)(st:j7)(t:u7):Prop:=PS X st<|lowS X.K t
def NI(X:Cx)(st:List j7)(t:u7):Prop:=L7 X st<|lowS X.K t
def DG(X:Cx)(t:i9)(g:ML):Prop:=PG X t<|lowG X.K g
def PZ(X:Cx)(t:List i9)(g:IH):Prop:=PQ X t<|lowGs X.K g
def G7(X:Cx)(f:b9->b9->Sem b9)(r:G8):Prop:=E4 X f<|lowR X.K r
def Rz(X:Cx)(f:b9->Sem b9)(r:PY):Prop:=QL X f<|lowU X.K r
def iL(X:Cx)(f:b9)(r:E9):Prop:=df X f<|lowC X.K r
section
variable{K:v9}{ρ ρ1:List d7}{H H1:Hp}
theorem VQ.trans(g:Grow K ρ H ρ1 H1)(h:VQ K ρ1 H1 Q v H'):VQ K ρ H Q v H':=by obtain⟨d,M,a,s,b,r,q⟩:=h;exact⟨d,M,a,s,g.trans b,r,q⟩
theorem BQ.trans(g:Grow K ρ H ρ1 H1)(h:BQ K ρ1 H1 Q v H'):BQ K ρ H Q v H':=by obtain⟨M,a,s,b,q⟩:=h;exact⟨M,a,s,g.trans b,q⟩
theorem SQ.trans(g:Grow K ρ H ρ1 H1)(h:SQ K ρ1 H1 Q v H'):SQ K ρ H Q v H':=by obtain⟨d,M,a,s,b,r,q⟩:=h;exact⟨d,M,a,s,g.trans b,r,q⟩
theorem PL.trans(g:Grow K ρ H ρ1 H1)(h:PL K ρ H F E):PL K ρ1 H1 F E:=⟨λa H' q=>h.nx a H'<|SQ.trans g q,λv H' q=>h.rt v H'<|VQ.trans g q,λa H' q=>h.bk a H'<|SQ.trans g q,λa H' q=>h.ct a H'<|SQ.trans g q⟩
theorem VQ.now(s:x8 K ρ M H)(r:w5 K ρ H d v)(q:Q d M):VQ K ρ H Q v H:=⟨d,M,ρ,s,.refl,r,q⟩
end
section
variable{K:v9}{ρ:List d7}{H:Hp}{v:V}{vs:List V}
theorem w5.inv_non(h:w5 K ρ H .non v):v=.non:=by cases h;rfl
theorem w5.inv_bl(h:w5 K ρ H (.bl b) v):v=.bl b:=by cases h;rfl
theorem w5.inv_int(h:w5 K ρ H (.int i) v):v=.int i:=by cases h;rfl
theorem w5.inv_str(h:w5 K ρ H (.str x) v):v=.str x:=by cases h;rfl
theorem w5.inv_ty(h:w5 K ρ H (.ty n) v):v=.ty n:=by cases h;rfl
theorem w5.inv_tup(h:w5 K ρ H (.tup ds) v):∃a vs,v=.ref a/\E2 K H a vs/\Reps K ρ H ds vs:=by cases h with|tup h r=>exact⟨_,_,rfl,h,r⟩
theorem w5.inv_ref(h:w5 K ρ H (.ref n) v):∃a,v=.ref a/\ρ[n]?=a7 a:=by cases h with|ref h=>exact⟨_,rfl,h⟩
theorem ax.inv_cons(h:ax (x::vs) us):∃u ws,us=u::ws/\aQ x u/\ax vs ws:=by cases h with|cons h t=>exact⟨_,_,rfl,h,t⟩
theorem ax.inv_nil(h:ax [] us):us=[]:=by cases h;rfl
theorem Reps.inv_nil(h:Reps K ρ H [] vs):vs=[]:=by cases h;rfl
theorem Reps.inv_cons(h:Reps K ρ H (d::ds) vs):∃v ws,vs=v::ws/\w5 K ρ H d v/\Reps K ρ H ds ws:=by cases h with|cons h t=>exact⟨_,_,rfl,h,t⟩
end
end
theorem PE.imp(h:PE X e t')(i:∀σ H R,t σ H R->t' σ H R):PE X e t:=λp s σ H R I q=>h p s σ H R I<|i σ H R q
theorem PT.imp(h:PT X e t')(i:∀σ H R,t σ H R->t' σ H R):PT X e t:=λp s σ H R I q=>h p s σ H R I<|i σ H R q
theorem PW.imp(h:PW X e t')(i:∀σ H R,t σ H R->t' σ H R):PW X e t:=λw p s σ H R I q=>h w p s σ H R I<|i σ H R q
theorem PA.imp(h:PA X e t')(i:∀σ H R,t σ H R->t' σ H R):PA X e t:=λa p s σ H R I q=>h a p s σ H R I<|i σ H R q
theorem PS.imp(h:PS X e t')(i:∀E σ H,t E σ H->t' E σ H):PS X e t:=λp s σ H R I q=>h p s σ H R I<|i R σ H q
theorem L7.imp(h:L7 X e t')(i:∀E σ H,t E σ H->t' E σ H):L7 X e t:=λp s σ H R I q=>h p s σ H R I<|i R σ H q
theorem E4.imp(h:E4 X f r')(i:∀x y H R,r x y H R->r' x y H R):E4 X f r:=λp s σ H x y v u R I a b q=>h p s σ H x y v u R I a b<|i x y H R q
theorem df.imp(h:df X f r')(i:∀xs H R,r xs H R->r' xs H R):df X f r:=λp s σ H xs us R I a q=>h p s σ H xs us R I a<|i xs H R q
section
variable{X:Cx}{a b c:i9}{ta tb tc:A2}{pos:Pos}
def ac(i:Nat):A2:=λS M Q=>match S[i]? with
 |some (a7 d)=>Q d M
 |_=>False
def dC(d:D):A2:=λ_ M Q=>Q d M
theorem Dq{K:v9}{i:Nat}(σ:St)(H:Hp)(R:VK)(h:lowE K (ac i) σ H R):tVar i σ H R:=by
 obtain⟨S,M,ρ,Q,s,r,q,k⟩:=h;unfold ac at q;cases e:S[i]? with
 |none=>rw[e]at q;exact q.elim
 |some o =>
  cases o with
  |none=>rw[e]at q;exact q.elim
  |some d=>rw[e]at q;obtain⟨v,c,a⟩:=r.get i d e;exact⟨v,c,k v H<|VQ.now s a q⟩
theorem d_var(h:X.N[i]?=a7 x:=by rfl)(c:OK X.env.scope x:=by first|exact Or.inl rfl|exact Or.inr (Or.inl rfl)|exact Or.inr<|Or.inr rfl)(a:(x==("__debug__":c9))=b7:=by decide)(d:(x==("__classdict__":c9))=b7:=by decide):DE X (.Name x pos) (ac i):=PE.imp (zW h c a d) Dq
noncomputable def cV:D->Option V
 |.non=>a7 .non
 |.bl b=>a7<|.bl b
 |.int i=>a7<|.int i
 |.str x=>a7<|.str x
 |.ty n=>a7<|.ty n
 |_=>a8
theorem BR{K:v9}{ρ:List d7}{H:Hp}{d:D}{v:V}(h:cV d=a7 v):w5 K ρ H d v:=by
 cases d with
 |non=>cases h;exact .non
 |bl b=>cases h;exact .bl b
 |int b=>cases h;exact .int b
 |str b=>cases h;exact .str b
 |ty b=>cases h;exact .ty b
 |tup b=>cases h
 |ref b=>cases h
theorem oj{K:v9}{d:D}{v:V}(a:cV d=a7 v)(σ:St)(H:Hp)(R:VK)(h:lowE K (dC d) σ H R):tC v σ H R:=by obtain⟨S,M,ρ,Q,s,r,q,k⟩:=h;exact k v H<|VQ.now s (BR a) q
theorem d_int{i:Int}{j:Nat}:DE X (.Constant (.int i) j pos) (dC<|.int i):=PE.imp JV<|oj rfl
theorem d_bl{i:Bool}{j:Nat}:DE X (.Constant (.bool i) j pos) (dC<|.bl i):=PE.imp JX<|oj rfl
theorem d_non{j:Nat}:DE X (.Constant .none j pos) (dC .non):=PE.imp JR<|oj rfl
theorem d_str{i:c9}{j:Nat}:DE X (.Constant (.str i) j pos) (dC<|.str i):=PE.imp JO<|oj rfl
theorem Mf(m:X.mg x=a7 u)(h:cV d=a7 v)(r:aQ v u)(S:Gl X x:=by rfl)(b:(x==("__debug__":c9))=b7:=by decide):DE X (.Name x pos) (dC d):=PE.imp (ua S m r b)<|oj h
theorem Mc{x:c9}{T:String}(m:X.mg x=a8)(c:f8 x=a7 (.type T))(S:Gl X x:=by rfl)(f:x≠"__name__":=by decide)(d:(x==("__debug__":c9))=b7:=by decide):DE X (.Name x pos) (dC<|.ty T):=PE.imp (Gi (v:=.ty T) S m c rfl f d)<|oj rfl
theorem low2{K:v9}{S:SD}{M:u8}{ρ:List d7}{σ:St}{H:Hp}{P:D->D->u8->Prop}{G:V->V->Hp->Prop}(s:x8 K ρ M H)(r:SRep K ρ H S σ)(h:ta S M λx M1=>tb S M1 λy M2=>P x y M2)(k:∀x y vx vy M2 ρ2 H2,x8 K ρ2 M2 H2->Grow K ρ H ρ2 H2->w5 K ρ2 H2 x vx->w5 K ρ2 H2 y vy->P x y M2->G vx vy H2):lowE K ta σ H λvx H1=>lowE K tb σ H1 λvy H2=>G vx vy H2:=by refine⟨S,M,ρ,_,s,r,h,?_⟩;rintro vx H1 ⟨x,M1,c,f,g1,a,q⟩;refine⟨S,M1,c,_,f,r.grow g1,q,?_⟩;rintro vy H2 ⟨y,M2,ρ2,w,i,m,j⟩;exact k x y vx vy M2 ρ2 H2 w (g1.trans i) (a.grow i) m j
def u4(r:G8)(t c:A2):A2:=λS M Q=>t S M λx a=>c S a λy b=>r x y b Q
theorem ph{K:v9}{r:G8}(σ:St)(H:Hp)(R:VK)(h:lowE K (u4 r ta tb) σ H R):OI (lowR K r) (lowE K ta) (lowE K tb) σ H R:=by obtain⟨S,M,ρ,Q,s,e,q,k⟩:=h;exact low2 s e q λx y g l b d f c i a m j=>⟨x,y,b,d,Q,c,a,m,j,λv H' w=>k v H'<|VQ.trans i w⟩
theorem d_op(B:G7 X (m3 op) r)(f:DE X a ta)(d:DE X b tb):DE X (.BinOp a op b pos) (u4 r ta tb):=PE.imp (pe_op B f d) ph
theorem d_cmp(B:G7 X (m5 op) r)(f:DE X a ta)(d:DE X b tb)(m:m8 op b=b7:=by with_unfolding_all rfl):DE X (.Compare a [op] [b] pos) (u4 r ta tb):=PE.imp (Gg B f d m) ph
def al(t:A2):J5:=λS M Q=>t S M λx a=>match x with
 |.bl b=>Q b a
 |_=>False
theorem iw{K:v9}{t:A2}(σ:St)(H:Hp)(R:Bool->Hp->Prop)(h:lowT K (al t) σ H R):FE (lowE K t) σ H R:=by
 obtain⟨S,M,ρ,Q,s,e,q,k⟩:=h;refine⟨S,M,ρ,_,s,e,q,?_⟩;rintro v H' ⟨d,c,a,s',g,r',j⟩;cases r' with
 |bl b=>exact⟨b,rfl,k b H' ⟨c,a,s',g,j⟩⟩
 |_=>exact j.elim
theorem LM(B:G7 X (m5 op) r)(f:DE X a ta)(d:DE X b tb)(m:m8 op b=b7:=by with_unfolding_all rfl):DT X (.Compare a [op] [b] pos) (al<|u4 r ta tb):=by refine PT.imp (zQ B f d m) λσ H R h=>?_;obtain⟨S,M,ρ,Q,s,e,q,k⟩:=iw σ H R h;exact ph σ H _ ⟨S,M,ρ,Q,s,e,q,k⟩
theorem LK(h:DE X e t)(i:∀whole,isTrue e X.env whole=(do let v <-whole;standAt e.pos;j8 [v] (truthy v)):=by intro _;rfl):DT X e (al t):=PT.imp (JE h i) iw
def QI(z:D)(k:Bool->Prop):Prop:=match z with
 |.bl b=>k b
 |_=>False
theorem rT{b:Bool}{k:Bool->Prop}:QI (.bl b) k=k b:=rfl
def cT(r r':G8)(t f g:A2):A2:=λS M Q=>t S M λx c=>f S c λy d=>r x y d λz a=>QI z λb=>if b=a9 then g S a λw e=>r' y w e Q else Q (.bl b7) a
theorem oh{K:v9}{r r':G8}(σ:St)(H:Hp)(R:VK)(h:lowE K (cT r r' ta tb tc) σ H R):zm (lowR K r) (lowR K r') (lowE K ta) (lowE K tb) (lowE K tc) σ H R:=by
 obtain⟨S,M,ρ,Q,s,l,q,k⟩:=h;refine low2 s l q λx y J L o e F C i A m t=>⟨x,y,o,e,_,C,A,m,t,?_⟩
 rintro N n ⟨z,c,a,j,g3,D,d⟩;cases D with
 |bl b =>
  cases b with
  |false=>exact⟨b7,rfl,bc<|k _ n ⟨_,c,a,j,i.trans g3,.bl b7,(show Q (.bl b7) c from d)⟩⟩
  |true=>refine⟨a9,rfl,aM ⟨S,c,a,_,j,l.grow<|i.trans g3,(show tc S c _ from d),?_⟩⟩;rintro I G ⟨w,p,f,E,g,B,u⟩;exact⟨y,w,p,f,Q,E,m.grow<|g3.trans g,B,u,λv H' Y=>k v H'<|VQ.trans ((i.trans g3).trans g) Y⟩
 |_=>exact d.elim
theorem Ik(B:G7 X (m5 op) r)(h:G7 X (m5 op') r')(f:DE X a ta)(d:DE X b tb)(e:DE X c tc)(m:lastMarks [op,op'] [b,c]=b7:=by with_unfolding_all rfl):DE X (.Compare a [op,op'] [b,c] pos) (cT r r' ta tb tc):=PE.imp (CS B h f d e m) oh
theorem En(B:G7 X (m5 op) r)(d:G7 X (m5 op') r')(f:DE X a ta)(e:DE X b tb)(g:DE X c tc)(m:lastMarks [op,op'] [b,c]=b7:=by with_unfolding_all rfl):DT X (.Compare a [op,op'] [b,c] pos) (al<|cT r r' ta tb tc):=by refine PT.imp (CK B d f e g m) λσ H R h=>?_;obtain⟨S,M,ρ,Q,s,i,q,k⟩:=iw σ H R h;exact oh σ H _ ⟨S,M,ρ,Q,s,i,q,k⟩
variable{tA tB:J5}{aX:List i9}
def Fl(t u:J5):J5:=λS M Q=>t S M λb a=>if b=a9 then u S a Q else Q b7 a
def G4(t u:J5):J5:=λS M Q=>t S M λb a=>if b=a9 then Q a9 a else u S a Q
def dz(t:J5):J5:=λS M Q=>t S M λb a=>Q (!b) a
theorem HP(f:DT X a tA):DW X (.BoolOp .And [a] pos) tA:=FR f
theorem LI(f:DT X a tA):DW X (.BoolOp .Or [a] pos) tA:=JC f
theorem LJ(i:DT X a tA)(j:DW X (.BoolOp .And (b::aX) pos) tB):DW X (.BoolOp .And (a::b::aX) pos) (Fl tA tB):=by
 refine PW.imp (JD i j) ?_;rintro σ H R ⟨S,M,ρ,Q,s,r,q,k⟩;refine⟨S,M,ρ,_,s,r,q,?_⟩;rintro c h ⟨e,d,g,g1,f⟩;cases c with
 |true=>exact aM ⟨S,e,d,Q,g,r.grow g1,(show tB S e Q from f),λv H' w=>k v H'<|BQ.trans g1 w⟩
 |false=>exact bc<|k b7 h ⟨e,d,g,g1,f⟩
theorem dw_or(i:DT X a tA)(j:DW X (.BoolOp .Or (b::aX) pos) tB):DW X (.BoolOp .Or (a::b::aX) pos) (G4 tA tB):=by
 refine PW.imp (pw_or i j) ?_;rintro σ H R ⟨S,M,ρ,Q,s,r,q,k⟩;refine⟨S,M,ρ,_,s,r,q,?_⟩;rintro c h ⟨e,d,g,g1,f⟩;cases c with
 |false=>exact bc ⟨S,e,d,Q,g,r.grow g1,(show tB S e Q from f),λv H' w=>k v H'<|BQ.trans g1 w⟩
 |true=>exact aM<|k a9 h ⟨e,d,g,g1,f⟩
theorem dw_t(h:DW X e t):DT X e t:=PW.pt h
theorem LL(f:DT X a tA):DT X (.UnaryOp .Not a pos) (dz tA):=by refine PT.imp (JF f) ?_;rintro σ H R ⟨S,M,ρ,Q,s,r,q,k⟩;refine⟨S,M,ρ,_,s,r,q,?_⟩;rintro c d ⟨e,b,h,g1,g⟩;exact k (!c) d ⟨e,b,h,g1,g⟩
def bt(t c:A2):A2:=λS M Q=>t S M λx a=>QI x λb=>if b=a9 then c S a Q else Q (.bl b7) a
def Mh(t c:A2):A2:=λS M Q=>t S M λx a=>QI x λb=>if b=a9 then Q (.bl a9) a else c S a Q
def BI(t:A2):A2:=λS M Q=>t S M λx a=>match x with
 |.bl b=>Q (.bl<|!b) a
 |_=>False
theorem d_one{op}(h:DE X a ta):DE X (.BoolOp op [a] pos) ta:=JP h
theorem d_and(j:DE X a ta)(l:DE X (.BoolOp .And (b::aX) pos) tb):DE X (.BoolOp .And (a::b::aX) pos) (bt ta tb):=by
 refine PE.imp (JY j l) ?_;rintro σ H R ⟨S,M,ρ,Q,s,r,q,k⟩;refine⟨S,M,ρ,_,s,r,q,?_⟩;rintro v i ⟨d,f,e,h,g1,m,g⟩;cases m with
 |bl c =>
  cases c with
  |true=>exact⟨a9,rfl,aM ⟨S,f,e,Q,h,r.grow g1,(show tb S f Q from g),λv H' w=>k v H'<|VQ.trans g1 w⟩⟩
  |false=>exact⟨b7,rfl,bc<|k _ i ⟨_,f,e,h,g1,.bl b7,(show Q (.bl b7) f from g)⟩⟩
 |_=>exact g.elim
theorem d_or(j:DE X a ta)(l:DE X (.BoolOp .Or (b::aX) pos) tb):DE X (.BoolOp .Or (a::b::aX) pos) (Mh ta tb):=by
 refine PE.imp (pe_or j l) ?_;rintro σ H R ⟨S,M,ρ,Q,s,r,q,k⟩;refine⟨S,M,ρ,_,s,r,q,?_⟩;rintro v i ⟨d,f,e,h,g1,m,g⟩;cases m with
 |bl c =>
  cases c with
  |false=>exact⟨b7,rfl,bc ⟨S,f,e,Q,h,r.grow g1,(show tb S f Q from g),λv H' w=>k v H'<|VQ.trans g1 w⟩⟩
  |true=>exact⟨a9,rfl,aM<|k _ i ⟨_,f,e,h,g1,.bl a9,(show Q (.bl a9) f from g)⟩⟩
 |_=>exact g.elim
theorem d_not(h:DE X a ta):DE X (.UnaryOp .Not a pos) (BI ta):=by
 refine PE.imp (JQ h) ?_;rintro σ H R ⟨S,M,ρ,Q,s,j,q,k⟩;refine⟨S,M,ρ,_,s,j,q,?_⟩;rintro v f ⟨d,g,b,i,g1,r,e⟩;cases r with
 |bl c=>exact⟨c,rfl,k _ f ⟨_,g,b,i,g1,.bl<|!c,e⟩⟩
 |_=>exact e.elim
variable{e:i9}{es:List i9}{te:A2}{t:K2}
def ad:K2:=λ_ M Q=>Q [] M
def aa(te:A2)(t:K2):K2:=λS M Q=>te S M λd a=>t S a λds b=>Q (d::ds) b
theorem Mb:DA X [] ad:=by refine PA.imp Ka ?_;rintro σ H R ⟨S,M,ρ,Q,s,e,q,k⟩;exact k [] H ⟨[],M,ρ,s,.refl,.nil,q⟩
theorem Ig(h:DE X e te)(j:DA X es t)(hs:j6 (e::es) X.env=(b7,eval e X.env)::j6 es X.env:=by rfl):DA X (e::es) (aa te t):=by refine PA.imp (Gm h j hs) ?_;rintro σ H R ⟨S,M,ρ,Q,s,r,q,k⟩;refine⟨S,M,ρ,_,s,r,q,?_⟩;rintro v u ⟨d,f,c,p,g1,n,l⟩;refine⟨S,f,c,_,p,r.grow g1,l,?_⟩;rintro vs b ⟨ds,g,a,w,i,o,m⟩;exact k _ b ⟨d::ds,g,a,w,g1.trans i,.cons (n.grow i) o,m⟩
def cR(t:K2):A2:=λS M Q=>t S M λds a=>ds.length<=sizeLine/\Q (.tup ds) a
def fM(t:K2):A2:=λS M Q=>t S M λds a=>ds.length<=sizeLine/\Q (.ref a.length) (a++[.lst ds])
theorem VQ.laidT{K:v9}{ρ c:List d7}{H a:Hp}{M:u8}{ds:List D}{vs:List V}{Q:DK}{p:d7}(f:x8 K c M a)(g1:Grow K ρ H c a)(r:Reps K c a ds vs)(h:a p=a8)(q:Q (.tup ds) M):VQ K ρ H Q (.ref p) (A0 a p<|.tup vs):=⟨.tup ds,M,c,f.laid h,g1.trans<|Grow.laid h,.tup (E2.of bi)<|r.grow<|Grow.laid h,q⟩
theorem VQ.laidL{K:v9}{ρ c:List d7}{H a:Hp}{M:u8}{ds:List D}{vs:List V}{Q:DK}{p:d7}(f:x8 K c M a)(g1:Grow K ρ H c a)(r:Reps K c a ds vs)(h:a p=a8)(q:Q (.ref M.length) (M++[.lst ds])):VQ K ρ H Q (.ref p) (A0 a p<|.lst vs):=⟨.ref M.length,M++[.lst ds],c++[p],f.laidL h r,g1.trans<|Grow.laidR h,.ref f.last,q⟩
theorem d_tup{x1}(h:DA X es t):DE X (.Tuple es x1 pos) (cR t):=by refine PE.imp (JN h) ?_;rintro σ H R ⟨S,M,ρ,Q,s,e,q,k⟩;refine⟨S,M,ρ,_,s,e,q,?_⟩;rintro vs d ⟨ds,g,b,f,g1,r,z,c⟩;exact⟨by rw[<-r.length];exact z,λp a=>k _ _<|VQ.laidT f g1 r a c⟩
theorem d_lst(h:DA X es t):DE X (.List es pos) (fM t):=by refine PE.imp (JS h) ?_;rintro σ H R ⟨S,M,ρ,Q,s,e,q,k⟩;refine⟨S,M,ρ,_,s,e,q,?_⟩;rintro vs d ⟨ds,g,b,f,g1,r,z,c⟩;exact⟨by rw[<-r.length];exact z,λp a=>k _ _<|VQ.laidL f g1 r a c⟩
def u5(r:E9)(t:K2):A2:=λS M Q=>t S M λds a=>r ds a Q
theorem AE{K:v9}{r:E9}(σ:St)(H:Hp)(R:VK)(h:lowE K (u5 r t) σ H R):Rv (lowC K r) (lowA K t) σ H R:=by obtain⟨S,M,ρ,Q,s,e,q,k⟩:=h;refine⟨S,M,ρ,_,s,e,q,?_⟩;rintro vs g ⟨ds,a,c,f,g1,d,b⟩;exact⟨ds,a,c,Q,f,d,b,λv H' w=>k v H'<|VQ.trans g1 w⟩
theorem Il{x:c9}{p:Pos}{id:String}{r:E9}(c:iL X (.builtin id) r)(d:X.mg x=a8)(v:f8 x=a7 (.builtin id))(f:DA X (e::es) t)(S:Gl X x:=by rfl)(n:x≠"__name__":=by decide)(b:(x==("__debug__":c9))=b7:=by decide)(i:j6 (e::es) X.env=(b7,eval e X.env)::j6 es X.env:=by rfl) (l:(j5 pos<|j6 es X.env).any (·.1)=b7:=by rfl):DE X (.Call (.Name x p) (e::es) [] pos) (u5 r t):=PE.imp (CT c S d v f n b i l) AE
theorem Et(c:iL X (.type T) r)(d:X.mg x=a8)(v:f8 x=a7 (.type T))(f:DA X (e::es) t)(S:Gl X x:=by rfl)(n:x≠"__name__":=by decide)(b:(x==("__debug__":c9))=b7:=by decide)(i:j6 (e::es) X.env=(b7,eval e X.env)::j6 es X.env:=by rfl) (l:(j5 pos<|j6 es X.env).any (·.1)=b7:=by rfl):DE X (.Call (.Name x p) (e::es) [] pos) (u5 r t):=PE.imp (zX c S d v f n b i l) AE
abbrev A4:=List D->u8->DK->Prop
def Nl(K:v9)(P:A4):Sp:=λvs H Q _=>∃ds M ρ R,x8 K ρ M H/\Reps K ρ H ds vs/\P ds M R/\∀v H',VQ K ρ H R v H'->Q v H'
theorem AC{K:v9}{P:A4}(σ:St)(H:Hp)(R:VK)(h:lowE K (u5 P t) σ H R):Jh (Nl K P) [] E0 (lowA K t) σ H R:=by obtain⟨S,M,ρ,Q,s,e,q,k⟩:=h;exact⟨S,M,ρ,_,s,e,q,λvs d ⟨ds,a,c,f,g1,r,b⟩=>⟨ds,a,c,Q,f,by rw[NZ];exact r,b,λv H' w=>k v H'<|VQ.trans g1 w⟩⟩
theorem Mg(F:FnOk X.prog X.w X.K X.mg X.base L5 k f fd ps (Nl X.K P))(r:Room k X.A)(m:X.mg x=a7 (.ref f))(h:Ox X.K (.ref f)=a9)(d:tj X.K fd ps [])(a:DA X (e::es) t) (S:Gl X x:=by rfl) (b:(x==("__debug__":c9))=b7:=by decide) (i:j6 (e::es) X.env=(b7,eval e X.env)::j6 es X.env:=by rfl) (l:(j5 pos<|j6 es X.env).any (·.1)=b7:=by rfl):DE X (.Call (.Name x p) (e::es) [] pos) (u5 P t):=PE.imp (Gh F r S m h d .nil pass0 a b i l) AC
end
def ay:u7:=λE S M=>E.nx S M
def aB(t u:u7):u7:=λE S M=>t { E with nx:=λb a=>u E b a } S M
theorem LQ:NI X [] ay:=by refine L7.imp FX ?_;rintro E σ H ⟨S,M,ρ,F,s,e,q,k⟩;exact k.nx σ H ⟨S,M,ρ,s,.refl,e,q⟩
theorem LP{X:Cx}{st:j7}{t:u7}(h:DS X st t):NI X [st] t:=FW h
theorem HZ{X:Cx}{st:j7}{aX:List j7}{t u:u7}(h1:DS X st t)(h2:NI X aX u):NI X (st::aX) (aB t u):=by refine L7.imp (CL h1 h2) ?_;rintro E σ H ⟨S,M,ρ,F,s,e,q,k⟩;exact⟨S,M,ρ,_,s,e,q,⟨λf H' ⟨d,c,b,s',g,a,j⟩=>⟨d,c,b,F,s',a,j,k.trans g⟩,k.rt,k.bk,k.ct⟩⟩
def nq(te:A2):u7:=λE S M=>te S M λ_ a=>E.nx S a
theorem HV(i:DE X e te)(hs:j9 e a8 pos.line X.env=pure b7:=by rfl):DS X (.Expr e pos) (nq te):=by refine PS.imp (FY i hs) ?_;rintro E σ H ⟨S,M,ρ,F,s,r,q,k⟩;refine⟨S,M,ρ,_,s,r,q,?_⟩;rintro v a ⟨d,b,c,g,g1,h,f⟩;exact k.nx σ a ⟨S,b,c,g,g1,r.grow g1,f⟩
def aK(te:A2):u7:=λE S M=>te S M E.rt
theorem LO(i:DE X e te):DS X (.Return (a7 e) pos) (aK te):=by refine PS.imp (JH i) ?_;rintro E σ H ⟨S,M,ρ,F,s,r,q,k⟩;exact⟨S,M,ρ,_,s,r,q,λv a w=>k.rt v a w⟩
def z9(c:J5)(t u:u7):u7:=λE S M=>c S M λb a=>if b=a9 then t E S a else u E S a
theorem ds_if(j:DT X c tc)(h:NI X a t)(i:NI X b u):DS X (.If c a b pos) (z9 tc t u):=by
 refine PS.imp (ps_if j h i) ?_;rintro E σ H ⟨S,M,ρ,F,s,r,q,k⟩;refine⟨S,M,ρ,_,s,r,q,?_⟩;rintro c l ⟨e,d,g,g1,f⟩;cases c with
 |true=>exact aM ⟨S,e,d,F,g,r.grow g1,(show t F S e from f),k.trans g1⟩
 |false=>exact bc ⟨S,e,d,F,g,r.grow g1,(show u F S e from f),k.trans g1⟩
def bL(te:A2)(i:Nat):u7:=λE S M=>te S M λd a=>E.nx (S.set i<|a7 d) a
theorem LN(h:X.N.Nodup)(f:DE X e te)(hi:X.N[i]?=a7 x:=by rfl)(j:Os X.env.scope x:=by first|exact Or.inl rfl|exact Or.inr rfl)(hs:j9 e (a7<|.Name x pos') pos.line X.env=pure b7:=by rfl)(g:X.fn x=a9\/X.env.scope.names.lookup x=a7 .local:=by first|exact .inl rfl|exact .inr rfl|assumption):DS X (.Assign [.Name x pos'] e pos) (bL te i):=by refine PS.imp (JG h hi j f hs g) ?_;rintro E σ H ⟨S,M,ρ,F,s,r,q,k⟩;refine⟨S,M,ρ,_,s,r,q,?_⟩;rintro v a ⟨d,b,c,n,g1,m,l⟩;exact k.nx _ a ⟨_,b,c,n,g1,(r.grow g1).set i m,l⟩
def av(i:Nat):ML:=λd S M Q=>Q (S.set i<|a7 d) M
theorem uZ(h:X.N.Nodup)(hi:X.N[i]?=a7 x:=by rfl)(a:Os X.env.scope x:=by first|exact Or.inl rfl|exact Or.inr rfl)(f:X.fn x=a9\/X.env.scope.names.lookup x=a7 .local:=by first|exact .inl rfl|exact .inr rfl|assumption):DG X (.Name x pos) (av i):=λp s σ H v u R I r ⟨d,S,M,ρ,Q,m,e,b,q,k⟩=>Ge h hi a f p s σ H v u R I r<|k _ H ⟨_,M,ρ,m,.refl,e.set i b,q⟩
theorem xh{P:d6}{w:d5}{K:v9}{Z:i9}(it:d7)(n:Nat)(PV:Nat->b9->Prop)(PX:Nat->V->Prop)(Sx:Nat->d9->Prop)(W:∀A':f9,A'.handled=a8->Walks P w A' it [it] [it] n PV Sx) (l:∀i v,PV i v->∃x,aQ x v/\PX i x)(j:∀i h,Sx i h->∃(o:d8) (nm:String) (vs:Array b9),h.get? it=a7 o/\o.cls=.type nm/\o.data=.fields vs/\["enumerate","zip","dict_itemiterator","dict_reverseitemiterator","odict_iterator","itertools.zip_longest","itertools.pairwise"].contains nm=b7)(a:∀(i:Nat) (h h':d9),Sx i h->(∀o,h.get? it=a7 o->h'.get? it=a7 o)->Sx i h')(g:∀(A:f9) (i:Nat) (s:g8) (Q:b9->g8->Prop) (E:b9->g8->Prop),Sx i s.heap->Q (.ref it) s->i7 (j2 P w) A (l6<|.ref it) Q E s):Turn P w K Z ⟨λi _=>i<n,λi H x H'=>H'=H/\PX i x,λi _=>i=n⟩ [it] it Sx where
 mem:=by simp
 obj:=λi h t b f=>by
  have e:b=it:=by simpa using f
  subst e;obtain⟨o,nm,vs,e,_,d,_⟩:=j i h t;exact⟨o,e,λv z=>by rw[d]at z;cases z⟩
 keep:=λi h h' t k=>a i h h' t λo e=>k it (by simp) o e
 item:=by intro X F J D G i p s σ H E I q t S;subst F J D;obtain⟨r,u,O,y,B,C⟩:=q it (by simp);refine(W X.A<|I.ok.hd G).item i s _ _ S t λv h' M T m L=>?_;obtain⟨x,Y,U⟩:=l i v T;have N:u6 X p σ H { s with heap:=h',toks:=M }:=I.turned (λb o f e=>L b o (by simpa using f) e) r u y B C;obtain⟨o,nm,vs,e,c,d,R⟩:=j _ _ m;exact⟨v,rfl,Ee (s:={ s with heap:=h',toks:=M }) e c d R ⟨x,H,N,Y,⟨rfl,U⟩,m,λb f=>(q b f).1⟩⟩
 done:=by intro X F J D G i p s σ H E I q t S;subst F J D;obtain⟨r,u,O,y,B,C⟩:=q it (by simp);have hi:i=n:=S;subst hi;exact(W X.A<|I.ok.hd G).done s _ _ t λh' M L=>⟨rfl,I.turned (λb o f e=>L b o (by simpa using f) e) r u y B C⟩
 self:=g
noncomputable def signs(x:c9):List D:=x.cps.toList.map λc=>.str ⟨#[c]⟩
structure RA where
 items:List D
 ok:u8->Prop
abbrev Nr:=SD->u8->(RA->u8->Prop)->Prop
structure L9(K:v9)(src:RA)(ρ0:List d7)(H0:Hp)(J:It):Prop where
 go:∀(i:Nat) ρ M H,x8 K ρ M H->Grow K ρ0 H0 ρ H->src.ok M->i<src.items.length->J.go i H
 yld:∀(i:Nat) ρ M H x H',x8 K ρ M H->Grow K ρ0 H0 ρ H->src.ok M->i<src.items.length->J.yld i H x H'->∃d ρ',src.items[i]?=a7 d/\x8 K ρ' M H'/\Grow K ρ H ρ' H'/\w5 K ρ' H' d x
 stop:∀(ρ:List d7) M H,x8 K ρ M H->Grow K ρ0 H0 ρ H->src.ok M->J.stop src.items.length H
def IQ(K:v9)(ρ:List d7)(H:Hp)(Q:RA->u8->Prop):It->Hp->Prop:=λJ H'=>∃src M a,x8 K a M H'/\Grow K ρ H a H'/\L9 K src a H' J/\Q src M
def lowI(K:v9)(i:Nr):TI:=λσ H R=>∃S M ρ Q,x8 K ρ M H/\SRep K ρ H S σ/\i S M Q/\∀J H',IQ K ρ H Q J H'->R J H'
def DI(X:Cx)(g r:i9)(i:Nr):Prop:=PI X g r<|lowI X.K i
theorem L9.tup{K:v9}{ρ:List d7}{H:Hp}{a:d7}{vs:List V}{ds:List D}(h:E2 K H a vs)(r:Reps K ρ H ds vs)(q:∀ys,E2 K H a ys->ys=vs):L9 K ⟨ds,λ_=>True⟩ ρ H (R1 K a) where
 go:=λi b M H' s g _ hi=>by
  have l:i<vs.length:=by rw[<-r.length];exact hi
  exact⟨vs,vs[i],g.tup a vs h,C4 l⟩
 yld:=λi b M H' x f s g _ hi y=>by obtain⟨rfl,y⟩:=y;obtain⟨d,c,e⟩:=(r.grow g).getV<|y vs<|g.tup a vs h;exact⟨d,b,c,s,.refl,e⟩
 stop:=λb M H' s g _=>⟨vs,g.tup a vs h,by rw[<-r.length];exact z5 _⟩
theorem L9.lst{K:v9}{ρ:List d7}{H:Hp}{n:Nat}{a:d7}{ds:List D}(e:ρ[n]?=a7 a):L9 K ⟨ds,λM=>ao M n ds⟩ ρ H (R3 K a) where
 go:=λi b M H' s g ok hi=>by
  obtain⟨vs,h,r⟩:=ao.seq s ok<|aO g.pre e;have l:i<vs.length:=by rw[<-r.length];exact hi
  exact⟨vs,vs[i],h,C4 l⟩
 yld:=λi b M H' x j s g ok hi y=>by obtain⟨rfl,y⟩:=y;obtain⟨vs,h,r⟩:=ao.seq s ok<|aO g.pre e;obtain⟨d,c,f⟩:=r.getV<|y vs h;exact⟨d,b,c,s,.refl,f⟩
 stop:=λb M H' s g ok=>by obtain⟨vs,h,r⟩:=ao.seq s ok<|aO g.pre e;exact⟨vs,h,by rw[<-r.length];exact z5 _⟩
theorem L9.plain{K:v9}{ρ:List d7}{H:Hp}{ds:List D}{J:It}(S:∀i H,i<ds.length->J.go i H)(Q:∀i H x H',i<ds.length->J.yld i H x H'->H'=H/\∃d,ds[i]?=a7 d/\cV d=a7 x)(hs:∀H,J.stop ds.length H):L9 K ⟨ds,λ_=>True⟩ ρ H J where
 go:=λi a M H' s g _ hi=>S i H' hi
 yld:=λi a M H' x b s g _ hi y=>by obtain⟨rfl,d,h,c⟩:=Q i _ x b hi y;exact⟨d,a,h,s,.refl,BR c⟩
 stop:=λa M H' s g _=>hs H'
def bF(te:A2):Nr:=λS M R=>te S M λd a=>match d with
 |.tup ds=>ds.length<=sizeLine->R ⟨ds,λ_=>True⟩ a
 |.str x=>R ⟨signs x,λ_=>True⟩ a
 |.ref n=>∃xs,ao a n xs/\(xs.length<=sizeLine->R ⟨xs,λM=>ao M n xs⟩ a)
 |_=>False
theorem LX(hl:DE X l tl):DI X tg l (bF tl):=by
 intro y s σ H R I h;obtain⟨S,M,ρ,Q,sm,sr,q,k⟩:=h;refine z6 (hl y s σ H _ I ⟨S,M,ρ,_,sm,sr,q,λv H' w=>w⟩) ?_;rintro u f ⟨v,F,g,V,d,G,D,j,g1,r1,C⟩;cases r1 with
 |non=>exact C.elim
 |bl b=>exact C.elim
 |int i=>exact C.elim
 |ty n=>exact C.elim
 |@tup a vs ds L r =>
  cases V;obtain⟨its,rr,p,U⟩:=g.tuple L;refine wpAny_pyIter_tuple (show f.heap.IsTuple a its.toArray from p) ?_;refine⟨f.heap.objs.size,[f.heap.objs.size],_,_,F,rfl,g.kept (t':=f.toks) λb o e=>A9 _ e,xi a _,⟨_,E1 _ rfl,rfl,rfl⟩,λb K=>?_,k _ F ⟨⟨ds,λ_=>True⟩,G,D,j,g1,L9.tup L r λys hy=>g.tuple_inj hy L,?_⟩⟩;have e:b=f.heap.objs.size:=by simpa using K
  subst e;exact g.fpOk (z5 _)<|g.hok.fresh<|z5 _;exact(show ds.length<=sizeLine->Q ⟨ds,λ_=>True⟩ G from C)<|by rw[r.length];exact U
 |@ref n a Z =>
  cases V;obtain⟨xs,hL,q2⟩:=(show ∃xs,ao G n xs/\(xs.length<=sizeLine->Q ⟨xs,λM=>ao M n xs⟩ G)from C)
  obtain⟨vs,L,r⟩:=ao.seq j hL Z;obtain⟨its,rr,p,U⟩:=g.list L;refine Rb p.isList ?_;refine⟨f.heap.objs.size,[f.heap.objs.size],_,_,F,rfl,g.kept (t':=f.toks) λb o e=>A9 _ e,yB a _,⟨_,E1 _ rfl,rfl,rfl⟩,λb K=>?_,k _ F ⟨⟨xs,λM=>ao M n xs⟩,G,D,j,g1,L9.lst Z,q2<|by rw[r.length];exact U⟩⟩;have e:b=f.heap.objs.size:=by simpa using K
  subst e;exact g.fpOk (z5 _)<|g.hok.fresh<|z5 _
 |str x =>
  obtain⟨t,rfl⟩:=V;have J:∀(B:String) (N:d8),(N.cls=.type B/\N.data=.fields #[.str x t,.int 0 0]) -> (∀O:f9,O.handled=a8->Walks X.prog X.w O f.heap.objs.size [f.heap.objs.size] [f.heap.objs.size] x.cps.size (SignAt x) (λi h=>h.IsStrIter f.heap.objs.size B x t i)) -> (∀(A:f9) (i:Nat) (s:g8) (Q:b9->g8->Prop) (E:b9->g8->Prop),s.heap.IsStrIter f.heap.objs.size B x t i->Q (.ref f.heap.objs.size) s->i7 (j2 X.prog X.w) A (l6<|.ref f.heap.objs.size) Q E s) -> ["enumerate","zip","dict_itemiterator","dict_reverseitemiterator","odict_iterator","itertools.zip_longest","itertools.pairwise"].contains B=b7->(f.heap.push N).IsStrIter f.heap.objs.size B x t 0 -> RB X y σ tg R (.ref f.heap.objs.size) { f with heap:=f.heap.push N }:=λB N ab W z T m=>by
   refine⟨f.heap.objs.size,[f.heap.objs.size],_,_,F,rfl,g.kept (t':=f.toks) λb o e=>A9 _ e,xh (PX:=λi v=>∃c,x.cps[i]?=a7 c/\v=.str ⟨#[c]⟩) _ _ _ _ W (λi v ⟨c,u,e1,e2⟩=>⟨.str ⟨#[c]⟩,⟨u,e2⟩,c,e1,rfl⟩) (λi h m=>?_) (λi h h' m k=>?_) z,m,λb K=>?_,k _ F ⟨⟨signs x,λ_=>True⟩,G,D,j,g1,L9.plain ?_ ?_ ?_,C⟩⟩;obtain⟨o,e,c,d⟩:=m;exact⟨o,B,_,e,c,d,T⟩;obtain⟨o,e,r⟩:=m;exact⟨o,k o e,r⟩;have e:b=f.heap.objs.size:=by simpa using K
   subst e;exact g.fpOk (z5 _)<|g.hok.fresh<|z5 _;intro i _ hi;simpa [signs]using hi;rintro i H x' H' _ ⟨rfl,c,e,rfl⟩;exact⟨rfl,.str ⟨#[c]⟩,by simp[signs,e],rfl⟩;intro H;simp[signs]
  cases Y:x.cps.all (· < 128);exact wpAny_pyIter_wide Y<|J _ _ ⟨rfl,rfl⟩ (λO P=>Walks.strWide P _ x t) (λ_ _ _ _ _ m h=>wpAny_pyIter_striter_wide m h) (by decide) ⟨_,E1 _ rfl,rfl,rfl⟩;exact wpAny_pyIter_ascii Y<|J _ _ ⟨rfl,rfl⟩ (λO P=>Walks.strAscii P _ x t) (λ_ _ _ _ _ m h=>wpAny_pyIter_striter_ascii m h) (by decide) ⟨_,E1 _ rfl,rfl,rfl⟩
noncomputable def lN(lo:Int)(n:Nat):List D:=(C3 n).map λi=>.int<|lo+((i:Nat):Int)
theorem L9.rng{K:v9}{ρ:List d7}{H:Hp}(lo:Int)(n:Nat):L9 K ⟨lN lo n,λ_=>True⟩ ρ H (PU lo n):=by
 refine L9.plain (λi _ hi=>?_) (λi H x H' hi y=>?_) λH=>?_;show i<n;simpa [lN]using hi;obtain⟨e,rfl⟩:=y;have h:i<n:=by simpa [lN]using hi
 exact⟨e,.int<|lo+i,by simp[lN,h],rfl⟩;show n<=(lN lo n).length;simp[lN]
def cw(t:K2):Nr:=λS M R=>t S M λds a=>match ds with
 | [.int j]=>(-(2 ^ 62)<=j/\j<2 ^ 62)/\R ⟨lN 0 j.toNat,λ_=>True⟩ a
 |_=>False
def jf(t:K2):Nr:=λS M R=>t S M λds a=>match ds with
 | [.int i,.int j]=>(-(2 ^ 62)<=i/\i<2 ^ 62/\-(2 ^ 62)<=j/\j<2 ^ 62)/\R ⟨lN i (j-i).toNat,λ_=>True⟩ a
 |_=>False
theorem PI.imp(h:PI X tg iter t')(i:∀σ H R,t σ H R->t' σ H R):PI X tg iter t:=λp s σ H R I q=>h p s σ H R I<|i σ H R q
theorem uy{K:v9}{d:K2}(σ:St)(H:Hp)(R:It->Hp->Prop)(h:lowI K (cw d) σ H R):Lf (lowA K d) σ H R:=by
 obtain⟨S,M,ρ,Q,s,l,q,k⟩:=h;refine⟨S,M,ρ,_,s,l,q,?_⟩;rintro vs e ⟨ds,f,b,i,g1,a,c⟩
 try dsimp only at c
 split at c;rename_i j;obtain⟨⟨h1,h2⟩,g⟩:=c
 first|have z:=Reps.inv_cons a|have z:=ax.inv_cons a
 clear a;obtain⟨_,_,rfl,r,t⟩:=z;cases r;cases t;exact⟨j,rfl,h1,h2,k _ e ⟨_,f,b,i,g1,L9.rng 0 j.toNat,g⟩⟩;exact c.elim
theorem BE(d:X.mg "range" = a8)(f:DA X [a] ta)(S:Gl X "range":=by rfl)(hs:j6 [a] X.env=[(b7,eval a X.env)]:=by rfl):DI X tg (.Call (.Name "range" p) [a] [] pos) (cw ta):=PI.imp (zT S d f hs) uy
theorem BD(o:X.mg "range" = a8)(m:DA X [a,b] ta)(n:Gl X "range":=by rfl)(hs:j6 [a,b] X.env=[(b7,eval a X.env),(b7,eval b X.env)]:=by rfl)(d:j6 [b] X.env=[(b7,eval b X.env)]:=by rfl):DI X tg (.Call (.Name "range" p) [a,b] [] pos) (jf ta):=by
 refine PI.imp (zS n o m hs d) ?_;rintro σ H R ⟨S,M,ρ,Q,s,w,q,k⟩;refine⟨S,M,ρ,_,s,w,q,?_⟩;rintro vs g ⟨ds,l,f,v,g1,e,c⟩
 try dsimp only at c
 split at c;rename_i i j;obtain⟨h,u⟩:=c
 first|have z:=Reps.inv_cons e|have z:=ax.inv_cons e
 clear e;obtain⟨_,_,rfl,r,t⟩:=z;cases r;cases t with
 |cons r t=>cases r;cases t;exact⟨i,j,rfl,h,k _ g ⟨_,l,f,v,g1,L9.rng i (j-i).toNat,u⟩⟩
 exact c.elim
section
mutual
inductive F0(k:Nat):D->Prop
 |non:F0 k .non
 |bl (b:Bool):F0 k (.bl b)
 |int (i:Int):F0 k (.int i)
 |str (x:c9):F0 k (.str x)
 |ty (n:String):F0 k (.ty n)
 |tup {ds:List D} (h:Bels k ds):F0 k (.tup ds)
 |ref {n:Nat} (h:n<k):F0 k (.ref n)
inductive Bels(k:Nat):List D->Prop
 |nil:Bels k []
 |cons {d:D}{ds:List D} (h:F0 k d) (t:Bels k ds):Bels k (d::ds)
end
noncomputable def MO.items:MO->List D
 |.lst xs=>xs
 |.fz xs=>xs
 |.kl xs=>xs
 |.dct kvs=>kvs.map (·.2)
 |.dkt kvs=>kvs.map (·.2)
 |.dkq _ kvs=>kvs.map (·.2)
 |.fdc _ kvs=>kvs.map (·.2)
 |.dkm kvs=>kvs.map (·.2)
 |.tb _ _=>[]
 |.exc _ _=>[]
 |.ins _ fs=>fs.map (·.2)
 |.tl _ _ _ _=>[]
theorem w5.bel{K:v9}{ρ:List d7}{H:Hp}{d:D}{v:V}(h:w5 K ρ H d v):F0 ρ.length d:=w5.rec (motive_1:=λd v _=>F0 ρ.length d) (motive_2:=λds vs _=>Bels ρ.length ds) .non .bl .int .str .ty (λ_ _ r=>.tup r) (λh=>.ref (A3.mp h).1) .nil (λ_ _ h t=>.cons h t) h
theorem Reps.bel{K:v9}{ρ:List d7}{H:Hp}{ds:List D}{vs:List V}(h:Reps K ρ H ds vs):Bels ρ.length ds:=Reps.rec (motive_1:=λd v _=>F0 ρ.length d) (motive_2:=λds vs _=>Bels ρ.length ds) .non .bl .int .str .ty (λ_ _ r=>.tup r) (λh=>.ref (A3.mp h).1) .nil (λ_ _ h t=>.cons h t) h
theorem F0.inv(b:F0 k d):(∀ds,d=.tup ds->Bels k ds)/\∀n,d=.ref n->n<k:=by
 cases b with
 |tup b=>exact⟨(λ_ e=>by injection e with e;exact e ▸ b),(λ_ e=>by cases e)⟩
 |ref b=>exact⟨(λ_ e=>by cases e),(λ_ e=>by injection e with e;exact e ▸ b)⟩
 |_=>exact⟨(λ_ e=>by cases e),(λ_ e=>by cases e)⟩
theorem Bels.inv{k:Nat}{d:D}{ds:List D}(b:Bels k (d::ds)):F0 k d/\Bels k ds:=by
 cases b with
 |cons b c=>exact⟨b,c⟩
theorem w5.cut{K:v9}{ρ:List d7}{H:Hp}{k:Nat}{d:D}{v:V}(h:w5 K ρ H d v):F0 k d->w5 K (ρ.take k) H d v:=w5.rec (motive_1:=λd v _=>F0 k d->w5 K (ρ.take k) H d v) (motive_2:=λds vs _=>Bels k ds->Reps K (ρ.take k) H ds vs) (λ_=>.non) (λb _=>.bl b) (λb _=>.int b) (λb _=>.str b) (λb _=>.ty b) (λh _ r b=>.tup h<|r<|b.inv.1 _ rfl)
  (λh b=>.ref<|by rw[O6<|b.inv.2 _ rfl];exact h) (λ_=>.nil) (λ_ _ h t b=>.cons (h b.inv.1)<|t b.inv.2) h
theorem Reps.cut{K:v9}{ρ:List d7}{H:Hp}{k:Nat}{ds:List D}{vs:List V}(h:Reps K ρ H ds vs):Bels k ds->Reps K (ρ.take k) H ds vs:=Reps.rec (motive_1:=λd v _=>F0 k d->w5 K (ρ.take k) H d v) (motive_2:=λds vs _=>Bels k ds->Reps K (ρ.take k) H ds vs) (λ_=>.non) (λb _=>.bl b) (λb _=>.int b) (λb _=>.str b) (λb _=>.ty b) (λh _ r b=>.tup h<|r<|b.inv.1 _ rfl)
  (λh b=>.ref<|by rw[O6<|b.inv.2 _ rfl];exact h) (λ_=>.nil) (λ_ _ h t b=>.cons (h b.inv.1)<|t b.inv.2) h
theorem F0.mono{j k:Nat}(h:j<=k){d:D}(b:F0 j d):F0 k d:=F0.rec (motive_1:=λd _=>F0 k d) (motive_2:=λds _=>Bels k ds) .non .bl .int .str .ty (λ_ b=>.tup b) (λb=>.ref<|K6 b h) .nil (λ_ _ b c=>.cons b c) b
theorem Bels.mono{j k:Nat}(h:j<=k){ds:List D}(b:Bels j ds):Bels k ds:=Bels.rec (motive_1:=λd _=>F0 k d) (motive_2:=λds _=>Bels k ds) .non .bl .int .str .ty (λ_ b=>.tup b) (λb=>.ref<|K6 b h) .nil (λ_ _ b c=>.cons b c) b
theorem Bels.of:∀{xs:List D},(∀d∈xs,F0 k d)->Bels k xs
 | [],_=>.nil
 |d::ds,h=>.cons (h d C7)<|Bels.of λe he=>h e<|C0 _ he
section
variable{K:v9}{ρ ρ':List d7}{H H':Hp}{M M':u8}
theorem wx:∀(n:Nat) (d:D),dh n d=a9->F0 k d:=by
 intro n;induction n with
 |zero =>
  intro d h;cases d with
  |str x=>exact .str x
  |int x=>exact .int x
  |_=>cases h
 |succ n i =>
  intro d h;cases d with
  |str x=>exact .str x
  |int x=>exact .int x
  |tup ds=>exact .tup<|Bels.of λx a=>i x<|D7.mp (show ds.all (dh n)=a9 from h) x a
  |_=>cases h
theorem AT(r:Paired (tw K ρ H) kvs xs):Bels ρ.length (kvs.map (·.2)):=by
 induction r with
 |nil=>exact .nil
 |cons q _ i=>obtain⟨_,_,_,v,u,_⟩:=q;exact .cons u.bel i
theorem AS(r:Paired (tw K ρ H) kvs xs)(b:Bels k (kvs.map (·.2))):Paired (tw K (ρ.take k) H) kvs xs:=by
 induction r with
 |nil=>exact .nil
 |cons q _ i =>
  obtain⟨d,j,e,v,u,O⟩:=q;rw[B9]at b;cases b with
  |cons a c=>exact .cons ⟨d,j,e.cut<|wx _ _ j,v,u.cut a,O⟩<|i c
theorem DJ:∀(d:D),keyM d=a9->F0 k d
 |.non,_=>.non
 |.tup ks,h=>wx 8 _ h
 |.bl _,h=>nomatch h
 |.int _,h=>nomatch h
 |.str _,h=>nomatch h
 |.ty _,h=>nomatch h
 |.ref _,h=>nomatch h
theorem GP(r:Paired (QP K ρ H) kvs xs):Bels ρ.length (kvs.map (·.2)):=by
 induction r with
 |nil=>exact .nil
 |cons q _ i=>obtain⟨_,_,_,v,u,_⟩:=q;exact .cons u.bel i
theorem GO(r:Paired (QP K ρ H) kvs xs)(b:Bels k (kvs.map (·.2))):Paired (QP K (ρ.take k) H) kvs xs:=by
 induction r with
 |nil=>exact .nil
 |cons q _ i =>
  obtain⟨d,j,⟨u,e,s⟩,v,f,O⟩:=q;rw[B9]at b;cases b with
  |cons a c=>exact .cons ⟨d,j,⟨u,e.cut<|DJ _ j,s⟩,v,f.cut a,O⟩<|i c
theorem yk.bels(h:yk K ρ H a mo):Bels ρ.length mo.items:=by
 cases mo with
 |lst ds=>obtain⟨vs,_,r⟩:=h;exact r.bel
 |fz ds=>obtain⟨o,vs,_,r⟩:=h;exact r.bel
 |kl ds=>obtain⟨vs,_,r⟩:=h;exact r.bel
 |dct kvs=>obtain⟨vs,_,r⟩:=h;exact r.bel
 |dkt kvs=>obtain⟨_,_,_,xs,_,r⟩:=h;exact AT r
 |dkq _ kvs=>obtain⟨_,_,_,xs,_,r⟩:=h;exact AT r
 |fdc o kvs=>obtain⟨vs,_,r⟩:=h;exact r.bel
 |dkm kvs=>obtain⟨_,_,_,xs,_,r⟩:=h;exact GP r
 |tb x b=>exact .nil
 |exc x e=>exact .nil
 |ins c s=>obtain⟨_,_,vs,_,_,r⟩:=h;exact r.bel
 |tl x p q e=>exact .nil
theorem yk.cut(h:yk K ρ H a mo)(b:Bels k mo.items):yk K (ρ.take k) H a mo:=by
 cases mo with
 |lst ds=>obtain⟨vs,e,r⟩:=h;exact⟨vs,e,r.cut b⟩
 |fz ds=>obtain⟨o,vs,e,r⟩:=h;exact⟨o,vs,e,r.cut b⟩
 |kl ds=>obtain⟨vs,e,r⟩:=h;exact⟨vs,e,r.cut b⟩
 |dct kvs=>obtain⟨vs,e,r⟩:=h;exact⟨vs,e,r.cut b⟩
 |dkt kvs=>obtain⟨h1,h2,d,xs,e,r⟩:=h;exact⟨h1,h2,d,xs,e,AS r b⟩
 |dkq _ kvs=>obtain⟨h1,h2,d,xs,e,r⟩:=h;exact⟨h1,h2,d,xs,e,AS r b⟩
 |fdc o kvs=>obtain⟨vs,e,r⟩:=h;exact⟨vs,e,r.cut b⟩
 |dkm kvs=>obtain⟨h1,h2,d,xs,e,r⟩:=h;exact⟨h1,h2,d,xs,e,GO r b⟩
 |tb x b=>exact h
 |exc x e=>exact h
 |ins c s=>obtain⟨C,f,vs,n,e,r⟩:=h;exact⟨C,f,vs,n,e,r.cut b⟩
 |tl x p q e=>exact h
theorem x8.bels(S:x8 K ρ M H){n:Nat}{mo:MO}(e:M[n]?=a7 mo):Bels M.length mo.items:=by obtain⟨a,_,h⟩:=S.get e;rw[<-S.len];exact h.bels
theorem x8.cut(S:x8 K ρ M H)(k:Nat)(d:∀(n:Nat) (mo:MO),n<k->M[n]?=a7 mo->Bels k mo.items):x8 K (ρ.take k) (M.take k) H:=by
 have lt:∀{n:Nat}{a:d7},(ρ.take k)[n]?=a7 a->n<k/\ρ[n]?=a7 a:=λ{n a} e=>by
  have h1:=(A3.mp e).1;rw[H9]at h1;have h2:n<k:=by lia
  rw[O6 h2]at e;exact⟨h2,e⟩
 refine⟨λn m a h t l=>?_,by rw[H9,H9,S.len],λn a mo t l=>?_⟩;obtain⟨b,f⟩:=lt t;obtain⟨c,N⟩:=lt l;rw[O6 b,O6 c];exact S.nd n m a h f N;obtain⟨b,f⟩:=lt t;rw[O6 b]at l;exact(S.obj n a mo f l).cut<|d n mo b l
theorem SRep.cut(r:SRep K ρ H S σ)(g:S'.length=S.length)(h:∀(i:Nat) d,S'[i]?=a7 (a7 d)->S[i]?=a7 (a7 d)/\F0 k d):SRep K (ρ.take k) H S' σ:=⟨g.trans r.len,λi d e=>let ⟨e',b⟩:=h i d e;let ⟨v,hv,rv⟩:=r.get i d e';⟨v,hv,rv.cut b⟩⟩
theorem Grow.cut(g:Grow K ρ H ρ' H')(h:ρ.length<=k):Grow K ρ H (ρ'.take k) H':=by refine⟨?_,g.tup,g.fr⟩;obtain⟨t,rfl⟩:=g.pre;rw[List.take_append];rw[Qw h];exact NO _ _
end
inductive FgtS(k:Nat):SD->SD->Prop
 |nil:FgtS k [] []
 |keep {d:D}{S S':SD} (h:F0 k d) (t:FgtS k S S'):FgtS k (a7 d::S) (a7 d::S')
 |drop {o:Option D}{S S':SD} (t:FgtS k S S'):FgtS k (o::S) (a8::S')
theorem FgtS.len(h:FgtS k S S'):S'.length=S.length:=by
 induction h with
 |nil=>rfl
 |keep _ _ i=>rw[C5,C5,i]
 |drop _ i=>rw[C5,C5,i]
theorem FgtS.get(h:FgtS k S S'):∀(i:Nat) d,S'[i]?=a7 (a7 d)->S[i]?=a7 (a7 d)/\F0 k d:=by
 induction h with
 |nil=>intro i d e;simp at e
 |keep b _ a =>
  intro i d e;cases i with
  |zero=>simp at e;subst e;exact⟨rfl,b⟩
  |succ i=>exact a i d<|by simpa using e
 |drop _ a =>
  intro i d e;cases i with
  |zero=>simp at e
  |succ i=>exact a i d<|by simpa using e
def F5(a:u8)(P:SD->u8->Prop)(S:SD)(M:u8):Prop:=P S M\/(∃k b,a.length<=k/\FgtS k S b/\(∀(n:Nat) mo,n<k->M[n]?=a7 mo->Bels k mo.items)/\P b (M.take k))\/∃b,FgtS a.length S b/\a <+: M/\P b a
theorem Cu{α:Type}{l l':List α}(h:l <+: l'):l'.take l.length=l:=by obtain⟨t,rfl⟩:=h;rw[List.take_append_of_le_length<|z5 _,Oh]
theorem SQ.fgt{K:v9}{ρ:List d7}{H:Hp}{M:u8}{P:SD->u8->Prop}{c:St}{H':Hp}(s0:x8 K ρ M H)(h:SQ K ρ H (F5 M P) c H'):SQ K ρ H P c H':=by
 have f:ρ.length<=M.length:=by rw[s0.len];exact z5 _
 obtain⟨S,d,b,s',g,a,j⟩:=h;rcases j with j|⟨k,S2,h1,h2,i,q⟩|⟨S2,h2,p,q⟩
 exact⟨S,d,b,s',g,a,j⟩;exact⟨S2,d.take k,b.take k,s'.cut k i,g.cut<|MF f h1,a.cut h2.len h2.get,q⟩;have s:=s'.cut M.length λn m l e=>by obtain⟨t,rfl⟩:=p;rw[J0 l]at e;exact s0.bels e
 rw[Cu p]at s;exact⟨S2,M,b.take M.length,s,g.cut f,a.cut h2.len h2.get,q⟩
def sM(ok:u8->Prop)(g:ML)(tb:u7)(E:DEnds)(k0:u8):List D->SD->u8->Prop
 | [],S,M=>ok M/\E.nx S M
 |x::xs,S,M=>ok M/\g x S M λS2 M2=>tb ⟨F5 k0<|sM ok g tb E k0 xs,E.rt,E.nx,F5 k0<|sM ok g tb E k0 xs⟩ S2 M2
def sN(i:Nr)(g:ML)(b:u7):u7:=λE S M=>i S M λsrc a=>sM src.ok g b E a src.items S a
theorem sK{α:Type}{l:List α}{i:Nat}{x:α}(h:l[i]?=a7 x):l.drop i=x::l.drop (i+1):=by obtain⟨hi,e⟩:=A3.mp h;rw[List.drop_eq_getElem_cons hi,e]
theorem Do{K:v9}{P:Nr}{g:ML}{u:u7}(E:Ends)(σ:St)(H:Hp)(h:lowS K (sN P g u) E σ H):tFor (lowI K P) (lowG K g) (lowS K u) E σ H:=by
 obtain⟨S,M,ρ,F,s,U,q,k⟩:=h;refine⟨S,M,ρ,_,s,U,q,?_⟩;rintro J C ⟨src,o,f,T,g1,it,q1⟩;have D:=k.trans g1;refine⟨λi m τ j=>∃S2 b a,x8 K a b j/\Grow K f C a j/\SRep K a j S2 τ/\i<=src.items.length/\m=src.items.length-i/\sM src.ok g u F o (src.items.drop i) S2 b,⟨_,S,o,f,T,.refl,U.grow g1,D4 _,rfl,q1⟩,?_⟩;rintro i m τ j ⟨S2,b,a,B,p,r,hi,rfl,A⟩;by_cases t:i<src.items.length;have Q:src.items[i]?=a7 src.items[i]:=C4 t;rw[sK Q]at A;obtain⟨ok,G⟩:=(show src.ok b/\g src.items[i] S2 b _ from A)
 refine .inr ⟨it.go i a b j B p ok t,_,λab H' z=>z,λx V y=>?_⟩;obtain⟨d,N,hd,s3,g3,r3⟩:=it.yld i a b j x V B p ok t y;have ed:d=src.items[i]:=F3<|hd.symm.trans Q;subst ed;refine⟨_,S2,b,N,_,s3,r.grow g3,r3,G,?_⟩;rintro ai W ⟨S4,X,w,s4,g4,I,q4⟩;have l:=(p.trans g3).trans g4;refine⟨S4,X,w,_,s4,I,q4,?_⟩;have n:∀c Y,SQ K w W (F5 o<|sM src.ok g u F o<|src.items.drop<|i+1) c Y -> ∃R,R < src.items.length-i/\∃S2 b a,x8 K a b Y/\Grow K f C a Y/\SRep K a Y S2 c/\i+1<=src.items.length/\R=src.items.length-(i+1)/\sM src.ok g u F o (src.items.drop<|i+1) S2 b:=λc Y z=>by obtain⟨S5,Z,O,s5,g5,L,q5⟩:=SQ.fgt (ρ:=f) (H:=C) T<|SQ.trans l z;exact⟨_,by lia,S5,Z,O,s5,g5,L,t,rfl,q5⟩
 exact⟨n,λv Y z=>D.rt v Y<|VQ.trans l z,λc Y z=>D.nx c Y<|SQ.trans l z,n⟩;have e:i=src.items.length:=by lia
 subst e;rw[List.drop_of_length_le<|z5 _]at A;obtain⟨ok,G⟩:=(show src.ok b/\F.nx S2 b from A)
 exact .inl ⟨it.stop a b j B p ok,D.nx τ j ⟨S2,b,a,B,p,r,G⟩⟩
theorem LR(hi:DI X tg iter di)(S:DG X tg g)(d:NI X body tb)(p:PassesOwn (j2 X.prog X.w) X.A X.env X.xe:=by exact PassesOwn.never)(f:X.calm=a9:=by rfl)(hs:∀x,l9 iter X.env x=pure x:=by intro _;rfl):DS X (.For tg iter body [] pos) (sN di g tb):=PS.imp (JI p f hi S d hs) Do
noncomputable def IL(t:Nat)(s:List Nat)(S:SD):SD:=P7 t a8++s.map λj=>(S[j]?).join
def mP(ok:u8->Prop)(g:ML)(tt:J5)(te:A2)(Q:DK):List D->List D->SD->u8->Prop
 | [],acc,S,M=>ok M/\Q (.ref M.length) (M++[.lst acc])
 |x::xs,acc,S,M=>ok M/\g x S M λS2 M2=>tt S2 M2 λb M3=>if b=a9 then te S2 M3 λy M4=>acc.length<sizeLine/\mP ok g tt te Q xs (acc++[y]) S2 M4 else mP ok g tt te Q xs acc S2 M3
def F7(t:Nat)(s:List Nat)(i:Nr)(g:ML)(tt:J5)(te:A2):A2:=λS M Q=>i S M λsrc a=>mP src.ok g tt te Q src.items [] (IL t s S) a
theorem SRep.bst{K:v9}{ρ:List d7}{H:Hp}{S:SD}{σ:St}(r:SRep K ρ H S σ)(t:Nat)(s:List Nat):SRep K ρ H (IL t s S) (L2.bst t s σ):=by
 refine⟨by simp[IL,BT],λi d e=>?_⟩;unfold IL at e;unfold L2.bst;by_cases hi:i<t;rw[J0 (by simpa using hi),Rl]at e;simp[hi]at e;rw[ND (by simpa using NT.mp hi),Rj,G2]at e;rw[ND (by simpa using NT.mp hi),Rj,G2];cases q:s[i-t]? with
 |none=>rw[q]at e;cases e
 |some j =>
  rw[q]at e;have a:(S[j]?).join=a7 d:=by simpa using e
  cases b:S[j]? with
  |none=>rw[b]at a;cases a
  |some o=>rw[b]at a;have l:o=a7 d:=a;subst l;obtain⟨v,c,f⟩:=r.get j d b;exact⟨v,by simp[c],f⟩
theorem AD{K:v9}{D:Nat}{C:List Nat}{T:Nr}{g:ML}{tt:J5}{te:A2}(σ:St)(H:Hp)(R:VK)(h:lowE K (F7 D C T g tt te) σ H R):QF D C (lowI K T) (lowG K g) (lowT K tt) (lowE K te) σ H R:=by
 obtain⟨S,M,ρ,Q,s,W,q,k⟩:=h;refine⟨S,M,ρ,_,s,W,q,?_⟩;rintro J X ⟨src,M1,r,s1,g1,it,q1⟩;refine⟨λi m vs τ f=>∃S2 c a acc,x8 K a c f/\Grow K r X a f/\SRep K a f S2 τ/\Reps K a f acc vs/\i<=src.items.length/\m=src.items.length-i/\mP src.ok g tt te Q (src.items.drop i) acc S2 c,⟨_,_,M1,r,[],s1,.refl,(W.grow g1).bst D C,.nil,D4 _,rfl,q1⟩,?_⟩;rintro i m vs τ f ⟨S2,c,a,acc,z,o,G,w,hi,rfl,u⟩;by_cases t:i<src.items.length;have U:src.items[i]?=a7 src.items[i]:=C4 t;rw[sK U]at u;obtain⟨ok,E⟩:=(show src.ok c/\g src.items[i] S2 c _ from u)
 refine .inr ⟨it.go i a c f z o ok t,λx Y y=>?_⟩;obtain⟨d,L,hd,s3,g3,r3⟩:=it.yld i a c f x Y z o ok t y;have ed:d=src.items[i]:=F3<|hd.symm.trans U;subst ed;refine⟨_,S2,c,L,_,s3,G.grow g3,r3,E,?_⟩;rintro ab H4 ⟨j,M4,N,s4,A,I,q4⟩;refine⟨j,M4,N,_,s4,I,q4,?_⟩;rintro b H5 ⟨Z,O,s5,l,V⟩;have n:=((o.trans g3).trans A).trans l;cases b with
 |false=>exact bc ⟨_,by lia,j,Z,O,acc,s5,n,I.grow l,w.grow<|(g3.trans A).trans l,t,rfl,(show mP src.ok g tt te Q (src.items.drop<|i+1) acc j Z from V)⟩
 |true=>refine aM ⟨j,Z,O,_,s5,I.grow l,(show te j Z _ from V),?_⟩;rintro v H6 ⟨y',M6,P,s6,B,r6,hl,q6⟩;have F:=w.grow<|((g3.trans A).trans l).trans B;exact⟨by rw[<-w.length];exact hl,_,by lia,j,M6,P,acc++[y'],s6,n.trans B,I.grow<|l.trans B,F.append<|.cons r6 .nil,t,rfl,q6⟩
 have e:i=src.items.length:=by lia
 subst e;rw[List.drop_of_length_le<|z5 _]at u;obtain⟨ok,E⟩:=(show src.ok c/\Q (.ref c.length) (c++[.lst acc])from u)
 exact .inl ⟨it.stop a c f z o ok,λp hp=>k _ _<|VQ.laidL z (g1.trans o) w hp E⟩
theorem d_lc(B:BlkSc X N' nt js scope)(hi:DI X tg iter di)(S:∀cl s0 H0 ex,DG (D0 X N' scope cl s0 H0 ex) tg g) (D:∀cl s0 H0 ex,NH (D0 X N' scope cl s0 H0 ex) ifs<|lowT X.K tt) (i:∀cl s0 H0 ex,DE (D0 X N' scope cl s0 H0 ex) elt te) (f:X.calm=a9:=by rfl)(hs:∀x,l9 iter X.env x=pure x:=by intro _;rfl):DE X (.ListComp elt [⟨tg,iter,ifs,0⟩] scope pos) (F7 nt js di g tt te):=PE.imp (pe_lc (g:=lowG X.K g) (tt:=lowT X.K tt) (te:=lowE X.K te) B f hi (λcl s0 H0 ex=>S cl s0 H0 ex) D (λcl s0 H0 ex=>i cl s0 H0 ex) hs) AD
def je:J5:=λ_ M Q=>Q a9 M
theorem HR:NH X [] (lowT X.K je):=λp s σ H R I ⟨S,M,ρ,Q,m,e,q,k⟩=>FV p s σ H R I<|k a9 H ⟨M,ρ,m,.refl,q⟩
theorem HQ(h:DT X c t):NH X [c] (lowT X.K t):=FU h
def QS(M a:u8):Prop:=a.length=M.length/\∀(i:Nat) (m:MO),a[i]?=a7 m->M[i]?=a7 m\/Bels M.length m.items
theorem QS.refl:QS M M:=⟨rfl,λ_ _ h=>.inl h⟩
def ar(M:u8)(R:DK):DK:=λd b=>R d b\/(∃a,QS M a/\F0 M.length d/\a <+: b/\R d a)\/∃a n xs,QS M a/\d=.ref n/\M.length<=n/\b[n]?=a7 (.lst xs)/\a <+: b/\Bels M.length xs/\R (.ref M.length) (a++[.lst xs])
theorem db{α:Type}{l l':List α}(h:l <+: l'):l'.take l.length=l:=by obtain⟨t,rfl⟩:=h;rw[List.take_append_of_le_length<|z5 _,Oh]
theorem VQ.endq{K:v9}{ρ:List d7}{M:u8}{H:Hp}{R:DK}{v:V}{H':Hp}(s:x8 K ρ M H)(h:VQ K ρ H (ar M R) v H'):VQ K ρ H R v H':=by
 obtain⟨d,D,C,s',r,r',Y⟩:=h;have k:C.take M.length=ρ:=by rw[<-s.len];exact db r.pre
 rcases Y with q|⟨g,c,b,f,q⟩|⟨g,n,xs,c,rfl,X,e,f,b,q⟩
 exact⟨d,D,C,s',r,r',q⟩;have i:=s'.cut M.length λn u w e=>by
  have F:g[n]?=a7 u:=by obtain⟨t,rfl⟩:=f;rw[J0<|by rw[c.1];exact w]at e;exact e
  exact(c.2 n u F).elim (λz=>s.bels z) id
 have O:D.take M.length=g:=by rw[<-c.1];exact db f
 rw[k,O]at i;have B:=r'.cut b;rw[k]at B;exact⟨d,g,ρ,i,⟨Q3,r.tup,r.fr⟩,B,q⟩;have i:=s'.cut M.length λn u w e=>by
  have F:g[n]?=a7 u:=by obtain⟨t,rfl⟩:=f;rw[J0<|by rw[c.1];exact w]at e;exact e
  exact(c.2 n u F).elim (λz=>s.bels z) id
 have O:D.take M.length=g:=by rw[<-c.1];exact db f
 rw[k,O]at i;obtain⟨a,rfl,w⟩:=w5.inv_ref r';obtain⟨vs,U,Z⟩:=s'.obj n a _ w e;have B:=Z.cut b;rw[k]at B;have Q:Grow K ρ H' (ρ++[a]) H':=⟨NO _ _,λ_ _ h=>h,λ_ _ h=>h⟩
 have A:∀(m:Nat),ρ[m]?=a7 a->Nn g[m]?:=λm I=>by
  have W:m≠n:=λz=>by
   have:m<M.length:=by rw[<-s.len];exact(A3.mp I).1
   lia
  have q:=s'.nd m n a W (aO r.pre I) w;have J:m<M.length:=by rw[<-s.len];exact(A3.mp I).1
  rcases q with⟨ds,z⟩|⟨ds,z⟩
  refine⟨ds,?_⟩;have o:m<g.length:=by rw[c.1];exact J
  have:=aO f<|C4 o;rw[z]at this;rw[C4 o];exact this.symm;rw[e]at z;cases z
 refine⟨.ref M.length,g++[.lst xs],ρ++[a],⟨λy S E x G l=>?_,by rw[A7,A7,i.len];rfl,λy E u G l=>?_⟩,⟨NO _ _,r.tup,r.fr⟩,.ref (by have:=i.last (p:=a);rw[c.1]at this;exact this),q⟩;rcases bK G with j|⟨j,P⟩
 rcases bK l with N|⟨N,T⟩
 exact(i.nd y S E x j N).elim (λz=>.inl z.more) λz=>.inr z.more;subst T;exact .inl (A y j).more;rcases bK l with N|⟨N,T⟩
 subst P;exact .inr (A S N).more;exact r9 (j.trans N.symm) x;rcases bK G with j|⟨j,P⟩
 have L:y<g.length:=by rw[<-i.len];exact(A3.mp j).1
 rw[J0 L]at l;exact(i.obj y E u j l).grow Q<|.inl rfl;subst P j;rw[i.len,ND<|z5 _,Nu]at l;simp at l;subst l;exact⟨vs,U,B.grow Q⟩
noncomputable def bT(N:List c9)(ds:List D):SD:=ds.map a7++P7 (N.length-ds.length) a8
theorem SRep.start{K:v9}{ρ:List d7}{H:Hp}{ds:List D}{vs:List V}(r:Reps K ρ H ds vs)(N:List c9):SRep K ρ H (bT N ds) (L2.start N vs):=by
 refine⟨by simp[bT,L2.start,r.length],λi d e=>?_⟩;unfold bT at e;unfold L2.start;by_cases hi:i<ds.length;rw[J0 (by simpa using hi),G2]at e;rw[J0 (by simpa [<-r.length]using hi),G2];have a:ds[i]?=a7 d:=by rw[C4 hi]at e ⊢;simpa using e
 obtain⟨v,c,b⟩:=r.get a;exact⟨v,by rw[c];rfl,b⟩;rw[ND (by simpa using NT.mp hi),Rl]at e;split at e<;>cases e
theorem d_fn{P:d6}{w:d5}{K:v9}{mg:c9->Option b9}{base:d9}{x l:c9}{st:j7}{f:d7}{e:n0}{N ps:List c9}{k:Nat}(d:A4)(F:Nq K x l st f e)(i:FnScope N ps (aC st))(B:∀ds M R,d ds M R->ds.length=ps.length)(y:∀(cdv:b9) (A:f9) (outer:List Env) (s:g8) (H:Hp) (E:XK),Room k (A.deeper<|n5 l (aC st) s.heap.objs.size f cdv) -> ∃t,NI (yp L5 P w K mg base N l (aC st) f cdv A outer s H E).nox (bU st) t/\∀ds M R,d ds M R->t ⟨λ_ M'=>ar M R .non M',ar M R,λ_ _=>False,λ_ _=>False⟩ (bT N ds) M):FnOk P w K mg base L5 (k+1) f e ps (Nl K d):=by refine F.ok i (λvs H Q E ⟨ds,M,ρ,R,s,r,q,_⟩=>by rw[<-r.length];exact B ds M R q) λcdv A outer s H vs Q E o h=>?_;obtain⟨ds,M,ρ,R,m,r,q,D⟩:=h;obtain⟨t,p,n⟩:=y cdv A outer s H E o;refine⟨lowS K t,p,bT N ds,M,ρ,_,m,SRep.start r N,n ds M R q,⟨λc H' ⟨S,M',a,s',g,b,j⟩=>?_,λv H' z=>D v H'<|VQ.endq m z,λc H' ⟨S,M',a,s',g,b,j⟩=>j.elim,λc H' ⟨S,M',a,s',g,b,j⟩=>j.elim⟩⟩;exact D .non H'<|VQ.endq m ⟨.non,M',a,s',g,.non,j⟩
end
theorem dfin(I:u6 X pins σ H s)(m:x8 X.K ρ M H)(k:∀v H',VQ X.K ρ H Q v H'->R v H')(c:cV d=a7 v)(l:aQ v u)(q:Q d M):EP X pins σ R u s:=⟨v,H,I,l,k v H<|VQ.now m (BR c) q⟩
theorem fA(I:u6 X pins σ H s)(m:x8 X.K ρ M H)(k:∀v H',VQ X.K ρ H Q v H'->R v H')(q:Q (.bl b) M):EP X pins σ R (.bool b) s:=⟨.bl b,H,I,rfl,k _ H<|VQ.now m (.bl b) q⟩
def qAdd:G8:=λx y M Q=>match x,y with
 |.int i,.int j=>Q (.int<|i+j) M
 |.str a,.str b=>a.length+b.length<=sizeLine/\Q (.str<|a++b) M
 |.ref n,.ref m=>∃xs ys,M[n]?=a7 (.lst xs)/\M[m]?=a7 (.lst ys)/\xs.length+ys.length<=sizeLine/\Q (.ref M.length) (M++[.lst<|xs++ys])
 |_,_=>False
theorem Kq:G7 X (m3 .Add) qAdd:=by refine E4.imp (Kh.or<|xw.or Kg) ?_;rintro v b H R ⟨x,y,M,ρ,Q,m,r,a,q,k⟩;unfold qAdd at q;split at q;cases r;cases a;exact .inl ⟨_,_,rfl,rfl,k _ H<|VQ.now m (.int _) q⟩;cases r;cases a;exact .inr<|.inl ⟨_,_,rfl,rfl,q.1,k _ H<|VQ.now m (.str _) q.2⟩;obtain⟨xs,ys,t,l,g,q⟩:=q;obtain⟨_,rfl,h1⟩:=w5.inv_ref r;obtain⟨_,rfl,h2⟩:=w5.inv_ref a;obtain⟨vs,n,g1⟩:=m.obj _ _ _ h1 t;obtain⟨ws,N,i⟩:=m.obj _ _ _ h2 l;exact .inr<|.inr ⟨_,_,vs,ws,rfl,rfl,n,N,by rw[<-g1.length,<-i.length];exact g,λp h=>k _ _<|VQ.laidL m .refl (g1.append i) h q⟩;exact q.elim
def zI:G8:=λx y M Q=>match x,y with
 |.int i,.int j=>Q (.int<|i-j) M
 |_,_=>False
theorem Kl:G7 X (m3 .Sub) zI:=by refine E4.imp Kc ?_;rintro g l H R ⟨x,y,M,ρ,Q,s,r,m,q,k⟩;unfold zI at q;split at q;cases r;cases m;exact⟨_,_,rfl,rfl,k _ H<|VQ.now s (.int _) q⟩;exact q.elim
def MC(i j:Int):Prop:=0<j/\j<340282366920938463463374607431768211456
theorem CV:E4 X (m3 .FloorDiv) (rI MC λi j=>.int<|i / j):=QH λi j _ _ _ _ _ f q=>by have h1:(0:Int)<j:=f.1;have h2:j<340282366920938463463374607431768211456:=f.2;have a:j.natAbs.log2<128:=(Nat.log2_lt<|by lia).mpr (by rw[show (2:Nat) ^ 128=340282366920938463463374607431768211456 by decide];lia);exact floordiv_int (by lia) (by rw[Int.fdiv_eq_ediv_of_nonneg i<|by lia];exact q)<|.inl<|PyProof.noPylong_of_log2<|by lia
def oS:G8:=λx y M Q=>match x,y with
 |.int i,.int j=>MC i j/\Q (.int<|i / j) M
 |_,_=>False
theorem Gz:G7 X (m3 .FloorDiv) oS:=by refine E4.imp CV ?_;rintro g l H R ⟨x,y,M,ρ,Q,s,r,m,q,k⟩;unfold oS at q;split at q;cases r;cases m;exact⟨_,_,rfl,rfl,q.1,k _ H<|VQ.now s (.int _) q.2⟩;exact q.elim
def xr:G8:=λx y M Q=>match x,y with
 |.int i,.int j=>0<j/\Q (.int<|i % j) M
 |_,_=>False
theorem Kn:G7 X (m3 .Mod) xr:=by refine E4.imp Kf ?_;rintro g l H R ⟨x,y,M,ρ,Q,s,r,m,q,k⟩;unfold xr at q;split at q;cases r;cases m;exact⟨_,_,rfl,rfl,q.1,k _ H<|VQ.now s (.int _) q.2⟩;exact q.elim
noncomputable def bh(a b:c9):Bool:=decide<|a.cps.toList<b.cps.toList
def Nc:G8:=λx y M Q=>match x,y with
 |.int i,.int j=>Q (.bl<|decide<|i<j) M
 |.str a,.str b=>Q (.bl<|bh a b) M
 |_,_=>False
def MD:G8:=λx y M Q=>match x,y with
 |.int i,.int j=>Q (.bl<|decide<|i<=j) M
 |.str a,.str b=>Q (.bl<|!bh b a) M
 |_,_=>False
def N5:G8:=λx y M Q=>match x,y with
 |.int i,.int j=>Q (.bl<|decide<|j<i) M
 |.str a,.str b=>Q (.bl<|bh b a) M
 |_,_=>False
def Pa:G8:=λx y M Q=>match x,y with
 |.int i,.int j=>Q (.bl<|decide<|j<=i) M
 |.str a,.str b=>Q (.bl<|!bh a b) M
 |_,_=>False
theorem Kp:G7 X (m5 .Lt) Nc:=by rintro p s σ H b l v u R I g i ⟨x,y,M,ρ,Q,a,r,m,q,k⟩;unfold Nc at q;split at q;cases r;cases m;exact op_lt p s σ H _ _ v u R I g i ⟨_,_,rfl,rfl,k _ H<|VQ.now a (.bl _) q⟩;cases r;cases m;obtain⟨t,rfl⟩:=g;obtain⟨t',rfl⟩:=i;exact PySem.P.lt_str<|fA I a k q;exact q.elim
theorem od_le:G7 X (m5 .LtE) MD:=by rintro p s σ H b l v u R I g i ⟨x,y,M,ρ,Q,a,r,m,q,k⟩;unfold MD at q;split at q;cases r;cases m;exact op_le p s σ H _ _ v u R I g i ⟨_,_,rfl,rfl,k _ H<|VQ.now a (.bl _) q⟩;cases r;cases m;obtain⟨t,rfl⟩:=g;obtain⟨t',rfl⟩:=i;exact PySem.P.le_str<|fA I a k q;exact q.elim
theorem od_gt:G7 X (m5 .Gt) N5:=by rintro p s σ H b l v u R I g i ⟨x,y,M,ρ,Q,a,r,m,q,k⟩;unfold N5 at q;split at q;cases r;cases m;exact op_gt p s σ H _ _ v u R I g i ⟨_,_,rfl,rfl,k _ H<|VQ.now a (.bl _) q⟩;cases r;cases m;obtain⟨t,rfl⟩:=g;obtain⟨t',rfl⟩:=i;exact PySem.P.gt_str<|fA I a k q;exact q.elim
theorem od_ge:G7 X (m5 .GtE) Pa:=by rintro p s σ H b l v u R I g i ⟨x,y,M,ρ,Q,a,r,m,q,k⟩;unfold Pa at q;split at q;cases r;cases m;exact op_ge p s σ H _ _ v u R I g i ⟨_,_,rfl,rfl,k _ H<|VQ.now a (.bl _) q⟩;cases r;cases m;obtain⟨t,rfl⟩:=g;obtain⟨t',rfl⟩:=i;exact PySem.P.ge_str<|fA I a k q;exact q.elim
def O9:G8:=λx y M Q=>match x,y with
 |.bl a,.bl b=>Q (.bl<|a==b) M
 |.non,.non=>Q (.bl a9) M
 |_,.non=>Q (.bl b7) M
 |_,_=>False
theorem FL{K:v9}{ρ:List d7}{H:Hp}{x:D}{v:V}(r:w5 K ρ H x v)(h:x≠.non):v≠.non:=by cases r<;>first|exact r9 rfl h|(intro z;cases z)
theorem od_is:G7 X (m5 .Is) O9:=by
 rintro p s σ H b l v u R I g i ⟨x,y,M,ρ,Q,a,r,m,q,k⟩;unfold O9 at q;split at q;cases r;cases m;cases g;cases i;exact is_bool<|fA I a k q;cases r;cases m;cases g;cases i;exact is_none_gen<|dfin (d:=.bl a9) I a k rfl rfl q;rename_i h1 h2;cases m;cases i;refine is_none_gen<|dfin (d:=.bl b7) I a k rfl ?_ q;have:=FL r λz=>by subst z;exact h2 rfl
 rw[g.none_iff,dF_ this];rfl;exact q.elim
noncomputable def A1(M:u8):D->String
 |.non=>"NoneType"
 |.bl _=>"bool"
 |.int _=>"int"
 |.str _=>"str"
 |.ty _=>"type"
 |.tup _=>"tuple"
 |.ref n=>match M[n]? with
  |some mo=>if mo.isL=a9 then "list" else "?"
  |none=>"?"
noncomputable def fK(t T:String):Bool:=t==T||(t == "bool" && T == "int")
noncomputable def mV:List String:=["NoneType","bool","int","str","list","tuple"]
noncomputable def Ja:List String:=["bool","int","str","list","tuple"]
theorem GX(K:v9)(D:t∈mV)(n:T∈Ja):QX K (.type t) (.type T)=a7 (fK t T):=by simp only[mV,Ja,A5,MV,or_false]at D n;rcases D with rfl|rfl|rfl|rfl|rfl|rfl<;>rcases n with rfl|rfl|rfl|rfl|rfl<;>kernel_rfl
theorem Fc(I:u6 X pins σ H s)(k:x8 X.K ρ M H)(r:w5 X.K ρ H d v)(g:aQ v u)(j:A1 M d∈mV)(L:∀(Hx:d9->Prop),PySem.W.KitX X.K u (.type<|A1 M d) Hx->Hx s.heap->u≠.builtin "__main__.__loader__#opaque"->i7 (j2 X.prog X.w) X.A (call (.builtin "isinstance") [u,c]) Q X.xe s):i7 (j2 X.prog X.w) X.A (call (.builtin "isinstance") [u,c]) Q X.xe s:=by
 cases r with
 |non=>cases g;exact L _ PySem.W.kitx_none NU<|λz=>nomatch z
 |bl y=>cases g;exact L _ PySem.W.kitx_bool NU<|λz=>nomatch z
 |int i=>obtain⟨t,rfl⟩:=g;exact L _ PySem.W.kitx_int NU<|λz=>nomatch z
 |str i=>obtain⟨t,rfl⟩:=g;exact L _ PySem.W.kitx_str NU<|λz=>nomatch z
 |ty n=>exact r9 j<|by simp only[A1];decide
 |tup h rr=>cases g;obtain⟨its,_,⟨o,h1,h2,_⟩,_⟩:=I.tuple h;exact L _ PySem.W.kitx_tuple ⟨o,h1,h2⟩<|λz=>nomatch z
 |@ref n a e =>
  cases g;have C:n<M.length:=by rw[<-k.len];exact(A3.mp e).1
  have m:M[n]?=a7 M[n]:=C4 C;have f:(match M[n]? with|some mo=>if mo.isL=a9 then "list" else "?" |none=>"?")∈mV:=j;rw[m]at f;have l:M[n].isL=a9:=by
   cases q:M[n].isL with
   |true=>rfl
   |false=>simp only[q,E3,t5]at f;exact r9 f<|by decide
  have B:ao M n M[n].items:=by
   cases q:M[n] with
   |lst xs=>exact .inl<|by rw[m,q];rfl
   |fz xs=>exact .inr<|.inl<|by rw[m,q];rfl
   |kl xs=>exact .inr<|.inr<|by rw[m,q];rfl
   |dct xs=>rw[q]at l;cases l
   |dkt xs=>rw[q]at l;cases l
   |dkq _ xs=>rw[q]at l;cases l
   |fdc o xs=>rw[q]at l;cases l
   |dkm xs=>rw[q]at l;cases l
   |tb x b=>rw[q]at l;cases l
   |exc x e=>rw[q]at l;cases l
   |ins c fs=>rw[q]at l;cases l
   |tl x p q' e=>rw[q]at l;cases l
  obtain⟨vs,D,_⟩:=ao.seq k B e;obtain⟨its,_,⟨o,F,h1,h2,_⟩,_⟩:=I.list D;have E:A1 M (.ref n) = "list":=by
   show (match M[n]? with|some mo=>if mo.isL=a9 then "list" else "?" |none=>"?") = "list"
   rw[m];exact p9 l
  rw[E]at L;exact L _ PySem.W.kitx_list ⟨o,h1,h2⟩<|λz=>nomatch z
def fg:E9:=λds M Q=>match ds with
 | [d,.ty T]=>(A1 M d∈mV/\T∈Ja)/\Q (.bl<|fK (A1 M d) T) M
 | [d,.tup [.ty T,.ty T']]=>(A1 M d∈mV/\T∈Ja/\T'∈Ja)/\Q (.bl<|fK (A1 M d) T||fK (A1 M d) T') M
 |_=>False
theorem Mm:iL X (.builtin "isinstance") fg:=by
 rintro i s σ H vs us R I v ⟨ds,M,ρ,Q,m,r,q,k⟩;unfold fg at q;split at q;rename_i d T;obtain⟨⟨h1,h2⟩,q⟩:=q
 first|have z:=Reps.inv_cons r|have z:=ax.inv_cons r
 clear r;obtain⟨_,_,rfl,f,r⟩:=z
 first|have z:=Reps.inv_cons r|have z:=ax.inv_cons r
 clear r;obtain⟨_,_,rfl,g,r⟩:=z;cases r;cases g;obtain⟨u,F,rfl,e,l⟩:=ax.two v;cases l;refine Fc I m f e h1 λHx Z p x=>?_;exact PySem.W.kia_one Z I.kIn p (GX X.K h1 h2) x λh=>fA (I.tok h) m k q;rename_i d T c;obtain⟨⟨h1,h2,y⟩,q⟩:=q
 first|have z:=Reps.inv_cons r|have z:=ax.inv_cons r
 clear r;obtain⟨_,_,rfl,f,r⟩:=z
 first|have z:=Reps.inv_cons r|have z:=ax.inv_cons r
 clear r;obtain⟨_,_,rfl,g,r⟩:=z;cases r;obtain⟨u,F,rfl,e,l⟩:=ax.two v;obtain⟨a,ws,rfl,A,t⟩:=w5.inv_tup g;cases l;obtain⟨its,C,⟨o,g1,w,n,g3⟩,_⟩:=I.tuple A
 first|have z:=Reps.inv_cons t|have z:=ax.inv_cons t
 clear t;obtain⟨_,_,rfl,D,t⟩:=z
 first|have z:=Reps.inv_cons t|have z:=ax.inv_cons t
 clear t;obtain⟨_,_,rfl,E,t⟩:=z;cases t;cases D;cases E;obtain⟨O,P,rfl,j,N⟩:=ax.two C;cases j;cases N;obtain⟨J,L,B,G⟩:=o;cases w;cases g3;refine Fc I m f e h1 λHx Z p x=>?_;refine PySem.W.kia_tup Z I.kIn p g1 (b:=fK (A1 M d) T||fK (A1 M d) c) ?_ x λh=>fA (I.tok h) m k q;show (match QX X.K (.type<|A1 M d) (.type T)with|some a9=>a7 a9|some b7=>PySem.W.kitAny X.K (.type<|A1 M d) [.type c]|none=>a8)=_;rw[GX X.K h1 h2];cases fK (A1 M d) T with
 |true=>rfl
 |false=>show (match QX X.K (.type<|A1 M d) (.type c)with|some a9=>a7 a9|some b7=>a7 b7|none=>a8)=_;rw[GX X.K h1 y];cases fK (A1 M d) c<;>rfl
 exact q.elim
def eJ:E9:=λds M Q=>match ds with
 | [.str x]=>x.length<=sizeLine/\Q (.int x.length) M
 | [.tup xs]=>Q (.int xs.length) M
 | [.ref n]=>∃xs,ao M n xs/\Q (.int xs.length) M
 |_=>False
theorem Ml:iL X (.builtin "len") eJ:=by
 refine df.imp (sS.or sR) ?_;rintro vs H R ⟨ds,M,ρ,Q,m,a,q,k⟩;unfold eJ at q;split at q
 first|have z:=Reps.inv_cons a|have z:=ax.inv_cons a
 clear a;obtain⟨_,_,rfl,b,a⟩:=z;cases a;cases b;exact .inr ⟨_,rfl,q.1,k _ H<|VQ.now m (.int _) q.2⟩
 first|have z:=Reps.inv_cons a|have z:=ax.inv_cons a
 clear a;obtain⟨_,_,rfl,b,a⟩:=z;cases a;cases b with
 |tup h r=>exact .inl ⟨_,_,rfl,.inr h,k _ H<|VQ.now m (by rw[<-r.length];exact .int _) q⟩
 obtain⟨xs,L,q⟩:=q
 first|have z:=Reps.inv_cons a|have z:=ax.inv_cons a
 clear a;obtain⟨_,_,rfl,b,a⟩:=z;cases a;obtain⟨_,rfl,e⟩:=w5.inv_ref b;obtain⟨ws,c,r⟩:=ao.seq m L e;exact .inl ⟨_,_,rfl,.inl c,k _ H<|VQ.now m (by rw[<-r.length];exact .int _) q⟩;exact q.elim
noncomputable def bls(s:List Bool):List D:=s.map .bl
theorem Reps.bls{K:v9}{ρ:List d7}{H:Hp}:∀{bs:List Bool}{vs:List V},Reps K ρ H (L2.bls bs) vs->vs=bs.map V.bl
 | [],_,h=>by cases h;rfl
 |b::bs,_,h=>by
  cases h with
  |cons r t=>cases r;rw[Reps.bls t];rfl
theorem vm:∀{bs:List Bool}{us:List b9},ax (bs.map V.bl) us->us=bs.map Pg
 | [],_,h=>by cases h;rfl
 |b::bs,_,h=>by
  cases h with
  |cons r t=>cases r;rw[vm t];rfl
theorem yd{pins:List (d7×d8)}{σ:St}{H:Hp}{s:g8}{a:d7}{c:List Bool}{G:g8->Prop}(I:u6 X pins σ H s)(z:X.calm=a9)(B:J1 X.K H a (c.map V.bl))(j:∀s',u6 X pins σ H s'->G s'):∀(E:b9->g8->Prop),i7 (j2 X.prog X.w) X.A.in1 (l6<|.ref a) (λit s₂=>∃I fp wr n P St tr,it=I0 I/\Walks X.prog X.w X.A.in1 I fp wr n P St/\St 0 s₂.heap/\TruthOf X.prog X.w X.A.in1 P tr /\ (n=c.length/\(∀i,i<c.length->tr i=c.getD i b7))/\∀h' tk,(∀b o,b∉wr->s₂.heap.get? b=a7 o->h'.get? b=a7 o)->G { s₂ with heap:=h',toks:=tk }) E s:=by
 intro E;obtain⟨its,F,p,L⟩:=I.list B;have d:=vm F;subst d;have l:=p.isList;have t:a<s.heap.objs.size:=by obtain⟨o,n,e,_⟩:=p;exact C2 e
 refine Rb l ?_;have k:u6 X pins σ H { s with heap:=s.heap.push { cls:=.type "list_iterator",data:=.fields #[.ref a,.int 0 0] } }:=I.kept (t':=s.toks) λb o e=>A9 _ e;refine⟨s.heap.objs.size,_,_,_,_,_,λi=>c.getD i b7,rfl,Walks.list (A:=X.A.in1) (I.ok.hd z) s.heap.objs.size a (D6 t) (c.map Pg).toArray,⟨⟨_,E1 _ rfl,rfl,rfl⟩,l.push _⟩,?_,⟨by simp,λi _=>rfl⟩,λh' tk D=>?_⟩;intro i v s' Q' J C Q;have h:(c.map Pg).toArray[i]?=a7 v:=C;rw[RN,G2]at h;cases e:c[i]? with
 |none=>rw[e]at h;cases h
 |some b =>
  rw[e]at h;cases h;refine Oj ?_;have:c.getD i b7=b:=by rw[L3,e];rfl
  have g:Q' (c.getD i b7) s':=Q;rw[this]at g;exact g
 have f:=I.fpOk (H':=H) (z5 _)<|I.hok.fresh<|z5 _;obtain⟨m,q,N,r,y,u⟩:=f;exact j _<|k.turned (t':=tk) (it:=s.heap.objs.size) (λb o x e=>D b o (by simpa using x) e) m q r y u
theorem BZ{s:List Bool}{tr:Nat->Bool}(h:∀i,i<s.length->tr i=s.getD i b7):(C3 s.length).all tr=s.all id:=by rw[Ni,D7,D7];constructor;intro g b d;obtain⟨i,hi,e⟩:=List.mem_iff_getElem.mp d;have:=g i<|I9.mpr hi;rw[h i hi,L3,C4 hi]at this;rw[<-e];exact this;intro g i hi;have a:=I9.mp hi;rw[h i a,L3,C4 a];exact g _<|G6 a
def Ce:E9:=λds M Q=>match ds with
 | [.ref n]=>∃s,ao M n (bls s)/\Q (.bl<|s.all id) M
 |_=>False
theorem Mn(i:X.calm=a9:=by rfl):iL X (.builtin "all") Ce:=by
 rintro p s σ H vs us R I v ⟨ds,M,ρ,Q,m,a,q,k⟩;unfold Ce at q;split at q;obtain⟨c,L,q⟩:=q
 first|have z:=Reps.inv_cons a|have z:=ax.inv_cons a
 clear a;obtain⟨_,_,rfl,j,a⟩:=z;cases a;obtain⟨u,rfl,t⟩:=ax.one v;obtain⟨_,rfl,e⟩:=w5.inv_ref j;cases t;obtain⟨ws,h,r⟩:=ao.seq m L e;rw[r.bls]at h;refine call_all_walk<|z6 (yd (G:=λs'=>EP X p σ R (.bool<|c.all id) s') I i h (λs' b=>fA b m k q) _) ?_;rintro it x ⟨J,C,w,n,P,Sx,tr,t,W,l,T,⟨d,g⟩,f⟩;subst d;exact⟨J,C,w,_,P,Sx,tr,t,W,l,T,λh' o D=>by rw[BZ g];exact f h' o D⟩;exact q.elim
end L2
namespace L2
open PySem PySem.Spec PyProof.Rows DL _root_.HT
theorem pJ{t m:d7}{i:Array b9}{l u:b9}{lo hi:Option Int}{Q:b9->g8->Prop}(D:IsTup s.heap t i)(hs:s.heap.IsSliceOf m l u .none)(p:n6 l lo)(f:n6 u hi)(d:sIx i.size 0 lo=0/\sIx i.size i.size hi=i.size) (h:Q (.ref t) s):i7 (j2 prog w) A (n9 (.ref t)<|.ref m) Q E s:=by
 obtain⟨o,b,c,e⟩:=id hs;have a:s.TypeIs (.ref m) "slice":=⟨o,b,c⟩
 unfold n9
 try with_reducible refine K8 ?_
 first|refine t9 (u9 ?_)|skip
 refine t9<|wpAny_sequenceKey D.typeIs (by decide)<|t9<|MY (name:=AA1 "__getitem__") D.typeIs PC<|J2 PC D.typeIs entry_tuple_getitem ?_<|args_tuple_getitem _ _;refine(show i7 (j2 prog w) _ (Rr (.ref t) >>= _) _ _ s from t9<|tupleItemsOf_ D<|t9<|Pi a ?_);rw[p9<|by decide];refine t9<|eI hs p f ?_;refine(show i7 (j2 prog w) _ (if (((sIx i.size 0 lo:Nat):Int)==0&&(1:Int)==1&&(sIx i.size i.size hi-sIx i.size 0 lo)==i.size)=a9 then _ else _) _ _ s from ?_);rw[p9<|by rw[d.1,d.2];simp];unfold Builtin.Tuple.tupleIsExact;refine t9<|t9<|Pi D.typeIs<|u9 ?_;rw[p9<|by decide];exact t9<|Oa<|u9 ⟨_,rfl,u9 h⟩
end L2
namespace L2
open PySem PySem.Spec PyProof.Rows DL
section
variable{X:Cx}{a b:i9}{ta tb:A2}{pos:Pos}
theorem MS.imp(h:MS X r')(i:∀x y H R,r x y H R->r' x y H R):MS X r:=λa e p s σ H x y v u R I g b q hs=>h a e p s σ H x y v u R I g b (i x y H R q) hs
theorem Reps.atI{K:v9}{ρ:List d7}{H:Hp}{ds:List D}{vs:List V}{i:Int}{d:D}(r:Reps K ρ H ds vs)(h:L2.atI ds i=a7 d):∃v,L2.atI vs i=a7 v/\w5 K ρ H d v:=by
 unfold L2.atI at h ⊢;rw[r.length]at h;cases e:Nm vs.length i with
 |none=>rw[e]at h;cases h
 |some j=>rw[e]at h;obtain⟨v,c,a⟩:=r.get<|show ds[j]?=a7 d from h;exact⟨v,c,a⟩
def w9:G8:=λx y M Q=>match x,y with
 |.tup xs,.int i=>match L2.atI xs i with
  |some d=>Q d M
  |none=>False
 |.str z,.int i=>z.length<=sizeLine/\match L2.atI z.cps.toList i with
  |some c=>Q (.str ⟨#[c]⟩) M
  |none=>False
 |.ref n,.int i=>∃xs,ao M n xs/\match L2.atI xs i with
  |some d=>Q d M
  |none=>False
 |_,_=>False
theorem Hk:MS X (lowR X.K w9):=by refine MS.imp Ld ?_;rintro p s H R ⟨x,y,M,ρ,Q,m,b,f,q,k⟩;unfold w9 at q;split at q;rename_i xs i;split at q;rename_i d e;cases f;obtain⟨_,_,rfl,h,r⟩:=w5.inv_tup b;obtain⟨v,a,g⟩:=r.atI e;exact .inr<|.inl ⟨_,_,_,v,rfl,rfl,h,a,k _ H<|VQ.now m g q⟩;exact q.elim;rename_i z i;obtain⟨o,q⟩:=q;split at q;rename_i c e;cases f;cases b;exact .inr<|.inr ⟨z,i,c,rfl,rfl,o,e,k _ H<|VQ.now m (.str _) q⟩;exact q.elim;rename_i n i;obtain⟨xs,L,q⟩:=q;split at q;rename_i d e;cases f;obtain⟨_,rfl,j⟩:=w5.inv_ref b;obtain⟨vs,l,r⟩:=ao.seq m L j;obtain⟨v,a,g⟩:=r.atI e;exact .inl ⟨_,_,_,v,rfl,rfl,l,a,k _ H<|VQ.now m g q⟩;exact q.elim;exact q.elim
theorem d_ix(f:DE X a ta)(d:DE X b tb)(hs:pV b:=by intro _ _;rfl):DE X (.Subscript a b pos) (u4 w9 ta tb):=PE.imp (JU Hk f d hs) ph
abbrev ON:=SD->u8->(Option Int->u8->Prop)->Prop
def Kt(K:v9)(t:ON):TO:=λσ H R=>∃S M ρ Q,x8 K ρ M H/\SRep K ρ H S σ/\t S M Q/\∀o H',(∃b a,x8 K a b H'/\Grow K ρ H a H'/\Q o b)->R o H'
def aL:ON:=λ_ M Q=>Q a8 M
def bu(t:A2):ON:=λS M Q=>t S M λx a=>match x with
 |.int i=>Q (a7 i) a
 |_=>False
theorem PO.imp(h:PO X e t')(i:∀σ H R,t σ H R->t' σ H R):PO X e t:=λp s σ H R I q=>h p s σ H R I<|i σ H R q
theorem Ib:PO X a8 (Kt X.K aL):=by refine PO.imp Gc ?_;rintro σ H R ⟨S,M,ρ,Q,s,e,q,k⟩;exact k a8 H ⟨M,ρ,s,.refl,q⟩
theorem Ia(h:DE X e te):PO X (a7 e) (Kt X.K<|bu te):=by
 refine PO.imp (Gb h) ?_;rintro σ H R ⟨S,M,ρ,Q,s,j,q,k⟩;refine⟨S,M,ρ,_,s,j,q,?_⟩;rintro v b ⟨d,f,c,g,g1,r,a⟩;cases r with
 |int i=>exact⟨i,rfl,k _ b ⟨f,c,g,g1,a⟩⟩
 |_=>exact a.elim
theorem Jq:PN X (λx lo hi H Q=>∃z,x=.str z/\z.length<=sizeLine/\Q (.str<|J6 z lo hi) H):=by
 intro b s σ H x v w y lo hi n Q I r hs f m h;obtain⟨z,rfl,d,q⟩:=h;obtain⟨t,rfl⟩:=r;have a:∀{v:b9}{o:Option Int},n6 v o->∃p:Option (Int×Tok),v=partValue p/\p.map (·.1)=o:=λh=>by
  cases h with
  |none=>exact⟨a8,rfl,rfl⟩
  |int i t=>exact⟨a7 (i,t),rfl,rfl⟩
 obtain⟨g,rfl,e⟩:=a f;obtain⟨j,rfl,c⟩:=a m;subst e c;refine⟨"str",_,slot_str_getitem.lookup,typeIs_str _ _ _,wpAny_getItem_str_slice (l:=g) (u:=j) (st:=a8) hs rfl ?_⟩;exact post_val_or_str ⟨MF (Txt.slice_le z _ _) d,λt' k=>⟨.str _,H,I.tok k,⟨t',rfl⟩,q⟩⟩
noncomputable def cutD(xs:List D)(lo hi:Option Int):List D:=(xs.drop<|HT.sIx xs.length 0 lo).take<|HT.sIx xs.length xs.length hi-HT.sIx xs.length 0 lo
theorem Reps.cutD{K:v9}{ρ:List d7}{H:Hp}{ds:List D}{vs:List V}(r:Reps K ρ H ds vs)(lo hi:Option Int):Reps K ρ H (L2.cutD ds lo hi) (Fm vs lo hi):=by unfold L2.cutD Fm;rw[r.length];exact(r.drop _).take _
def QG:D->Option Int->Option Int->u8->DK->Prop:=λx l hi M Q=>match x with
 |.str z=>z.length<=sizeLine/\Q (.str<|J6 z l hi) M
 |.ref n=>∃xs,ao M n xs/\Q (.ref M.length) (M++[.lst<|cutD xs l hi])
 |.tup xs=>Q (.tup<|cutD xs l hi) M
 |_=>False
def lowSl(K:v9)(r:D->Option Int->Option Int->u8->DK->Prop):V->Option Int->Option Int->Hp->VK->Prop:=λg l hi H R=>∃x M ρ Q,x8 K ρ M H/\w5 K ρ H x g/\r x l hi M Q/\∀v H',VQ K ρ H Q v H'->R v H'
theorem sld:PN X (lowSl X.K QG):=by
 rintro b s σ H x v o t l hi j R I g hs c u ⟨d,M,ρ,Q,m,i,q,k⟩;unfold QG at q;split at q;cases i;exact Jq b s σ H _ v o t l hi j R I g hs c u ⟨_,rfl,q.1,k _ H<|VQ.now m (.str _) q.2⟩;obtain⟨xs,L,q⟩:=q;obtain⟨_,rfl,y⟩:=w5.inv_ref i;obtain⟨vs,z,r⟩:=ao.seq m L y;exact FK b s σ H _ v o t l hi j R I g hs c u ⟨_,vs,rfl,z,λp f=>k _ _<|VQ.laidL m .refl (r.cutD l hi) f q⟩;obtain⟨_,_,rfl,h,r⟩:=w5.inv_tup i;rename_i xs a vs;by_cases w:HT.sIx xs.length 0 l=0/\HT.sIx xs.length xs.length hi=xs.length;cases g;obtain⟨its,A,D,B⟩:=I.tuple h;have n:its.toArray.size=xs.length:=by rw[C9,r.length];exact A.length.symm
 have e:L2.cutD xs l hi=xs:=by unfold L2.cutD;rw[w.1,w.2,List.drop_zero,Nat.sub_zero,Oh]
 rw[e]at q;exact⟨"tuple",_,PC.lookup,D.typeIs,pJ D hs c u (by rw[n];exact w) ⟨.ref _,H,I,rfl,k _ H<|VQ.now m (.tup h r) q⟩⟩;exact Jp b s σ H _ v o t l hi j R I g hs c u ⟨_,_,rfl,h,by rw[<-r.length];exact w,λp f=>k _ _<|VQ.laidT m .refl (r.cutD l hi) f q⟩;exact q.elim
def E7(te:A2)(t h:ON):A2:=λS M Q=>te S M λx a=>t S a λl b=>h S b λu c=>QG x l u c Q
theorem Ih{e:i9}{te:A2}{lo hi:Option i9}{t h:ON}{p:Pos}(m:DE X e te)(n:PO X lo (Kt X.K t))(o:PO X hi (Kt X.K h)):DE X (.Subscript e (.Slice lo hi a8 p) pos) (E7 te t h):=by refine PE.imp (CQ sld m n o) ?_;rintro σ H R ⟨S,M,ρ,Q,s,r,q,k⟩;refine⟨S,M,ρ,_,s,r,q,?_⟩;rintro v E ⟨d,f,c,B,g1,A,x⟩;refine⟨S,f,c,_,B,r.grow g1,x,?_⟩;rintro l F ⟨g,a,C,i,y⟩;refine⟨S,g,a,_,C,r.grow<|g1.trans i,y,?_⟩;rintro u G ⟨j,b,D,g3,z⟩;exact⟨d,j,b,Q,D,A.grow<|i.trans g3,z,λv H' w=>k v H'<|VQ.trans ((g1.trans i).trans g3) w⟩
def jR:G8:=λx y M Q=>match x,y with
 |.int i,.int j=>CMul i j/\Q (.int<|i*j) M
 |.str z,.int n=>(0<=n/\n<2 ^ 63/\z.length*n.toNat<=sizeLine)/\Q (.str<|Txt.mul z n) M
 |_,_=>False
theorem ur(b:0<=n)(h:z.length*n.toNat<=sizeLine)(f:n<2 ^ 63):MulOk z n:=by
 refine⟨?_,λh1 h2=>?_,λh1 h2=>?_⟩;have a:decide (n < -(2 ^ 63:Int))=b7:=dF_ (by lia);have l:decide (n ≥ 2 ^ 63)=b7:=dF_ (by lia);rw[a,l];rfl;have c:(z.length:Int)*n<=2 ^ 24:=by
  have e:((z.length*n.toNat:Nat):Int)=(z.length:Int)*n:=by rw[Int.natCast_mul,Px b]
  have h':((z.length*n.toNat:Nat):Int)<=(2 ^ 24:Nat):=Int.ofNat_le.mpr h;rw[e]at h';exact h'
 have s:0<n:=by lia
 intro t;have:=Int.lt_of_lt_of_le (Int.lt_mul_of_ediv_lt s t) c;lia;unfold PySem.Builtin.Str.tooLong;simpa using h
theorem Gy:G7 X (m3 .Mult) jR:=by
 rintro p s σ H b l v u R I g i ⟨x,y,M,ρ,Q,a,r,m,q,k⟩;unfold jR at q;split at q;cases r;cases m;exact Ke p s σ H _ _ v u R I g i ⟨_,_,rfl,rfl,q.1,k _ H<|VQ.now a (.int _) q.2⟩;rename_i z n;cases r;cases m;obtain⟨t,rfl⟩:=g;obtain⟨t',rfl⟩:=i;obtain⟨⟨h,h2,h1⟩,q⟩:=q;exact PySem.SB.mul (ur h h1 h2) λt' j=>⟨.str _,H,I.tok j,⟨t',rfl⟩,k _ H<|VQ.now a (.str _) q⟩
 exact q.elim
def II:E9:=λds M Q=>match ds with
 | [.str x]=>x.length=1/\Q (.int (x.cps.getD 0 0:Nat)) M
 |_=>False
theorem Mj:iL X (.builtin "ord") II:=by
 refine df.imp EA ?_;rintro vs H R ⟨ds,M,ρ,Q,m,a,q,k⟩;unfold II at q;split at q
 first|have z:=Reps.inv_cons a|have z:=ax.inv_cons a
 clear a;obtain⟨_,_,rfl,r,a⟩:=z;cases a;cases r;exact⟨_,rfl,q.1,k _ H<|VQ.now m (.int _) q.2⟩;exact q.elim
variable{o e:i9}{es:List i9}{to:A2}{t:K2}{name:c9}{apos cpos:Pos}{id:String}
def Dp(K:v9)(r:c9->E9):V->List V->Hp->VK->Prop:=λg vs H R=>∃z ds M ρ Q,g=.str z/\x8 K ρ M H/\Reps K ρ H ds vs/\r z ds M Q/\∀v H',VQ K ρ H Q v H'->R v H'
def ux(K:v9)(r:Nat->E9):V->List V->Hp->VK->Prop:=λg vs H R=>∃n a ds M ρ Q,g=.ref a/\ρ[n]?=a7 a/\x8 K ρ M H/\Reps K ρ H ds vs/\r n ds M Q/\∀v H',VQ K ρ H Q v H'->R v H'
def OJ(r:c9->E9)(e:A2)(t:K2):A2:=λS M Q=>e S M λx a=>match x with
 |.str z=>t S a λds b=>r z ds b Q
 |_=>False
def NF(r:Nat->E9)(e:A2)(t:K2):A2:=λS M Q=>e S M λx a=>match x with
 |.ref n=>(∃xs,ao a n xs)/\t S a λds b=>r n ds b Q
 |_=>False
theorem d_ms(slot:Slot "str" name id)(y:typeOf (.builtin id)=pure (.type "method_descriptor"))(u:Nd X id (Dp X.K r))(B:DE X o to)(p:DA X (e::es) t)(b:o4 o name X.env (eval o X.env)=eval o X.env:=by rfl)(h:((j5 cpos<|j6 (e::es) X.env).all (λx=>!x.1)&&(backToKw cpos<|o5 [] X.env).all (λx=>x.1.isSome) && decide ((e::es).length+([]:List o6).length+(if ([]:List o6).isEmpty then 0 else 1)<30))=a9:=by rfl)(c:(apos.endLine==cpos.line)=a9:=by rfl) (hs:j6 (e::es) X.env=(b7,eval e X.env)::j6 es X.env:=by rfl) (n:(j5 cpos<|j6 es X.env).any (·.1)=b7:=by rfl):DE X (.Call (.Attribute o name apos) (e::es) [] cpos) (OJ r to t):=by
 refine PE.imp (JW PySem.F.plainAttrs_str slot y u B p b h c hs n) ?_;rintro σ H R ⟨S,M,ρ,Q,s,i,q,k⟩;refine⟨S,M,ρ,_,s,i,q,?_⟩;rintro v I ⟨d,j,a,E,g1,C,g⟩;cases C with
 |str z=>exact⟨rfl,S,j,a,_,E,i.grow g1,g,λvs J ⟨ds,l,f,G,m,D,A⟩=>⟨z,ds,l,f,Q,rfl,G,D,A,λv H' w=>k v H'<|VQ.trans (g1.trans m) w⟩⟩
 |_=>exact g.elim
theorem d_ml(slot:Slot "list" name id)(y:typeOf (.builtin id)=pure (.type "method_descriptor"))(C:Nd X id (ux X.K r))(D:DE X o to)(B:DA X (e::es) t)(b:o4 o name X.env (eval o X.env)=eval o X.env:=by rfl)(f:((j5 cpos<|j6 (e::es) X.env).all (λx=>!x.1)&&(backToKw cpos<|o5 [] X.env).all (λx=>x.1.isSome) && decide ((e::es).length+([]:List o6).length+(if ([]:List o6).isEmpty then 0 else 1)<30))=a9:=by rfl)(c:(apos.endLine==cpos.line)=a9:=by rfl) (hs:j6 (e::es) X.env=(b7,eval e X.env)::j6 es X.env:=by rfl) (h:(j5 cpos<|j6 es X.env).any (·.1)=b7:=by rfl):DE X (.Call (.Attribute o name apos) (e::es) [] cpos) (NF r to t):=by
 refine PE.imp (JW PySem.F.plainAttrs_list slot y C D B b f c hs h) ?_;rintro σ H R ⟨S,M,ρ,Q,s,z,q,k⟩;refine⟨S,M,ρ,_,s,z,q,?_⟩;rintro v O ⟨d,i,j,u,g1,I,g⟩;cases I with
 |@ref n a p =>
  obtain⟨⟨xs,L⟩,g⟩:=(show (∃xs,ao i n xs)/\t S i _ from g)
  obtain⟨vs,E,_⟩:=ao.seq u L p;refine⟨.inl ⟨rfl,vs,E⟩,S,i,j,_,u,z.grow g1,g,?_⟩;rintro vs P ⟨ds,A,l,N,m,J,G⟩;exact⟨n,a,ds,A,l,Q,rfl,aO m.pre p,N,J,G,λv H' w=>k v H'<|VQ.trans (g1.trans m) w⟩
 |_=>exact g.elim
def dc(n:Nat):E9:=λds M Q=>match ds with
 | [d]=>∃xs,M[n]?=a7 (.lst xs)/\xs.length<sizeLine/\Q .non (M.set n<|.lst<|xs++[d])
 |_=>False
theorem xG:Nd X "list.append" (ux X.K dc):=by
 rintro p s σ H x xs v us R I l j ⟨n,a,ds,M,ρ,Q,c,b,m,f,q,k⟩;unfold dc at q;split at q;rename_i d;obtain⟨ys,e,g,q⟩:=q
 first|have z:=Reps.inv_cons f|have z:=ax.inv_cons f
 clear f;obtain⟨_,_,rfl,i,f⟩:=z;cases f;obtain⟨vs,h,r⟩:=m.obj n a _ b e;obtain⟨w,t⟩:=m.write b e h<|r.append<|.cons i .nil;exact Ay p s σ H x _ v us R I l j ⟨a,vs,_,c,rfl,h,by rw[<-r.length];exact g,k _ _ ⟨.non,_,ρ,w,t,.non,q⟩⟩;exact q.elim
end
def bP(K:v9)(mg:c9->Option b9)(x:c9)(st:j7)(ps:List c9):Prop:=∃f d,Nq K x x st f d/\mg x=a7 (.ref f)/\tj K d ps []
def x5(P:d6)(w:d5)(K:v9)(mg:c9->Option b9)(base:d9)(k:Nat)(x:c9)(ps:List c9)(r:A4):Prop:=∃f d,FnOk P w K mg base L5 k f d ps (Nl K r)/\mg x=a7 (.ref f)/\Ox K (.ref f)=a9/\tj K d ps []
theorem fnat_mk{K:v9}{h:d9}{mg:c9->Option b9}{x:c9}{st:j7}{ps:List c9}{f:d7}{b:b9}{j M:Option d7}{o:Array (Option b9)}{kV i U v R:b9}(X:K.In h) (G:h.Ns f7 mg) (a:Nv K f7 x=a7 (a7<|.ref f))(l:K.lookup f=a7 ⟨b,j,.func<|Od x x (gM st) (bU st) (aC st) .none kV i U M v R,o⟩)(c:QY K v x=a9) (k:Ox K (.ref f)=a9)(h:∀(kV i U:b9) (M:Option d7) (v R:b9) (us:List b9),us.length=ps.length->bindArgs (Od x x (gM st) (bU st) (aC st) .none kV i U M v R) ⟨us,[]⟩=pure (ps.zip us)):bP K mg x st ps:=have F:=LD (st:=st) l c k
 ⟨f,_,F,PySem.W.mg_of X G a,F.binds h⟩
theorem x5.of{P:d6}{w:d5}{K:v9}{mg:c9->Option b9}{base:d9}{x:c9}{st:j7}{N ps:List c9}{k:Nat}{d:A4}(F:bP K mg x st ps)(i:FnScope N ps (aC st))(B:∀ds M R,d ds M R->ds.length=ps.length) {t:u7}(r:∀(f:d7) (cdv:b9) (A:f9) (outer:List Env) (s:g8) (H:Hp) (E:XK),Room k (A.deeper<|n5 x (aC st) s.heap.objs.size f cdv)->NI (yp L5 P w K mg base N x (aC st) f cdv A outer s H E).nox (bU st) t)(p:∀ds M R,d ds M R->t ⟨λ_ M'=>ar M R .non M',ar M R,λ_ _=>False,λ_ _=>False⟩ (bT N ds) M):x5 P w K mg base (k+1) x ps d:=by obtain⟨f,b,a,m,h⟩:=F;exact⟨f,b,d_fn d a i B λcdv A outer s H E c=>⟨t,r f cdv A outer s H E c,p⟩,m,a.kp,h⟩
theorem HL{P:d6}{w:d5}{K:v9}{mg:c9->Option b9}{base:d9}{x:c9}{st:j7}{N ps:List c9}{k:Nat}{d:A4}{f:d7}{a:n0}(F:Nq K x x st f a)(i:FnScope N ps (aC st))(B:∀ds M R,d ds M R->ds.length=ps.length) {t:u7}(r:∀(f:d7) (cdv:b9) (A:f9) (outer:List Env) (s:g8) (H:Hp) (E:XK),Room k (A.deeper<|n5 x (aC st) s.heap.objs.size f cdv)->NI (yp L5 P w K mg base N x (aC st) f cdv A outer s H E).nox (bU st) t)(p:∀ds M R,d ds M R->t ⟨λ_ M'=>ar M R .non M',ar M R,λ_ _=>False,λ_ _=>False⟩ (bT N ds) M):FnOk P w K mg base L5 (k+1) f a ps (Nl K d):=d_fn d F i B λcdv A outer s H E h=>⟨t,r f cdv A outer s H E h,p⟩
theorem d_cal(C:x5 X.prog X.w X.K X.mg X.base j x ps P)(r:Room k X.A)(a:DA X (e::es) t)(hj:j<=k:=by decide)(S:Gl X x:=by rfl) (b:(x==("__debug__":c9))=b7:=by decide) (i:j6 (e::es) X.env=(b7,eval e X.env)::j6 es X.env:=by rfl) (l:(j5 pos<|j6 es X.env).any (·.1)=b7:=by rfl):DE X (.Call (.Name x p) (e::es) [] pos) (u5 P t):=by obtain⟨f,c,F,m,h,d⟩:=C;exact Mg F (r.mono hj) m h d a S b i l
theorem Ii(d:∃t,X.mg x=a7 (.int i t))(S:Gl X x:=by rfl)(b:(x==("__debug__":c9))=b7:=by decide):DE X (.Name x pos) (dC<|.int i):=by obtain⟨t,d⟩:=d;exact Mf d rfl ⟨t,rfl⟩ S b
def GL:A4:=λds M R=>∃(ns:List Int) (m:MO),ns.length<=63/\(m.items=ns.map D.int/\m.isL=a9)/\ds=[.ref 0]/\M=[m]/\∀a,R (.bl a9) a
theorem ir(h:M[n]?=a7 mo)(g:mo.isL=a9):ao M n mo.items:=by
 cases mo with
 |lst xs=>exact .inl h
 |fz xs=>exact .inr<|.inl h
 |kl xs=>exact .inr<|.inr h
 |dct xs=>cases g
 |dkt xs=>cases g
 |dkq _ xs=>cases g
 |fdc o xs=>cases g
 |dkm xs=>cases g
 |tb x b=>cases g
 |exc x e=>cases g
 |ins c s=>cases g
 |tl x p q e=>cases g
theorem il{K:v9}{ρ:List d7}{H:Hp}:∀(ns:List Int),Reps K ρ H (ns.map D.int) (ns.map V.int)
 | []=>.nil
 |n::ns=>.cons (.int n)<|il ns
theorem xM{K:v9}{H:Hp}{a:d7}{ns:List Int}(g:ns.length<=63)(S:J1 K H a (ns.map V.int)):Nl K GL [.ref a] H (λv _=>v=.bl a9) λ_ _ _=>False:=by
 have one:∀{mo:MO},mo.items=ns.map D.int/\mo.isL=a9->yk K [a] H a mo->Nl K GL [.ref a] H (λv _=>v=.bl a9) λ_ _ _=>False:=λ{mo} e ok=>by refine⟨[.ref 0],[mo],[a],λd _=>d=.bl a9,⟨λn m b c t l=>?_,rfl,λn b f t l=>?_⟩,.cons (.ref rfl) .nil,⟨ns,mo,g,e,rfl,rfl,λ_=>rfl⟩,λv H' ⟨d,M,i,_,_,r,q⟩=>?_⟩;have h1:=(A3.mp t).1;have h2:=(A3.mp l).1;simp at h1 h2;lia;have h1:=(A3.mp t).1;simp at h1;subst h1;simp at t l;subst t l;exact ok;have j:d=.bl a9:=q;subst j;cases r;rfl
 rcases S with(h|⟨o,h⟩)|h;exact one (mo:=.lst _) ⟨rfl,rfl⟩ ⟨_,h,il ns⟩;exact one (mo:=.fz _) ⟨rfl,rfl⟩ ⟨o,_,h,il ns⟩;exact one (mo:=.kl _) ⟨rfl,rfl⟩ ⟨_,h,il ns⟩
theorem law_walk{l:PySem.W.OpenLaw}{q:d6}{b:List c9}{P:(c9->Option b9)->d9->Prop}{YP:d5->d9->Prop}{d:DefRec}{K:Params->v9}{k:Nat}{st:j7}{x:c9}(y:l.most=a7 63)(i:d.params.defaults=[])(p:d.name = "law")(A:Room k callerA)(D:∀(w:d5) (h:d9),YP w h->(K w.params).In h)(F:∀(w:d5) (mg:c9->Option b9) (h:d9),(K w.params).In h->h.Ns f7 mg->bP (K w.params) mg "law" st [x] /\ ∀(base:d9) (f:d7) (fd:n0),Nq (K w.params) "law" "law" st f fd->FnOk l.prog w (K w.params) mg base L5 k f fd [x] (Nl (K w.params) GL))(m:∀(kV doc pm:b9) (an:Option d7) (cdv ct:b9) (u:b9),bindArgs (Od "law" "law" (gM st) (bU st) (aC st) .none kV doc pm an cdv ct) ⟨[u],[]⟩=pure [(x,u)]):PySem.W.WalkO q b P YP l.row.toRowW d [] (λf vs=>PySem.call f vs):=by refine L2.walk_of (n:=63) (k:=k) (x:=x) (CX:=λ_=>L5) (sp:=λw=>Nl (K w.params) GL) y (by decide) i A D (λw mg I h X G g=>?_) (λw H a ns r _ S=>xM r S) λ_ _ _ _ _ z=>z;rw[p]at g;obtain⟨⟨f,fd,c,t,_⟩,C⟩:=F w mg h X G;have e:=g.symm.trans t;cases e;have j:=λbase=>C base _ _ c;obtain⟨J,L,kV,doc,pm,an,cdv,ct,B,rfl,E,o⟩:=id c.ex;exact⟨_,λs v=>.of_eq<|m kV doc pm an cdv ct v,λbase _ _=>j base⟩
noncomputable def oz(m:List (c9×n4))(N N':List c9)(t:Nat)(s:List Nat)(c:g9):Bool:=c.kind==.function&&c.names.all (λy=>y.2 != .cell&&(y.2 != .local||c.names.lookup y.1==a7 .local)&&(y.2 != .free||(m.lookup y.1==a7 .cell||m.lookup y.1==a7 .free))) &&
 N'.length==t+s.length&&(C3 s.length).all λk=>match s[k]?,N'[t+k]? with
  |some j,a7 x=>N[j]?==a7 x&&c.names.lookup x==a7 .free&&(m.lookup x==a7 .cell||m.lookup x==a7 .free)
  |_,_=>b7
theorem BlkSc.chk(h:oz X.env.scope.names X.N N' nt js scope=a9):BlkSc X N' nt js scope:=by
 unfold oz at h;simp only[B8,D7,t4,Qc,bne_iff_ne]at h;obtain⟨⟨⟨h1,h2⟩,a⟩,d⟩:=h;refine⟨h1,λy Q=>(h2 y Q).1.1,λy Q e=>((h2 y Q).1.2.resolve_left<|λz=>z e),λy Q e=>((h2 y Q).2.resolve_left<|λz=>z e),a,λk j e=>?_⟩;have b:k<js.length:=(A3.mp e).1;have q:=d k<|I9.mpr b;rw[e]at q;cases f:N'[nt+k]? with
 |none=>rw[f]at q;exact r9 q<|by simp
 |some x=>rw[f]at q;simp only[B8,t4,Qc]at q;exact⟨x,rfl,q.1.1,q.1.2,q.2⟩
def QK(r:PY)(t:A2):A2:=λS M Q=>t S M λx a=>r x a Q
theorem d_un(B:Rz X (unaryOp op) r)(f:DE X a ta):DE X (.UnaryOp op a pos) (QK r ta):=by refine PE.imp (pe_un B f) ?_;rintro σ H R ⟨S,M,ρ,Q,s,i,q,k⟩;refine⟨S,M,ρ,_,s,i,q,?_⟩;rintro v j ⟨d,b,c,h,g1,g,e⟩;exact⟨d,b,c,Q,h,g,e,λv H' w=>k v H'<|VQ.trans g1 w⟩
def Jz:PY:=λx M Q=>match x with
 |.int i=>Q (.int (-i)) M
 |_=>False
theorem IZ:Rz X (unaryOp .USub) Jz:=by rintro p s σ H a v R I g ⟨x,M,ρ,Q,m,r,q,k⟩;unfold Jz at q;split at q;cases r;exact IY p s σ H _ v R I g ⟨_,rfl,k _ H<|VQ.now m (.int _) q⟩;exact q.elim
noncomputable def D8(f:D->D->Bool):List D->List D->Bool
 | [],[]=>a9
 |x::xs,y::ys=>f x y&&D8 f xs ys
 |_,_=>b7
noncomputable def v7(M:u8):Nat->D->D->Bool
 |_,.non,.non=>a9
 |_,.bl a,.bl b=>a==b
 |_,.bl a,.int b=>(if a then 1 else 0)==b
 |_,.int a,.bl b=>a==(if b then 1 else 0)
 |_,.int a,.int b=>a==b
 |_,.str a,.str b=>a==b
 |n+1,.tup xs,.tup ys=>D8 (v7 M n) xs ys
 |n+1,.ref i,.ref j=>match M[i]?,M[j]? with
  |some a,a7 b=>D8 (v7 M n) a.items b.items
  |_,_=>b7
 |_,_,_=>b7
noncomputable def x3(M:u8):Nat->D->Bool
 |_,.ty _=>b7
 |n+1,.tup xs=>xs.all<|x3 M n
 |n+1,.ref i=>match M[i]? with
  |some a=>a.isL&&a.items.all (x3 M n)
  |none=>b7
 | 0,.tup _=>b7
 | 0,.ref _=>b7
 |_,_=>a9
theorem Bz:∀{xs ys:List D},D8 f xs ys=a9->xs.length=ys.length
 | [],[],_=>rfl
 | [],_::_,h=>by simp[D8]at h
 |_::_,[],h=>by simp[D8]at h
 |x::xs,y::ys,h=>by simp only[D8,B8]at h;rw[C5,C5,Bz h.2]
theorem BY(n:Nat)(e:Nat->Bool):(C3<|n+1).all e=(e 0&&(C3 n).all λj=>e<|j+1):=by rw[List.range_succ_eq_map,MG,Ou];rfl
theorem mM:∀{xs ys:List D}{e:Nat->Bool},xs.length=ys.length->(∀(j:Nat) x y,xs[j]?=a7 x->ys[j]?=a7 y->e j=f x y)->(C3 xs.length).all e=D8 f xs ys
 | [],[],e,_,_=>by simp[D8]
 | [],_::_,_,h,_=>by simp at h
 |_::_,[],_,h,_=>by simp at h
 |x::xs,y::ys,e,h,he=>by rw[C5,BY,D8,he 0 x y rfl rfl,mM (by simpa using h) λj x' y' h1 h2=>he (j+1) x' y' (by simpa using h1)<|by simpa using h2]
theorem wA(h:xs.length≠ys.length):D8 f xs ys=b7:=by
 cases q:D8 f xs ys with
 |false=>rfl
 |true=>exact r9 (Bz q) h
theorem gQ{vs:List V}{us:List b9}(h:ax vs us){j:Nat}{v:V}(e:vs[j]?=a7 v):∃u,us[j]?=a7 u/\aQ v u:=by
 induction h generalizing j with
 |nil=>simp at e
 |cons r _ i =>
  cases j with
  |zero=>simp at e;subst e;exact⟨_,rfl,r⟩
  |succ j=>exact i<|by simpa using e
section
variable{X:Cx}{pins:List (d7×d8)}{σ:St}{H:Hp}{s:g8}{ρ:List d7}{M:u8}
theorem lM(I:u6 X pins σ H s)(m:x8 X.K ρ M H){i:Nat}{a:d7}{mo:MO}(e:ρ[i]?=a7 a)(d:M[i]?=a7 mo)(g:mo.isL=a9):∃vs its,J1 X.K H a vs/\Reps X.K ρ H mo.items vs/\ax vs its/\PlainL s.heap a its.toArray:=by obtain⟨vs,q,r⟩:=ao.seq m (ir d g) e;obtain⟨its,f,p,_⟩:=I.list q;exact⟨vs,its,q,r,f,p⟩
theorem dj(d:M[i]?=a7 mo)(o:x3 M (n+1) (.ref i)=a9):mo.isL=a9/\mo.items.all (x3 M n)=a9:=by have o':(match M[i]? with|some a=>a.isL&&a.items.all (x3 M n)|none=>b7)=a9:=o;rw[d]at o';exact(B8 _ _).mp o'
theorem Ei(I:u6 X pins σ H s)(m:x8 X.K ρ M H):∀(n:Nat) (x y:D) (v:V),w5 X.K ρ H x v->w5 X.K ρ H y v->x3 M n x=a9->x3 M n y=a9->v7 M n x y=a9:=by
 have l:∀(n:Nat),(∀(x y:D) (v:V),w5 X.K ρ H x v->w5 X.K ρ H y v->x3 M n x=a9->x3 M n y=a9->v7 M n x y=a9) -> ∀(xs ys:List D) (vs:List V),Reps X.K ρ H xs vs->Reps X.K ρ H ys vs->xs.all (x3 M n)=a9->ys.all (x3 M n)=a9->D8 (v7 M n) xs ys=a9:=by
  intro n p xs;induction xs with
  |nil=>intro ys vs h1 h2 _ _;cases h1;cases h2;rfl
  |cons x xs hi =>
   intro ys vs h1 h2 o1 o2;cases h1 with
   |cons G P =>
    cases h2 with
    |cons J Q=>rw[MG,B8]at o1 o2;rw[D8,p _ _ _ G J o1.1 o2.1,hi _ _ P Q o1.2 o2.2];rfl
 intro n;induction n with
 |zero=>intro x y v h1 h2 o1 o2;cases h1<;>cases h2<;>first|(simp[x3]at o1;done)|rfl|simp[v7]
 |succ n p =>
  intro x y v h1 h2 o1 o2;cases h1 with
  |non=>cases h2;rfl
  |bl b=>cases h2;simp[v7]
  |int b=>cases h2;simp[v7]
  |str b=>cases h2;simp[v7]
  |ty b=>simp[x3]at o1
  |@tup a vs ds q r =>
   cases h2 with
   |tup h r'=>have e:=I.tuple_inj q h;subst e;exact l n p _ _ _ r r' (by simpa [x3]using o1)<|by simpa [x3]using o2
   |@ref i _ e =>
    exfalso;obtain⟨its,_,⟨o,t,u,_⟩,_⟩:=I.tuple q;have hi:i<M.length:=by rw[<-m.len];exact(A3.mp e).1
    obtain⟨g,d,_,_,_,⟨o',C,f,N,_⟩⟩:=lM I m e (C4 hi) (dj (C4 hi) o2).1;rw[t]at f;cases f;rw[u]at N;injection N with f3;exact r9 f3<|by decide
  |@ref i a e =>
   have hi:i<M.length:=by rw[<-m.len];exact(A3.mp e).1
   have k:=C4 hi;obtain⟨vs,its,q,r,R,E⟩:=lM I m e k (dj k o1).1;cases h2 with
   |tup h r'=>exfalso;obtain⟨d,_,⟨o,t,u,_⟩,_⟩:=I.tuple h;obtain⟨o',C,f,N,_⟩:=E;rw[t]at f;cases f;rw[u]at N;injection N with f3;exact r9 f3<|by decide
   |@ref j _ A =>
    have L:j<M.length:=by rw[<-m.len];exact(A3.mp A).1
    have c:=C4 L;obtain⟨g,d,h,r',O,F⟩:=lM I m A c (dj c o2).1;have B:vs=g:=I.list_inj q h;subst B;have w:=(dj k o1).2;have z:=(dj c o2).2;simp only[v7,k,c];exact l n p _ _ _ r r' w z
theorem mN(I:u6 X pins σ H s)(sm:x8 X.K ρ M H):∀(n:Nat) (A:f9) (x y:D) (vx vy:V) (u v:b9),A.units+n<m9->w5 X.K ρ H x vx->aQ vx u->w5 X.K ρ H y vy->aQ vy v->x3 M n x=a9->x3 M n y=a9 ->Ng A s u v (v7 M n x y)/\SeqAt.RcAt A s u v (v7 M n x y)/\SeqAt.RcNeAt A s u v (!v7 M n x y):=by
 intro n;induction n with
 |zero =>
  intro A x y vx vy u v hu R w m l o1 o2;cases R with
  |ty b=>simp[x3]at o1
  |tup b=>simp[x3]at o1
  |ref b=>simp[x3]at o1
  |non =>
   cases w;cases m with
   |ty b=>simp[x3]at o2
   |tup b=>simp[x3]at o2
   |ref b=>simp[x3]at o2
   |non=>cases l;exact⟨Q2 _,SeqAt.RcAt.none_none,SeqAt.RcNeAt.none_none⟩
   |bl b=>cases l;exact⟨SeqAt.EqAt.none_bool _,SeqAt.RcAt.none_bool _,SeqAt.RcNeAt.none_bool _⟩
   |int b=>obtain⟨t,rfl⟩:=l;exact⟨SeqAt.EqAt.none_int _ _,SeqAt.RcAt.none_int _ _,SeqAt.RcNeAt.none_int _ _⟩
   |str b=>obtain⟨t,rfl⟩:=l;exact⟨SeqAt.EqAt.none_str _ _,SeqAt.RcAt.none_str _ _,SeqAt.RcNeAt.none_str _ _⟩
  |bl a =>
   cases w;cases m with
   |ty b=>simp[x3]at o2
   |tup b=>simp[x3]at o2
   |ref b=>simp[x3]at o2
   |non=>cases l;exact⟨SeqAt.EqAt.bool_none _,SeqAt.RcAt.bool_none _,SeqAt.RcNeAt.bool_none _⟩
   |bl b=>cases l;exact⟨SeqAt.EqAt.bool_bool _ _,SeqAt.RcAt.bool_bool _ _,SeqAt.RcNeAt.bool_bool _ _⟩
   |int b=>obtain⟨t,rfl⟩:=l;exact⟨SeqAt.EqAt.bool_int _ _ _,SeqAt.RcAt.bool_int _ _ _,SeqAt.RcNeAt.bool_int _ _ _⟩
   |str b=>obtain⟨t,rfl⟩:=l;exact⟨SeqAt.EqAt.bool_str _ _ _,SeqAt.RcAt.bool_str _ _ _,SeqAt.RcNeAt.bool_str _ _ _⟩
  |int a =>
   obtain⟨t0,rfl⟩:=w;cases m with
   |ty b=>simp[x3]at o2
   |tup b=>simp[x3]at o2
   |ref b=>simp[x3]at o2
   |non=>cases l;exact⟨SeqAt.EqAt.int_none _ _,SeqAt.RcAt.int_none _ _,SeqAt.RcNeAt.int_none _ _⟩
   |bl b=>cases l;exact⟨SeqAt.EqAt.int_bool _ _ _,SeqAt.RcAt.int_bool _ _ _,SeqAt.RcNeAt.int_bool _ _ _⟩
   |int b=>obtain⟨t,rfl⟩:=l;exact⟨Qm _ _ _ _,SeqAt.RcAt.int_int _ _ _ _,SeqAt.RcNeAt.int_int _ _ _ _⟩
   |str b=>obtain⟨t,rfl⟩:=l;exact⟨Qp _ _ _ _,SeqAt.RcAt.int_str _ _ _ _,SeqAt.RcNeAt.int_str _ _ _ _⟩
  |str a =>
   obtain⟨t0,rfl⟩:=w;cases m with
   |ty b=>simp[x3]at o2
   |tup b=>simp[x3]at o2
   |ref b=>simp[x3]at o2
   |non=>cases l;exact⟨SeqAt.EqAt.str_none _ _,SeqAt.RcAt.str_none _ _,SeqAt.RcNeAt.str_none _ _⟩
   |bl b=>cases l;exact⟨SeqAt.EqAt.str_bool _ _ _,SeqAt.RcAt.str_bool _ _ _,SeqAt.RcNeAt.str_bool _ _ _⟩
   |int b=>obtain⟨t,rfl⟩:=l;exact⟨Qo _ _ _ _,SeqAt.RcAt.str_int _ _ _ _,SeqAt.RcNeAt.str_int _ _ _ _⟩
   |str b=>obtain⟨t,rfl⟩:=l;exact⟨Rg _ _ _ _,SeqAt.RcAt.str_str _ _ _ _,SeqAt.RcNeAt.str_str _ _ _ _⟩
 |succ n ih =>
  intro A x y vx vy u v hu R w m l o1 o2;have c:A.units<m9:=by lia
  have ab:A.in1.units+n<m9:=by show A.units+1+n<m9;lia
  -- what a list or a tuple is,as the heap has it
  have tupAt:∀{a:d7}{vs:List V}{ds:List D},E2 X.K H a vs->Reps X.K ρ H ds vs->∃its:List b9,ax vs its/\s.heap.IsTuple a its.toArray/\ds.length=its.length:=λ{a vs ds} q r=>by obtain⟨its,g,p,_⟩:=I.tuple q;exact⟨its,g,p,r.length.trans g.length⟩
  have lstAt:∀{i:Nat}{a:d7},ρ[i]?=a7 a->x3 M (n+1) (.ref i)=a9->∃o,M[i]?=a7 o/\∃vs its,Reps X.K ρ H o.items vs/\ax vs its/\s.heap.IsList a its.toArray/\o.items.length=its.length:=λ{i a} e ok=>by
   have hi:i<M.length:=by rw[<-sm.len];exact(A3.mp e).1
   have z:=C4 hi;obtain⟨vs,its,q,r,g,p⟩:=lM I sm e z (dj z ok).1;exact⟨_,z,vs,its,r,g,p.isList,r.length.trans g.length⟩
  have f:∀{xs ys:List D}{vs ws:List V}{its d:List b9},Reps X.K ρ H xs vs->ax vs its->Reps X.K ρ H ys ws->ax ws d->xs.all (x3 M n)=a9->ys.all (x3 M n)=a9 -> ∀(j:Nat) (h1:j<its.toArray.size) (h2:j<d.toArray.size),Ng A.in1 s its.toArray[j] d.toArray[j] (v7 M n (xs.getD j .non)<|ys.getD j .non):=λ{xs ys vs ws its d} R q1 m q2 o1 o2 j h1 h2=>by
   have l1:j<xs.length:=by rw[R.length,q1.length];simpa using h1
   have l2:j<ys.length:=by rw[m.length,q2.length];simpa using h2
   obtain⟨v1,g1,p1⟩:=R.get<|C4 l1;obtain⟨v2,g2,p2⟩:=m.get<|C4 l2;obtain⟨u1,k1,m1⟩:=gQ q1 g1;obtain⟨u2,k2,m2⟩:=gQ q2 g2;have z1:its.toArray[j]=u1:=by have:=(A3.mp k1).2;simpa using this
   have z2:d.toArray[j]=u2:=by have:=(A3.mp k2).2;simpa using this
   rw[z1,z2];have y1:xs.getD j .non=xs[j]:=by simp[OO,C4 l1]
   have y2:ys.getD j .non=ys[j]:=by simp[OO,C4 l2]
   rw[y1,y2];exact(ih A.in1 _ _ _ _ _ _ ab p1 m1 p2 m2 (D7.mp o1 _<|G6 l1)<|D7.mp o2 _<|G6 l2).1
  have W:∀(xs ys:List D),xs.length=ys.length->(C3 xs.length).all (λj=>v7 M n (xs.getD j .non)<|ys.getD j .non)=D8 (v7 M n) xs ys:=λxs ys h=>mM h λj x y h1 h2=>by simp[OO,h1,h2]
  have N:∀{a b:d7}{k:Bool},w5 X.K ρ H x (.ref a)->w5 X.K ρ H y (.ref b)->v7 M (n+1) x y=k->SeqAt.RcAt A s (.ref a) (.ref b) k->SeqAt.RcNeAt A s (.ref a) (.ref b) (!k) -> Ng A s (.ref a) (.ref b) (v7 M (n+1) x y)/\SeqAt.RcAt A s (.ref a) (.ref b) (v7 M (n+1) x y)/\SeqAt.RcNeAt A s (.ref a) (.ref b) (!v7 M (n+1) x y):=λ{a b k} p1 p2 Y h1 h2=>by subst Y;refine⟨?_,h1,h2⟩;by_cases S:a=b;subst S;rw[Ei I sm (n+1) x y _ p1 p2 o1 o2];exact Q2 _;exact SeqAt.EqAt.of_refs S h1
  cases R with
  |ty b=>simp[x3]at o1
  |non =>
   cases w;cases m with
   |ty b=>simp[x3]at o2
   |tup q r=>cases l;obtain⟨its,g,p,_⟩:=tupAt q r;exact⟨SeqAt.EqAt.none_tuple p c,SeqAt.RcAt.none_tuple p c,SeqAt.RcNeAt.none_tuple p c⟩
   |ref e=>cases l;obtain⟨o,z,vs,its,r,g,p,_⟩:=lstAt e o2;exact⟨SeqAt.EqAt.none_list p c,SeqAt.RcAt.none_list p c,SeqAt.RcNeAt.none_list p c⟩
   |non=>cases l;exact⟨Q2 _,SeqAt.RcAt.none_none,SeqAt.RcNeAt.none_none⟩
   |bl b=>cases l;exact⟨SeqAt.EqAt.none_bool _,SeqAt.RcAt.none_bool _,SeqAt.RcNeAt.none_bool _⟩
   |int b=>obtain⟨t,rfl⟩:=l;exact⟨SeqAt.EqAt.none_int _ _,SeqAt.RcAt.none_int _ _,SeqAt.RcNeAt.none_int _ _⟩
   |str b=>obtain⟨t,rfl⟩:=l;exact⟨SeqAt.EqAt.none_str _ _,SeqAt.RcAt.none_str _ _,SeqAt.RcNeAt.none_str _ _⟩
  |bl a =>
   cases w;cases m with
   |ty b=>simp[x3]at o2
   |tup q r=>cases l;obtain⟨its,g,p,_⟩:=tupAt q r;exact⟨SeqAt.EqAt.bool_tuple _ p c,SeqAt.RcAt.bool_tuple _ p c,SeqAt.RcNeAt.bool_tuple _ p c⟩
   |ref e=>cases l;obtain⟨o,z,vs,its,r,g,p,_⟩:=lstAt e o2;exact⟨SeqAt.EqAt.bool_list _ p c,SeqAt.RcAt.bool_list _ p c,SeqAt.RcNeAt.bool_list _ p c⟩
   |non=>cases l;exact⟨SeqAt.EqAt.bool_none _,SeqAt.RcAt.bool_none _,SeqAt.RcNeAt.bool_none _⟩
   |bl b=>cases l;exact⟨SeqAt.EqAt.bool_bool _ _,SeqAt.RcAt.bool_bool _ _,SeqAt.RcNeAt.bool_bool _ _⟩
   |int b=>obtain⟨t,rfl⟩:=l;exact⟨SeqAt.EqAt.bool_int _ _ _,SeqAt.RcAt.bool_int _ _ _,SeqAt.RcNeAt.bool_int _ _ _⟩
   |str b=>obtain⟨t,rfl⟩:=l;exact⟨SeqAt.EqAt.bool_str _ _ _,SeqAt.RcAt.bool_str _ _ _,SeqAt.RcNeAt.bool_str _ _ _⟩
  |int a =>
   obtain⟨t0,rfl⟩:=w;cases m with
   |ty b=>simp[x3]at o2
   |tup q r=>cases l;obtain⟨its,g,p,_⟩:=tupAt q r;exact⟨SeqAt.EqAt.int_tuple _ _ p c,SeqAt.RcAt.int_tuple _ _ p c,SeqAt.RcNeAt.int_tuple _ _ p c⟩
   |ref e=>cases l;obtain⟨o,z,vs,its,r,g,p,_⟩:=lstAt e o2;exact⟨SeqAt.EqAt.int_list _ _ p c,SeqAt.RcAt.int_list _ _ p c,SeqAt.RcNeAt.int_list _ _ p c⟩
   |non=>cases l;exact⟨SeqAt.EqAt.int_none _ _,SeqAt.RcAt.int_none _ _,SeqAt.RcNeAt.int_none _ _⟩
   |bl b=>cases l;exact⟨SeqAt.EqAt.int_bool _ _ _,SeqAt.RcAt.int_bool _ _ _,SeqAt.RcNeAt.int_bool _ _ _⟩
   |int b=>obtain⟨t,rfl⟩:=l;exact⟨Qm _ _ _ _,SeqAt.RcAt.int_int _ _ _ _,SeqAt.RcNeAt.int_int _ _ _ _⟩
   |str b=>obtain⟨t,rfl⟩:=l;exact⟨Qp _ _ _ _,SeqAt.RcAt.int_str _ _ _ _,SeqAt.RcNeAt.int_str _ _ _ _⟩
  |str a =>
   obtain⟨t0,rfl⟩:=w;cases m with
   |ty b=>simp[x3]at o2
   |tup q r=>cases l;obtain⟨its,g,p,_⟩:=tupAt q r;exact⟨SeqAt.EqAt.str_tuple _ _ p c,SeqAt.RcAt.str_tuple _ _ p c,SeqAt.RcNeAt.str_tuple _ _ p c⟩
   |ref e=>cases l;obtain⟨o,z,vs,its,r,g,p,_⟩:=lstAt e o2;exact⟨SeqAt.EqAt.str_list _ _ p c,SeqAt.RcAt.str_list _ _ p c,SeqAt.RcNeAt.str_list _ _ p c⟩
   |non=>cases l;exact⟨SeqAt.EqAt.str_none _ _,SeqAt.RcAt.str_none _ _,SeqAt.RcNeAt.str_none _ _⟩
   |bl b=>cases l;exact⟨SeqAt.EqAt.str_bool _ _ _,SeqAt.RcAt.str_bool _ _ _,SeqAt.RcNeAt.str_bool _ _ _⟩
   |int b=>obtain⟨t,rfl⟩:=l;exact⟨Qo _ _ _ _,SeqAt.RcAt.str_int _ _ _ _,SeqAt.RcNeAt.str_int _ _ _ _⟩
   |str b=>obtain⟨t,rfl⟩:=l;exact⟨Rg _ _ _ _,SeqAt.RcAt.str_str _ _ _ _,SeqAt.RcNeAt.str_str _ _ _ _⟩
  |@tup a vs ds q r =>
   cases w;obtain⟨its,g,p,Q⟩:=tupAt q r;cases m with
   |ty b=>simp[x3]at o2
   |non=>cases l;exact⟨SeqAt.EqAt.tuple_none p c,SeqAt.RcAt.tuple_none p c,SeqAt.RcNeAt.tuple_none p c⟩
   |bl b=>cases l;exact⟨SeqAt.EqAt.tuple_bool _ p c,SeqAt.RcAt.tuple_bool _ p c,SeqAt.RcNeAt.tuple_bool _ p c⟩
   |int b=>obtain⟨t,rfl⟩:=l;exact⟨SeqAt.EqAt.tuple_int _ _ p c,SeqAt.RcAt.tuple_int _ _ p c,SeqAt.RcNeAt.tuple_int _ _ p c⟩
   |str b=>obtain⟨t,rfl⟩:=l;exact⟨SeqAt.EqAt.tuple_str _ _ p c,SeqAt.RcAt.tuple_str _ _ p c,SeqAt.RcNeAt.tuple_str _ _ p c⟩
   |ref e=>cases l;obtain⟨o,z,aj,U,r',O,F,_⟩:=lstAt e o2;exact⟨SeqAt.EqAt.tuple_list p F c,SeqAt.RcAt.tuple_list p F c,SeqAt.RcNeAt.tuple_list p F c⟩
   |@tup b ws es L r' =>
    cases l;obtain⟨d,O,F,C⟩:=tupAt L r';have E:ds.all (x3 M n)=a9:=by simpa [x3]using o1
    have G:es.all (x3 M n)=a9:=by simpa [x3]using o2
    have ai:((C3<|min its.toArray.size d.toArray.size).all (λj=>v7 M n (ds.getD j .non)<|es.getD j .non)&&its.toArray.size==d.toArray.size)=D8 (v7 M n) ds es:=by rw[C9,C9];by_cases J:ds.length=es.length;rw[<-Q,<-C,<-J,Nat.min_self,W ds es J];simp;rw[wA J,<-Q,<-C];simp[J]
    have h1:=SeqAt.RcAt.tuples p F c<|f r g r' O E G;have h2:=SeqAt.RcNeAt.tuples p F c<|f r g r' O E G;rw[ai]at h1 h2;exact N (.tup q r) (.tup L r') rfl h1 h2
  |@ref i a e =>
   cases w;obtain⟨o,z,vs,its,r,g,p,Q⟩:=lstAt e o1;cases m with
   |ty b=>simp[x3]at o2
   |non=>cases l;exact⟨SeqAt.EqAt.list_none p c,SeqAt.RcAt.list_none p c,SeqAt.RcNeAt.list_none p c⟩
   |bl b=>cases l;exact⟨SeqAt.EqAt.list_bool _ p c,SeqAt.RcAt.list_bool _ p c,SeqAt.RcNeAt.list_bool _ p c⟩
   |int b=>obtain⟨t,rfl⟩:=l;exact⟨SeqAt.EqAt.list_int _ _ p c,SeqAt.RcAt.list_int _ _ p c,SeqAt.RcNeAt.list_int _ _ p c⟩
   |str b=>obtain⟨t,rfl⟩:=l;exact⟨SeqAt.EqAt.list_str _ _ p c,SeqAt.RcAt.list_str _ _ p c,SeqAt.RcNeAt.list_str _ _ p c⟩
   |tup L r'=>cases l;obtain⟨U,O,F,_⟩:=tupAt L r';exact⟨SeqAt.EqAt.list_tuple p F c,SeqAt.RcAt.list_tuple p F c,SeqAt.RcNeAt.list_tuple p F c⟩
   |@ref j b Z =>
    cases l;obtain⟨P,T,ws,d,r',O,F,C⟩:=lstAt Z o2;have E:o.items.all (x3 M n)=a9:=(dj z o1).2;have G:P.items.all (x3 M n)=a9:=(dj T o2).2;have Y:v7 M (n+1) (.ref i) (.ref j)=D8 (v7 M n) o.items P.items:=by simp only[v7,z,T]
    by_cases J:o.items.length=P.items.length;have B:its.toArray.size=d.toArray.size:=by rw[C9,C9,<-Q,<-C,J]
    have h1:=SeqAt.RcAt.lists p F B c<|f r g r' O E G;have h2:=SeqAt.RcNeAt.lists p F B c<|f r g r' O E G;rw[C9,<-Q,W _ _ J]at h1 h2;exact N (.ref e) (.ref Z) Y h1 h2;have B:(its.toArray.size != d.toArray.size)=a9:=by rw[C9,C9,<-Q,<-C];simpa using J
    have h1:=SeqAt.RcAt.lists_lengths p F B c;have h2:=SeqAt.RcNeAt.lists_lengths p F B c;exact N (.ref e) (.ref Z) (Y.trans<|wA J) h1 h2
noncomputable def v6:Nat:=30
def A6:G8:=λx y M Q=>(x3 M v6 x=a9/\x3 M v6 y=a9)/\Q (.bl<|v7 M v6 x y) M
def MZ:G8:=λx y M Q=>(x3 M v6 x=a9/\x3 M v6 y=a9)/\Q (.bl<|!v7 M v6 x y) M
noncomputable def NE(M:u8)(x:D)(ys:List D):Bool:=ys.any λy=>v7 M v6 y x
def JB(g:Bool):G8:=λx y M Q=>match y with
 |.tup ys=>(x3 M v6 x=a9/\ys.all (x3 M v6)=a9)/\Q (.bl<|NE M x ys != g) M
 |.ref n=>∃ys,ao M n ys/\(x3 M v6 x=a9/\ys.all (x3 M v6)=a9)/\Q (.bl<|NE M x ys != g) M
 |.str z=>match x with
  |.str p=>Q (.bl<|(!(Qy z p 0 z.length 1).isEmpty) != g) M
  |_=>False
 |_=>False
abbrev N4:G8:=JB b7
abbrev zK:G8:=JB a9
end
theorem oF(i:Room k A):A.units+v6<m9:=by have:=i.un;unfold v6;lia
theorem od_eq{X:Cx}(i:Room k X.A):G7 X (m5 .Eq) A6:=by rintro p s σ H c l v u R I g b ⟨x,y,M,ρ,Q,m,r,a,⟨⟨o1,o2⟩,q⟩,k⟩;exact(mN I m v6 X.A x y c l v u (oF i) r g a b o1 o2).2.1 _ _ _ _<|fA I m k q
theorem od_ne{X:Cx}(i:Room k X.A):G7 X (m5 .NotEq) MZ:=by rintro p s σ H c l v u R I g b ⟨x,y,M,ρ,Q,m,r,a,⟨⟨o1,o2⟩,q⟩,k⟩;exact(mN I m v6 X.A x y c l v u (oF i) r g a b o1 o2).2.2 _ _ _ _<|fA I m k q
theorem sJ{pins:List (d7×d8)}{σ:St}{H:Hp}{s:g8}{ρ:List d7}{M:u8}(I:u6 X pins σ H s)(m:x8 X.K ρ M H):∀(n:Nat) (x y z:D) (v:V),w5 X.K ρ H x v->w5 X.K ρ H y v->x3 M n x=a9->x3 M n y=a9->v7 M n x z=v7 M n y z:=by
 have l:∀(n:Nat),(∀(x y z:D) (v:V),w5 X.K ρ H x v->w5 X.K ρ H y v->x3 M n x=a9->x3 M n y=a9->v7 M n x z=v7 M n y z) -> ∀(xs ys d:List D) (vs:List V),Reps X.K ρ H xs vs->Reps X.K ρ H ys vs->xs.all (x3 M n)=a9->ys.all (x3 M n)=a9->D8 (v7 M n) xs d=D8 (v7 M n) ys d:=by
  intro n u xs;induction xs with
  |nil=>intro ys d vs h1 h2 _ _;cases h1;cases h2;rfl
  |cons x xs hi =>
   intro ys d vs h1 h2 o1 o2;cases h1 with
   |cons J Q =>
    cases h2 with
    |cons O R =>
     cases d with
     |nil=>rfl
     |cons z d=>rw[MG,B8]at o1 o2;rw[D8,D8,u _ _ z _ J O o1.1 o2.1,hi _ d _ Q R o1.2 o2.2]
 intro n;induction n with
 |zero=>intro x y z v h1 h2 o1 o2;cases h1<;>cases h2<;>first|rfl|(cases z<;>rfl)
 |succ n u =>
  intro x y z v h1 h2 o1 o2;cases h1 with
  |non=>cases h2;rfl
  |bl b=>cases h2;rfl
  |int b=>cases h2;rfl
  |str b=>cases h2;rfl
  |ty b=>cases h2;rfl
  |@tup a vs ds t r =>
   cases h2 with
   |tup h r' =>
    have e:=I.tuple_inj t h;subst e;cases z with
    |tup d=>exact l n u _ _ d _ r r' o1 o2
    |_=>rfl
   |@ref i _ e =>
    exfalso;obtain⟨its,_,⟨o,w,A,_⟩,_⟩:=I.tuple t;have hi:i<M.length:=by rw[<-m.len];exact(A3.mp e).1
    obtain⟨p,f,_,_,_,⟨o',E,g,N,_⟩⟩:=lM I m e (C4 hi) (dj (C4 hi) o2).1;rw[w]at g;cases g;rw[A]at N;injection N with f3;exact r9 f3<|by decide
  |@ref i a e =>
   have hi:i<M.length:=by rw[<-m.len];exact(A3.mp e).1
   have q:=C4 hi;obtain⟨vs,its,t,r,T,F⟩:=lM I m e q (dj q o1).1;cases h2 with
   |tup h r'=>exfalso;obtain⟨f,_,⟨o,w,A,_⟩,_⟩:=I.tuple h;obtain⟨o',E,g,N,_⟩:=F;rw[w]at g;cases g;rw[A]at N;injection N with f3;exact r9 f3<|by decide
   |@ref j _ B =>
    have L:j<M.length:=by rw[<-m.len];exact(A3.mp B).1
    have c:=C4 L;obtain⟨p,f,h,r',P,G⟩:=lM I m B c (dj c o2).1;have C:vs=p:=I.list_inj t h;subst C;cases z with
    |ref k =>
     simp only[v7,q,c];cases M[k]? with
     |none=>rfl
     |some S=>exact l n u _ _ _ _ r r' (dj q o1).2 (dj c o2).2
    |_=>rfl
theorem Bk{k:Nat}(E:Room k X.A){pins:List (d7×d8)}{σ:St}{H:Hp}{s:g8}{ρ:List d7}{M:u8}(I:u6 X pins σ H s)(m:x8 X.K ρ M H){x:D}{l:V}{v:b9}(J:w5 X.K ρ H x l)(N:aQ l v)(o1:x3 M v6 x=a9):∀{ys:List D}{ws:List V}{its:List b9},Reps X.K ρ H ys ws->ax ws its->ys.all (x3 M v6)=a9->∃e:b9->Bool,(∀u∈its,Ng X.A.in1 s u v<|e u)/\its.any e=NE M x ys:=by
 have w:X.A.in1.units+v6<m9:=by have:=E.un;show X.A.units+1+v6<m9;unfold v6;lia
 intro ys ws its i vs ok
 classical
 refine⟨λu=>if h:∃d a,w5 X.K ρ H d a/\aQ a u/\x3 M v6 d=a9 then v7 M v6 h.choose x else b7,λu C=>?_,?_⟩;obtain⟨j,L,z⟩:=List.getElem_of_mem C;have y:j<ws.length:=by rw[vs.length];exact L
 obtain⟨d,n,f⟩:=i.getV<|C4 y;obtain⟨F,b,T⟩:=gQ vs<|C4 y;have:F=u:=by rw[C4 L]at b;cases b;exact z
 subst this;have o:=D7.mp ok _<|NA n;have h:∃d a,w5 X.K ρ H d a/\aQ a F/\x3 M v6 d=a9:=⟨d,_,f,T,o⟩
 show Ng X.A.in1 s F v (if h:_ then _ else _);rw[dif_pos h];obtain⟨a,g,p,c⟩:=h.choose_spec;have B:=aQ.inj p T;subst B;rw[sJ I m v6 _ d x _ g f c o];exact(mN I m v6 X.A.in1 d x _ l _ v w f T J N (D7.mp ok _<|NA n) o1).1;clear w o1;unfold NE;induction ys generalizing ws its with
 |nil=>cases i;cases vs;rfl
 |cons d ds G =>
  cases i with
  |cons r t =>
  cases vs with
  |cons q t' =>
   rename_i a O u us;rw[MG,B8]at ok;have h:∃d a,w5 X.K ρ H d a/\aQ a u/\x3 M v6 d=a9:=⟨d,_,r,q,ok.1⟩
   rw[Nh,Nh,G t t' ok.2,dif_pos h];obtain⟨P,g,p,c⟩:=h.choose_spec;have B:=aQ.inj p q;subst B;rw[sJ I m v6 _ d x _ g r c ok.1]
theorem ET{X:Cx}(g:Bool)(D:Room k X.A):G7 X (m5<|if g then .NotIn else .In) (JB g):=by
 rintro E s σ H J K v u R I B C ⟨x,y,M,ρ,Q,m,n,G,q,k⟩;cases G with
 |non=>exact q.elim
 |bl b=>exact q.elim
 |int b=>exact q.elim
 |ty b=>exact q.elim
 |str z =>
  cases n with
  |str p =>
   obtain⟨t,rfl⟩:=B;obtain⟨t',rfl⟩:=C;cases g with
   |false=>exact in_str<|fA I m k<|by simpa [JB]using q
   |true=>exact notIn_str<|fA I m k<|by simpa [JB]using q
  |_=>exact q.elim
 |@tup a ws ys j r =>
  cases C;obtain⟨⟨o1,o2⟩,q⟩:=(show (x3 M v6 x=a9/\_)/\_ from q)
  obtain⟨its,o,l,F⟩:=I.tuple j;obtain⟨e,i,f⟩:=Bk D I m n B o1 r o o2;have d:its.toArray.any e=NE M x ys:=by rw[<-f];simp
  cases g with
  |false=>exact SeqAt.in_tupleAt e l (λw c=>i w<|by simpa using c)<|by rw[d];exact fA I m k<|by simpa using q
  |true=>exact SeqAt.notIn_tupleAt e l (λw c=>i w<|by simpa using c)<|by rw[d];exact fA I m k<|by simpa using q
 |ref h =>
  cases C;obtain⟨ys,L,⟨o1,o2⟩,q⟩:=(show ∃ys,ao M _ ys/\(x3 M v6 x=a9/\_)/\_ from q)
  obtain⟨ws,j,r⟩:=ao.seq m L h;obtain⟨its,o,l,F⟩:=I.list j;obtain⟨e,i,f⟩:=Bk D I m n B o1 r o o2;have d:its.toArray.any e=NE M x ys:=by rw[<-f];simp
  cases g with
  |false=>exact SeqAt.in_listAt e l.isList (λw c=>i w<|by simpa using c)<|by rw[d];exact fA I m k<|by simpa using q
  |true=>exact SeqAt.notIn_listAt e l.isList (λw c=>i w<|by simpa using c)<|by rw[d];exact fA I m k<|by simpa using q
theorem od_in(i:Room k X.A):G7 X (m5 .In) N4:=ET b7 i
theorem Dd(i:Room k X.A):G7 X (m5 .NotIn) zK:=ET a9 i
theorem Ms:f8 "len" = a7 (.builtin "len"):=by decide +kernel
theorem Mu:f8 "all" = a7 (.builtin "all"):=by decide +kernel
theorem pR:f8 "isinstance" = a7 (.builtin "isinstance"):=by decide +kernel
theorem Mq:f8 "ord" = a7 (.builtin "ord"):=by decide +kernel
theorem BV:f8 "sorted" = a7 (.builtin "sorted"):=by decide +kernel
theorem Mt:f8 "int" = a7 (.type "int"):=by decide +kernel
theorem Mp:f8 "str" = a7 (.type "str"):=by decide +kernel
theorem Iz:f8 "bool" = a7 (.type "bool"):=by decide +kernel
theorem Iy:f8 "list" = a7 (.type "list"):=by decide +kernel
theorem EC:f8 "tuple" = a7 (.type "tuple"):=by decide +kernel
noncomputable def visB(c:g9)(x:c9):Bool:=match c.names.lookup x with
 |some .local=>a9
 |some .cell=>a9
 |some .free=>a9
 |_=>b7
theorem EI(h:visB sc x=a9):OK sc x:=by unfold visB at h;unfold OK;split at h;rename_i e;exact .inl e;rename_i e;exact .inr<|.inl e;rename_i e;exact .inr<|.inr e;cases h
noncomputable def IJ(c:g9)(x:c9):Bool:=match c.names.lookup x with
 |some .local=>a9
 |some .cell=>a9
 |_=>b7
theorem AF(h:IJ sc x=a9):Os sc x:=by unfold IJ at h;unfold Os;split at h;rename_i e;exact .inl e;rename_i e;exact .inr e;cases h
structure HE(X:Cx)(e:i9)(t:A2):Prop where
 ok:DE X e t
structure HT(X:Cx)(e:i9)(t:J5):Prop where
 ok:DT X e t
structure HW(X:Cx)(e:i9)(t:J5):Prop where
 ok:DW X e t
structure HA(X:Cx)(es:List i9)(t:K2):Prop where
 ok:DA X es t
structure HS(X:Cx)(e:j7)(t:u7):Prop where
 ok:DS X e t
structure HB(X:Cx)(e:List j7)(t:u7):Prop where
 ok:NI X e t
structure HG(X:Cx)(e:i9)(t:ML):Prop where
 ok:DG X e t
structure HI(X:Cx)(tg e:i9)(t:Nr):Prop where
 ok:DI X tg e t
structure Pd(X:Cx)(e:List i9)(t:J5):Prop where
 ok:NH X e (lowT X.K t)
structure HO'(X:Cx)(e:Option i9)(t:ON):Prop where
 ok:PO X e (Kt X.K t)
structure G9(X:Cx)(f:b9->b9->Sem b9)(r:G8):Prop where
 ok:G7 X f r
structure R4(X:Cx)(f:b9->Sem b9)(r:PY):Prop where
 ok:Rz X f r
structure HC(X:Cx)(f:b9)(r:E9):Prop where
 ok:iL X f r
structure RD(X:Cx)(name:c9)(r:c9->E9):Prop where
 ok:∃id,Slot "str" name id/\typeOf (.builtin id)=pure (.type "method_descriptor")/\Nd X id (Dp X.K r)
structure QQ(X:Cx)(name:c9)(r:Nat->E9):Prop where
 ok:∃id,Slot "list" name id/\typeOf (.builtin id)=pure (.type "method_descriptor")/\Nd X id (ux X.K r)
theorem k_var(h:X.N[i]?=a7 x:=by kernel_rfl)(c:visB X.env.scope x=a9:=by kernel_rfl)(a:(x==("__debug__":c9))=b7:=by kernel_rfl)(d:(x==("__classdict__":c9))=b7:=by kernel_rfl):HE X (.Name x pos) (ac i):=⟨d_var h (EI c) a d⟩
theorem k_int:HE X (.Constant (.int i) j pos) (dC<|.int i):=⟨d_int⟩
theorem k_bl:HE X (.Constant (.bool i) j pos) (dC<|.bl i):=⟨d_bl⟩
theorem k_non:HE X (.Constant .none j pos) (dC .non):=⟨d_non⟩
theorem k_str:HE X (.Constant (.str i) j pos) (dC<|.str i):=⟨d_str⟩
theorem He(m:∃t,X.mg x=a7 (.int i t))(S:X.env.kindOf x=a7 .globalImplicit:=by kernel_rfl)(d:(x==("__debug__":c9))=b7:=by kernel_rfl):HE X (.Name x pos) (dC<|.int i):=⟨Ii m S d⟩
theorem KW(m:X.mg x=a8)(c:f8 x=a7 (.type T))(S:X.env.kindOf x=a7 .globalImplicit:=by kernel_rfl)(f:(x==("__name__":c9))=b7:=by kernel_rfl)(d:(x==("__debug__":c9))=b7:=by kernel_rfl):HE X (.Name x pos) (dC<|.ty T):=⟨Mc m c S (by simpa using f) d⟩
theorem k_op(B:G9 X (m3 op) r)(f:HE X a ta)(d:HE X b tb):HE X (.BinOp a op b pos) (u4 r ta tb):=⟨d_op B.ok f.ok d.ok⟩
theorem k_un(B:R4 X (unaryOp op) r)(f:HE X a ta):HE X (.UnaryOp op a pos) (QK r ta):=⟨d_un B.ok f.ok⟩
theorem k_cmp(B:G9 X (m5 op) r)(f:HE X a ta)(d:HE X b tb)(m:m8 op b=b7:=by kernel_rfl):HE X (.Compare a [op] [b] pos) (u4 r ta tb):=⟨d_cmp B.ok f.ok d.ok m⟩
theorem KG(B:G9 X (m5 op) r)(f:HE X a ta)(d:HE X b tb)(m:m8 op b=b7:=by kernel_rfl):HT X (.Compare a [op] [b] pos) (al<|u4 r ta tb):=⟨LM B.ok f.ok d.ok m⟩
theorem Hg(B:G9 X (m5 op) r)(h:G9 X (m5 op') r')(f:HE X a ta)(d:HE X b tb)(e:HE X c tc)(m:lastMarks [op,op'] [b,c]=b7:=by kernel_rfl):HE X (.Compare a [op,op'] [b,c] pos) (cT r r' ta tb tc):=⟨Ik B.ok h.ok f.ok d.ok e.ok m⟩
theorem DB(B:G9 X (m5 op) r)(h:G9 X (m5 op') r')(f:HE X a ta)(d:HE X b tb)(e:HE X c tc)(m:lastMarks [op,op'] [b,c]=b7:=by kernel_rfl):HT X (.Compare a [op,op'] [b,c] pos) (al<|cT r r' ta tb tc):=⟨En B.ok h.ok f.ok d.ok e.ok m⟩
theorem KC(h:HE X e te)(i:∀whole,isTrue e X.env whole=(do let v <-whole;standAt e.pos;j8 [v] (truthy v)):=by intro _;kernel_rfl):HT X e (al te):=⟨LK h.ok i⟩
theorem GN(f:HT X a tA):HW X (.BoolOp .And [a] pos) tA:=⟨HP f.ok⟩
theorem Kz(f:HT X a tA):HW X (.BoolOp .Or [a] pos) tA:=⟨LI f.ok⟩
theorem EV{X:Cx}{a b:i9}{aX:List i9}{s:Pos}{A tB:J5}(f:HT X a A)(d:HW X (.BoolOp .And (b::aX) s) tB):HW X (.BoolOp .And (a::b::aX) s) (Fl A tB):=⟨LJ f.ok d.ok⟩
theorem KA{X:Cx}{a b:i9}{aX:List i9}{s:Pos}{A tB:J5}(f:HT X a A)(d:HW X (.BoolOp .Or (b::aX) s) tB):HW X (.BoolOp .Or (a::b::aX) s) (G4 A tB):=⟨dw_or f.ok d.ok⟩
theorem kw_t(h:HW X e tA):HT X e tA:=⟨dw_t h.ok⟩
theorem KD(f:HT X a tA):HT X (.UnaryOp .Not a pos) (dz tA):=⟨LL f.ok⟩
theorem k_one{op}(h:HE X a ta):HE X (.BoolOp op [a] pos) ta:=⟨d_one h.ok⟩
theorem k_and{X:Cx}{a b:i9}{aX:List i9}{t c:A2}{s:Pos}(f:HE X a t)(d:HE X (.BoolOp .And (b::aX) s) c):HE X (.BoolOp .And (a::b::aX) s) (bt t c):=⟨d_and f.ok d.ok⟩
theorem k_or{X:Cx}{a b:i9}{aX:List i9}{t c:A2}{s:Pos}(f:HE X a t)(d:HE X (.BoolOp .Or (b::aX) s) c):HE X (.BoolOp .Or (a::b::aX) s) (Mh t c):=⟨d_or f.ok d.ok⟩
theorem k_not(f:HE X a ta):HE X (.UnaryOp .Not a pos) (BI ta):=⟨d_not f.ok⟩
theorem KU:HA X [] ad:=⟨Mb⟩
theorem Ha(f:HE X e te)(i:HA X es t)(hs:j6 (e::es) X.env=(b7,eval e X.env)::j6 es X.env:=by kernel_rfl):HA X (e::es) (aa te t):=⟨Ig f.ok i.ok hs⟩
theorem k_tup{x1}(h:HA X es t):HE X (.Tuple es x1 pos) (cR t):=⟨d_tup h.ok⟩
theorem k_lst(h:HA X es t):HE X (.List es pos) (fM t):=⟨d_lst h.ok⟩
theorem Hh{id:String}{r:E9}(c:HC X (.builtin id) r)(d:X.mg x=a8)(v:f8 x=a7 (.builtin id))(f:HA X (e::es) t)(S:X.env.kindOf x=a7 .globalImplicit:=by kernel_rfl)(n:(x==("__name__":c9))=b7:=by kernel_rfl)(b:(x==("__debug__":c9))=b7:=by kernel_rfl)(i:j6 (e::es) X.env=(b7,eval e X.env)::j6 es X.env:=by kernel_rfl) (l:(j5 pos<|j6 es X.env).any (·.1)=b7:=by kernel_rfl):HE X (.Call (.Name x p) (e::es) [] pos) (u5 r t):=⟨Il c.ok d v f.ok S (by simpa using n) b i l⟩
theorem DO(c:HC X (.type T) r)(d:X.mg x=a8)(v:f8 x=a7 (.type T))(f:HA X (e::es) t)(S:X.env.kindOf x=a7 .globalImplicit:=by kernel_rfl)(n:(x==("__name__":c9))=b7:=by kernel_rfl)(b:(x==("__debug__":c9))=b7:=by kernel_rfl)(i:j6 (e::es) X.env=(b7,eval e X.env)::j6 es X.env:=by kernel_rfl) (l:(j5 pos<|j6 es X.env).any (·.1)=b7:=by kernel_rfl):HE X (.Call (.Name x p) (e::es) [] pos) (u5 r t):=⟨Et c.ok d v f.ok S (by simpa using n) b i l⟩
theorem k_cal(C:x5 X.prog X.w X.K X.mg X.base j x ps P)(r:Room k X.A)(f:HA X (e::es) t)(hj:Nat.ble j k=a9:=by kernel_rfl)(S:X.env.kindOf x=a7 .globalImplicit:=by kernel_rfl) (b:(x==("__debug__":c9))=b7:=by kernel_rfl) (i:j6 (e::es) X.env=(b7,eval e X.env)::j6 es X.env:=by kernel_rfl) (l:(j5 pos<|j6 es X.env).any (·.1)=b7:=by kernel_rfl):HE X (.Call (.Name x p) (e::es) [] pos) (u5 P t):=⟨d_cal C r f.ok (Nat.le_of_ble_eq_true hj) S b i l⟩
theorem k_ix(f:HE X a ta)(d:HE X b tb)(hs:pV b:=by intro _ _;kernel_rfl):HE X (.Subscript a b pos) (u4 w9 ta tb):=⟨d_ix f.ok d.ok hs⟩
theorem GW:HO' X a8 aL:=⟨Ib⟩
theorem GV(h:HE X e te):HO' X (a7 e) (bu te):=⟨Ia h.ok⟩
theorem Hc{lo hi:Option i9}{t h:ON}{j:Pos}(i:HE X e te)(g:HO' X lo t)(u:HO' X hi h):HE X (.Subscript e (.Slice lo hi a8 j) pos) (E7 te t h):=⟨Ih i.ok g.ok u.ok⟩
theorem k_ms(d:RD X name r)(B:HE X o to)(f:HA X (e::es) t)(b:o4 o name X.env (eval o X.env)=eval o X.env:=by kernel_rfl)(w:((j5 cpos<|j6 (e::es) X.env).all (λx=>!x.1)&&(backToKw cpos<|o5 [] X.env).all (λx=>x.1.isSome) && decide ((e::es).length+([]:List o6).length+(if ([]:List o6).isEmpty then 0 else 1)<30))=a9:=by kernel_rfl)(c:(apos.endLine==cpos.line)=a9:=by kernel_rfl) (hs:j6 (e::es) X.env=(b7,eval e X.env)::j6 es X.env:=by kernel_rfl) (n:(j5 cpos<|j6 es X.env).any (·.1)=b7:=by kernel_rfl):HE X (.Call (.Attribute o name apos) (e::es) [] cpos) (OJ r to t):=let ⟨_,h1,h2,h3⟩:=d.ok;⟨d_ms h1 h2 h3 B.ok f.ok b w c hs n⟩
theorem k_ml(d:QQ X name r)(B:HE X o to)(f:HA X (e::es) t)(b:o4 o name X.env (eval o X.env)=eval o X.env:=by kernel_rfl)(w:((j5 cpos<|j6 (e::es) X.env).all (λx=>!x.1)&&(backToKw cpos<|o5 [] X.env).all (λx=>x.1.isSome) && decide ((e::es).length+([]:List o6).length+(if ([]:List o6).isEmpty then 0 else 1)<30))=a9:=by kernel_rfl)(c:(apos.endLine==cpos.line)=a9:=by kernel_rfl) (hs:j6 (e::es) X.env=(b7,eval e X.env)::j6 es X.env:=by kernel_rfl) (n:(j5 cpos<|j6 es X.env).any (·.1)=b7:=by kernel_rfl):HE X (.Call (.Attribute o name apos) (e::es) [] cpos) (NF r to t):=let ⟨_,h1,h2,h3⟩:=d.ok;⟨d_ml h1 h2 h3 B.ok f.ok b w c hs n⟩
theorem KI:HB X [] ay:=⟨LQ⟩
theorem KH{X:Cx}{st:j7}{b:u7}(h:HS X st b):HB X [st] b:=⟨LP h.ok⟩
theorem GU{X:Cx}{st:j7}{s:List j7}{b us:u7}(h1:HS X st b)(h2:HB X s us):HB X (st::s) (aB b us):=⟨HZ h1.ok h2.ok⟩
theorem AW(i:HE X e te)(hs:j9 e a8 pos.line X.env=pure b7:=by kernel_rfl):HS X (.Expr e pos) (nq te):=⟨HV i.ok hs⟩
theorem EX(i:HE X e te):HS X (.Return (a7 e) pos) (aK te):=⟨LO i.ok⟩
theorem KJ(h:HT X c tA)(f:HB X aS ts)(d:HB X bS us):HS X (.If c aS bS pos) (z9 tA ts us):=⟨ds_if h.ok f.ok d.ok⟩
theorem EW(h:X.N.Nodup)(a:HE X e te)(hi:X.N[i]?=a7 x:=by kernel_rfl)(b:IJ X.env.scope x=a9:=by kernel_rfl)(hs:j9 e (a7<|.Name x pos') pos.line X.env=pure b7:=by kernel_rfl)(f:X.fn x=a9:=by kernel_rfl):HS X (.Assign [.Name x pos'] e pos) (bL te i):=⟨LN h a.ok hi (AF b) hs<|.inl f⟩
theorem GZ(h:X.N.Nodup)(hi:X.N[i]?=a7 x:=by kernel_rfl)(a:IJ X.env.scope x=a9:=by kernel_rfl)(f:X.fn x=a9:=by kernel_rfl):HG X (.Name x pos) (av i):=⟨uZ h hi (AF a)<|.inl f⟩
theorem KO(h:X.N.Nodup)(hi:X.N[i]?=a7 x:=by kernel_rfl)(f:X.env.scope.names.lookup x=a7 .local:=by kernel_rfl):HG X (.Name x pos) (av i):=⟨uZ h hi (.inl f)<|.inr f⟩
theorem KL(h:HE X e te):HI X tg e (bF te):=⟨LX h.ok⟩
theorem EY{a:List j7}{b:u7}(hi:HI X tg iter di)(S:HG X tg g)(d:HB X a b)(p:PassesOwn (j2 X.prog X.w) X.A X.env X.xe:=by exact PassesOwn.never)(f:X.calm=a9:=by kernel_rfl)(hs:∀x,l9 iter X.env x=pure x:=by intro _;kernel_rfl):HS X (.For tg iter a [] pos) (sN di g b):=⟨LR hi.ok S.ok d.ok p f hs⟩
theorem GS:Pd X [] je:=⟨HR⟩
theorem GR(h:HT X c tA):Pd X [c] tA:=⟨HQ h.ok⟩
theorem k_lc(hi:HI X tg iter di)(S:∀cl s0 H0 ex,HG (D0 X N' scope cl s0 H0 ex) tg g) (D:∀cl s0 H0 ex,Pd (D0 X N' scope cl s0 H0 ex) ifs tt) (i:∀cl s0 H0 ex,HE (D0 X N' scope cl s0 H0 ex) elt te) (B:oz X.env.scope.names X.N N' nt js scope=a9:=by kernel_rfl) (f:X.calm=a9:=by kernel_rfl)(hs:∀x,l9 iter X.env x=pure x:=by intro _;kernel_rfl):HE X (.ListComp elt [⟨tg,iter,ifs,0⟩] scope pos) (F7 nt js di g tt te):=⟨d_lc (BlkSc.chk B) hi.ok (λcl s0 H0 ex=>(S cl s0 H0 ex).ok) (λcl s0 H0 ex=>(D cl s0 H0 ex).ok) (λcl s0 H0 ex=>(i cl s0 H0 ex).ok) f hs⟩
theorem AZ(d:X.mg "range" = a8)(f:HA X [a] t)(S:X.env.kindOf "range" = a7 .globalImplicit:=by kernel_rfl)(hs:j6 [a] X.env=[(b7,eval a X.env)]:=by kernel_rfl):HI X tg (.Call (.Name "range" p) [a] [] pos) (cw t):=⟨BE d f.ok S hs⟩
theorem AY(d:X.mg "range" = a8)(f:HA X [a,b] t)(S:X.env.kindOf "range" = a7 .globalImplicit:=by kernel_rfl)(hs:j6 [a,b] X.env=[(b7,eval a X.env),(b7,eval b X.env)]:=by kernel_rfl)(c:j6 [b] X.env=[(b7,eval b X.env)]:=by kernel_rfl):HI X tg (.Call (.Name "range" p) [a,b] [] pos) (jf t):=⟨BD d f.ok S hs c⟩
theorem Lh:G9 X (m3 .Sub) zI:=⟨Kl⟩
theorem Lj:G9 X (m3 .Mult) jR:=⟨Gy⟩
theorem Hs:G9 X (m3 .FloorDiv) oS:=⟨Gz⟩
theorem Lk:G9 X (m3 .Mod) xr:=⟨Kn⟩
theorem ho_lt:G9 X (m5 .Lt) Nc:=⟨Kp⟩
theorem ho_le:G9 X (m5 .LtE) MD:=⟨od_le⟩
theorem ho_gt:G9 X (m5 .Gt) N5:=⟨od_gt⟩
theorem ho_ge:G9 X (m5 .GtE) Pa:=⟨od_ge⟩
theorem ho_is:G9 X (m5 .Is) O9:=⟨od_is⟩
theorem ho_eq(i:Room k X.A):G9 X (m5 .Eq) A6:=⟨od_eq i⟩
theorem ho_ne(i:Room k X.A):G9 X (m5 .NotEq) MZ:=⟨od_ne i⟩
theorem ho_in(i:Room k X.A):G9 X (m5 .In) N4:=⟨od_in i⟩
theorem DV(i:Room k X.A):G9 X (m5 .NotIn) zK:=⟨Dd i⟩
theorem Lg:R4 X (unaryOp .USub) Jz:=⟨IZ⟩
theorem Lv:HC X (.builtin "len") eJ:=⟨Ml⟩
theorem Lx(f:X.calm=a9:=by kernel_rfl):HC X (.builtin "all") Ce:=⟨Mn f⟩
theorem Lw:HC X (.builtin "isinstance") fg:=⟨Mm⟩
theorem Lu:HC X (.builtin "ord") II:=⟨Mj⟩
theorem Bo:QQ X "append" dc:=⟨_,PySem.F.slot_list_append,PySem.F.type_list_append,xG⟩
theorem x5.byH{P:d6}{w:d5}{K:v9}{mg:c9->Option b9}{base:d9}{x:c9}{st:j7}{N ps:List c9}{k:Nat}{d:A4}(F:bP K mg x st ps)(i:FnScope N ps (aC st))(B:∀ds M R,d ds M R->ds.length=ps.length) {t:u7}(r:∀(f:d7) (cdv:b9) (A:f9) (outer:List Env) (s:g8) (H:Hp) (E:XK),Room k (A.deeper<|n5 x (aC st) s.heap.objs.size f cdv)->HB (yp L5 P w K mg base N x (aC st) f cdv A outer s H E).nox (bU st) t)(p:∀ds M R,d ds M R->t ⟨λ_ M'=>ar M R .non M',ar M R,λ_ _=>False,λ_ _=>False⟩ (bT N ds) M):x5 P w K mg base (k+1) x ps d:=x5.of F i B (λf cdv A outer s H E h=>(r f cdv A outer s H E h).ok) p
theorem Eg{P:d6}{w:d5}{K:v9}{mg:c9->Option b9}{base:d9}{x:c9}{st:j7}{N ps:List c9}{k:Nat}{d:A4}{f:d7}{a:n0}(F:Nq K x x st f a)(i:FnScope N ps (aC st))(B:∀ds M R,d ds M R->ds.length=ps.length) {t:u7}(r:∀(f:d7) (cdv:b9) (A:f9) (outer:List Env) (s:g8) (H:Hp) (E:XK),Room k (A.deeper<|n5 x (aC st) s.heap.objs.size f cdv)->HB (yp L5 P w K mg base N x (aC st) f cdv A outer s H E).nox (bU st) t)(p:∀ds M R,d ds M R->t ⟨λ_ M'=>ar M R .non M',ar M R,λ_ _=>False,λ_ _=>False⟩ (bT N ds) M):FnOk P w K mg base L5 (k+1) f a ps (Nl K d):=HL F i B (λf cdv A outer s H E h=>(r f cdv A outer s H E h).ok) p
theorem fN(I:List D->SD->u8->Prop)(h0:∀S M,I [] S M->ok M/\E.nx S M)(h1:∀x xs S M,I (x::xs) S M->∀L:SD->u8->Prop,(∀S' M',I xs S' M'->L S' M')->ok M/\g x S M λS2 M2=>tb ⟨F5 k0 L,E.rt,E.nx,F5 k0 L⟩ S2 M2):∀xs S M,I xs S M->sM ok g tb E k0 xs S M
 | [],S,M,h=>h0 S M h
 |x::xs,S,M,h=>h1 x xs S M h _<|fN I h0 h1 xs
theorem cA(I:Nat->SD->u8->Prop)(a:∀S M,I xs.length S M->ok M/\E.nx S M)(h1:∀i x S M,xs[i]?=a7 x->I i S M->∀L:SD->u8->Prop,(∀S' M',I (i+1) S' M'->L S' M')->ok M/\g x S M λS2 M2=>tb ⟨F5 k0 L,E.rt,E.nx,F5 k0 L⟩ S2 M2)(h:I 0 S M):sM ok g tb E k0 xs S M:=by
 refine fN (λys S M=>∃i,xs.drop i=ys/\i+ys.length=xs.length/\I i S M) ?_ ?_ xs S M ⟨0,rfl,by simp,h⟩;rintro S M ⟨i,_,e,q⟩;have:i=xs.length:=by simpa using e
 subst this;exact a S M q;rintro x ys S M ⟨i,e,l,q⟩ L b;have c:xs[i]?=a7 x:=by
  have:(xs.drop i)[0]?=a7 x:=by rw[e];rfl
  simpa using this
 refine h1 i x S M c q L λS' M' j=>b S' M' ⟨i+1,?_,by simp at l;lia,j⟩;rw[<-List.drop_drop,e];rfl
theorem F5.now(h:P S M):F5 k0 P S M:=.inl h
theorem ik{lo:Int}{n i:Nat}{x:D}:(lN lo n)[i]?=a7 x↔i<n/\x=.int (lo+(i:Int)):=by unfold lN;rw[G2];by_cases h:i<n;simp[h,eq_comm];simp[h]
theorem cO{lo:Int}{n:Nat}:(lN lo n).length=n:=by simp[lN]
theorem bM(p:D->Bool)(f:D->D)(I:SD->Prop)(hok:ok M):∀(xs acc:List D) (S:SD),(∀x∈xs,∀S,I S->∃S',I S'/\∀(Y:D->SD->u8->Prop) (Z:SD->u8->Prop),(if p x=a9 then Y (f x) S' M else Z S' M) -> g x S M λS2 M2=>tt S2 M2 λb M3=>if b=a9 then te S2 M3 λy M4=>Y y S2 M4 else Z S2 M3) ->I S->acc.length+xs.length<=sizeLine->Q (.ref M.length) (M++[.lst<|acc++(xs.filter p).map f])->mP ok g tt te Q xs acc S M
 | [],acc,S,_,_,_,q=>⟨hok,by simpa using q⟩
 |x::xs,acc,S,step,hS,hl,q=>by obtain⟨S',hS',k⟩:=step x C7 S hS;refine⟨hok,k (λy S2 M4=>acc.length<sizeLine/\mP ok g tt te Q xs (acc++[y]) S2 M4) (λS2 M3=>mP ok g tt te Q xs acc S2 M3) ?_⟩;have step':=λy hy=>step y<|C0 _ hy;rw[C5]at hl;by_cases hp:p x=a9;rw[p9 hp];refine⟨by lia,bM p f I hok xs _ S' step' hS' (by rw[A7,J4];lia) ?_⟩;rw[List.filter_cons_of_pos hp,B9]at q;rw[Nk];exact q;rw[q9 hp];refine bM p f I hok xs acc S' step' hS' (by lia) ?_;rw[List.filter_cons_of_neg hp]at q;exact q
theorem bb(f:D->D)(I:SD->Prop)(K:ok M)(xs acc:List D) (S:SD) (L:∀x∈xs,∀S,I S->∃S',I S'/\∀(Y:D->SD->u8->Prop),Y (f x) S' M->g x S M λS2 M2=>te S2 M2 λy M4=>Y y S2 M4)(a:I S) (l:acc.length+xs.length<=sizeLine) (q:Q (.ref M.length) (M++[.lst<|acc++xs.map f])):mP ok g je te Q xs acc S M:=by refine bM (λ_=>a9) f I K xs acc S (λx c S a=>?_) a l (by rw[List.filter_eq_self.mpr λ_ _=>rfl];exact q);obtain⟨S',b,k⟩:=L x c S a;refine⟨S',b,λY Z h=>?_⟩;rw[p9 rfl]at h;have:=k Y h;simp only[je,t6];exact this
theorem aE:(M++[mo])[M.length]?=a7 mo:=by simp
theorem ae:ao (M++[.lst xs]) M.length xs:=.inl aE
theorem ao.more(h:ao M n xs)(L:u8):ao (M++L) n xs:=by
 have l:∀{mo:MO},M[n]?=a7 mo->(M++L)[n]?=a7 mo:=λe=>by rw[J0 (A3.mp e).1];exact e
 rcases h with h|h|h;exact .inl<|l h;exact .inr<|.inl<|l h;exact .inr<|.inr<|l h
theorem ao.lt(h:ao M n xs):n<M.length:=by rcases h with h|h|h<;>exact(A3.mp h).1
theorem ao.ty(h:ao M n xs):A1 M (.ref n) = "list":=by
 show (match M[n]? with|some mo=>if mo.isL=a9 then "list" else "?" |none=>"?") = "list"
 rcases h with h|h|h<;>(rw[h];rfl)
theorem ar.keep(h:R d M)(b:F0 M.length d)(p:M <+: M'):ar M R d M':=.inr<|.inl ⟨M,.refl,b,p,h⟩
theorem ar.now(h:R d M):ar M R d M:=.inl h
theorem ar.bl(h:R (.bl b) M)(p:M <+: M'):ar M R (.bl b) M':=.keep h (.bl b) p
theorem dg:M <+: M++[mo]:=NO _ _
theorem tU{a b:c9}(h:a.cps.toList=b.cps.toList):a=b:=by cases a;cases b;simp only[Array.toList_inj]at h;simpa using h
theorem aA{a:c9}:a.length=a.cps.toList.length:=by show a.cps.size=_;simp
theorem bC{a b:c9}:(a++b).cps.toList=a.cps.toList++b.cps.toList:=by show (a.cps++b.cps).toList=_;simp
theorem IA{a b:c9}:(a++b).length=a.length+b.length:=by rw[aA,aA,aA,bC,A7]
theorem Ak:(⟨#[c]⟩:c9).length=1:=rfl
theorem aq(h:n<=1000):n<=sizeLine:=P4<|small1000 h
theorem glob_mk{K:v9}{h:d9}{mg:c9->Option b9}{x:c9}{u:b9}{i:Int}(X:K.In h)(G:h.Ns f7 mg)(a:Nv K f7 x=a7 (a7 u))(b:∃t,u=Value.int i t):∃t,mg x=a7 (.int i t):=by obtain⟨t,rfl⟩:=b;exact⟨t,PySem.W.mg_of X G a⟩
theorem cy{α:Type}{xs:List α}{i:Int}(a:0<=i)(h1:i<xs.length):∃(j:Nat) (hj:j<xs.length),atI xs i=a7 xs[j]/\(j:Int)=i:=by
 have hj:i.toNat<xs.length:=by lia
 refine⟨i.toNat,hj,?_,by lia⟩;have e:i=((i.toNat:Nat):Int):=by lia
 have q:atI xs ((i.toNat:Nat):Int)=a7 xs[i.toNat]:=bp<|C4 hj;rw[<-e]at q;exact q
def mS(M:u8)(d:D):Prop:=A1 M d∈mV/\∀x,d=.str x->x.length<=sizeLine
theorem yF:mS M .non:=⟨by simp[A1,mV],λ_ h=>by cases h⟩
theorem Ct:mS M (.bl b):=⟨by simp[A1,mV],λ_ h=>by cases h⟩
theorem yG:mS M (.int b):=⟨by simp[A1,mV],λ_ h=>by cases h⟩
theorem yC:mS M (.tup b):=⟨by simp[A1,mV],λ_ h=>by cases h⟩
theorem yD(h:x.length<=1000):mS M (.str x):=⟨by simp[A1,mV],λ_ e=>by cases e;exact aq h⟩
theorem yE(h:ao M n xs):mS M (.ref n):=⟨by rw[h.ty];simp[mV],λ_ e=>by cases e⟩
theorem bv(h:A1 M (.ref n)∈mV):A1 M (.ref n) = "list":=by
 unfold A1 at h ⊢
 try dsimp only at h ⊢
 cases e:M[n]? with
 |some m =>
  rw[e]at h;cases q:m.isL with
  |true=>exact p9 q
  |false=>simp only[q,E3,t5]at h;exact r9 h<|by decide
 |none=>rw[e]at h;exact r9 h<|by decide
theorem ao.get(h:ao M n xs):∃mo,M[n]?=a7 mo/\mo.items=xs/\mo.isL=a9:=by rcases h with h|h|h<;>exact⟨_,h,rfl,rfl⟩
theorem fL(h1:ao M i xs)(h2:ao M j ys):v7 M (n+1) (.ref i) (.ref j)=D8 (v7 M n) xs ys:=by obtain⟨a,f,rfl,h⟩:=h1.get;obtain⟨b,d,rfl,c⟩:=h2.get;simp only[v7,f,d]
theorem cv(h1:ao M i xs)(h:∀x∈xs,x3 M n x=a9):x3 M (n+1) (.ref i)=a9:=by obtain⟨a,f,rfl,b⟩:=h1.get;simp only[x3,f,b,E5];exact D7.mpr h
theorem Gw(h:∀x∈xs,x3 M n x=a9):x3 M (n+1) (.tup xs)=a9:=by simp only[x3];exact D7.mpr h
theorem aF:x3 M n (.str x)=a9:=by cases n<;>rfl
theorem af:x3 M n (.int x)=a9:=by cases n<;>rfl
theorem wn:x3 M n (.bl x)=a9:=by cases n<;>rfl
theorem At:x3 M n .non=a9:=by cases n<;>rfl
theorem By:D8 f xs []=xs.isEmpty:=by cases xs<;>rfl
theorem LG:v7 M n (.bl a) (.bl b)=(a==b):=by cases n<;>rfl
theorem aY:v7 M n (.int a) (.int b)=(a==b):=by cases n<;>rfl
theorem bJ:v7 M n (.str a) (.str b)=(a==b):=by cases n<;>rfl
noncomputable def Pc:D->Nat
 |.str x=>x.cps.toList.headD 0
 |_=>0
theorem BM:Pc (.str ⟨#[c]⟩)=c:=rfl
theorem ii(h:d∈signs x):∃c∈x.cps.toList,d=.str ⟨#[c]⟩:=by obtain⟨c,f,rfl⟩:=A8.mp h;exact⟨c,f,rfl⟩
theorem rK{x:c9}:(signs x).length=x.length:=by rw[aA];simp[signs]
def jX:IH:=λds S M Q=>match ds with
 | []=>Q S M
 |_=>False
def bE(t:ML)(u:IH):IH:=λds S M Q=>match ds with
 |d::r=>t d S M λb a=>u r b a Q
 | []=>False
def jW(n:Nat)(t:IH):ML:=λd S M Q=>match d with
 |.tup ds=>ds.length=n/\t ds S M Q
 |_=>False
theorem Ic:PZ X [] jX:=by
 rintro p s σ H vs us R I r ⟨ds,S,M,ρ,Q,m,e,f,q,k⟩;cases f with
 |nil=>exact Gd p s σ H _ us R I r ⟨rfl,k σ H ⟨S,M,ρ,m,.refl,e,q⟩⟩
 |cons _ _=>exact q.elim
theorem Er(h1:DG X e t)(h2:PZ X es u)(hs:(k7 (e::es) X.env).map (·.2)=k6 e X.env::(k7 es X.env).map (·.2):=by rfl):PZ X (e::es) (bE t u):=by
 rintro p s σ H vs us R I r ⟨ds,S,M,ρ,Q,m,j,f,q,k⟩;cases f with
 |nil=>exact q.elim
 |cons h f=>refine CP h1 h2 hs p s σ H _ us R I r ⟨_,_,rfl,_,S,M,ρ,_,m,j,h,q,?_⟩;rintro l n ⟨S1,d,c,i,g1,a,g⟩;exact⟨_,S1,d,c,Q,i,a,f.grow g1,g,λb H' w=>k b H'<|SQ.trans g1 w⟩
theorem LY(h:PZ X es t)(a:X.calm=a9:=by rfl)(b:(k7 es X.env).length=n:=by rfl) (c:(k7 es X.env).findIdx? (·.1)=a8:=by rfl):DG X (.Tuple es j pos) (jW n t):=by
 rintro p s σ H v u R I r ⟨d,S,M,ρ,Q,m,i,g,q,k⟩;cases g with
 |tup e f=>exact JL a h b c p s σ H _ u R I r ⟨_,_,rfl,e,by rw[<-f.length];exact q.1,_,S,M,ρ,Q,m,i,f,q.2,k⟩
 |_=>exact q.elim
def IM(te:A2)(g:ML):u7:=λE S M=>te S M λd a=>g d S a E.nx
theorem LS(i:DE X e te)(h:DG X tg g)(hs:swapsWithSole [tg] e pos.line X.env=pure b7:=by rfl)(f:swappedStores [tg] e X.env=pure a8:=by rfl)(h1:(k7 [tg] X.env).map (·.2)=[k6 tg X.env]:=by rfl):DS X (.Assign [tg] e pos) (IM te g):=by refine PS.imp (JJ i h hs f h1) ?_;rintro E σ H ⟨S,M,ρ,F,s,r,q,k⟩;refine⟨S,M,ρ,_,s,r,q,?_⟩;rintro v n ⟨d,b,c,m,g1,l,j⟩;exact⟨d,S,b,c,_,m,r.grow g1,l,j,λa H' w=>k.nx a H'<|SQ.trans g1 w⟩
def qSet:D->D->D->u8->(u8->Prop)->Prop:=λo i v M Q=>match o,i with
 |.ref n,.int k=>∃xs j,M[n]?=a7 (.lst xs)/\Nm xs.length k=a7 j/\Q (M.set n<|.lst<|xs.set j v)
 |_,_=>False
theorem Reps.set{K:v9}{ρ:List d7}{H:Hp}{d:D}{v:V}(r:w5 K ρ H d v):∀{ds:List D}{vs:List V} (i:Nat),Reps K ρ H ds vs->Reps K ρ H (ds.set i d) (vs.set i v)
 |_,_,_,.nil=>.nil
 |_,_,0,.cons _ t=>.cons r t
 |_,_,i+1,.cons q t=>.cons q<|Reps.set r i t
def xW(e d:A2):ML:=λv S M Q=>e S M λo a=>d S a λi b=>qSet o i v b λc=>Q S c
theorem LZ(E:DE X o to)(hi:DE X i ti)(D:∀v,k6 (.Subscript o i pos) X.env v=(do
   let ov <-j8 [v] (eval o X.env)
   let iv <-j8 [v,ov] (eval i X.env)
   standAt pos
   j8 [v,ov,iv] (setItem ov iv v)
   release [v,ov,iv] []):=by intro _;rfl):DG X (.Subscript o i pos) (xW to ti):=by
 rintro p s σ H v u R I r ⟨d,S,M,ρ,Q,P,f,N,q,k⟩;refine JM E hi CB D p s σ H v u R I r ⟨S,M,ρ,_,P,f,q,?_⟩;rintro Y U ⟨o',C,h,O,g1,J,F⟩;refine⟨S,C,h,_,O,f.grow g1,F,?_⟩;rintro W V ⟨i',m,l,A,g,K,b⟩;have c:=J.grow g;cases c with
 |@ref n a w =>
  cases K with
  |int j =>
   obtain⟨xs,y,e,L,G⟩:=(show ∃xs x,m[n]?=a7 (.lst xs)/\Nm xs.length j=a7 x/\Q S (m.set n<|.lst<|xs.set x d)from b)
   obtain⟨vs,t,z⟩:=A.obj n a _ w e;obtain⟨T,B⟩:=A.write w e t<|Reps.set (N.grow<|g1.trans g) y z;exact⟨a,vs,j,y,rfl,rfl,t,by rw[<-z.length];exact L,k σ _ ⟨S,_,l,T,(g1.trans g).trans B,f.grow<|(g1.trans g).trans B,G⟩⟩
  |_=>exact b.elim
 |_=>exact b.elim
def rO:E9:=λds M Q=>match ds with
 | [.ref n]=>∃xs,ao M n xs/\Q (.ref M.length) (M++[.lst xs])
 | [.tup xs]=>Q (.ref M.length)<|M++[.lst xs]
 |_=>False
theorem Ir:iL X (.type "list") rO:=by
 refine df.imp sQ ?_;rintro vs H R ⟨ds,M,ρ,Q,m,a,q,k⟩;unfold rO at q;split at q;obtain⟨xs,L,q⟩:=q
 first|have z:=Reps.inv_cons a|have z:=ax.inv_cons a
 clear a;obtain⟨_,_,rfl,b,a⟩:=z;cases a;obtain⟨_,rfl,e⟩:=w5.inv_ref b;obtain⟨ws,h,r⟩:=ao.seq m L e;exact⟨_,ws,rfl,.inl h,λl g=>k _ _<|VQ.laidL m .refl r g q⟩
 first|have z:=Reps.inv_cons a|have z:=ax.inv_cons a
 clear a;obtain⟨_,_,rfl,b,a⟩:=z;cases a;cases b with
 |tup h r=>exact⟨_,_,rfl,.inr h,λl g=>k _ _<|VQ.laidL m .refl r g q⟩
 exact q.elim
def eZ:E9:=λds M Q=>match ds with
 | [.ref n]=>∃xs,ao M n xs/\Q (.tup xs) M
 | [.tup xs]=>Q (.tup xs) M
 |_=>False
theorem Ez:iL X (.type "tuple") eZ:=by
 refine df.imp pQ ?_;rintro vs H R ⟨ds,M,ρ,Q,m,a,q,k⟩;unfold eZ at q;split at q;obtain⟨xs,L,q⟩:=q
 first|have z:=Reps.inv_cons a|have z:=ax.inv_cons a
 clear a;obtain⟨_,_,rfl,b,a⟩:=z;cases a;obtain⟨_,rfl,e⟩:=w5.inv_ref b;obtain⟨ws,h,r⟩:=ao.seq m L e;exact⟨_,ws,rfl,.inl ⟨h,λl g=>k _ _<|VQ.laidT m .refl r g q⟩⟩
 first|have z:=Reps.inv_cons a|have z:=ax.inv_cons a
 clear a;obtain⟨_,_,rfl,b,a⟩:=z;cases a;cases b with
 |tup h r=>exact⟨_,_,rfl,.inr ⟨h,k _ H<|VQ.now m (.tup h r) q⟩⟩
 exact q.elim
theorem CW:E4 X (m3 .Add) (λx y H Q=>∃a b ys,x=.ref a/\y=.ref b/\E2 X.K H a []/\E2 X.K H b ys/\Q (.ref b) H):=by intro r s σ H x y v u Q I G J h;obtain⟨a,b,ys,rfl,rfl,z,A,q⟩:=h;cases G;cases J;obtain⟨its,F,D,_⟩:=I.tuple z;obtain⟨p,M,E,_⟩:=I.tuple A;have e:its=[]:=F.nil_iff.mpr rfl;subst e;obtain⟨⟨t,w,l,L⟩,B,m,n,o⟩:=id D;obtain⟨⟨k,g,i,j⟩,f,c,C,d⟩:=id E;simp only at m o c d;subst m o c d;exact concat_meets ⟨_,B,rfl⟩ ⟨_,f,rfl⟩ noFill_tuple_add seq_tuple_add RQ RR (RT _ _) (tuple_addW0 a b _ _ n C w g L j<|by simp) ⟨B,f,⟨.ref b,H,I,rfl,q⟩⟩
def aI:G8:=λx y M Q=>match x,y with
 |.tup xs,.tup ys=>xs.length+ys.length<=sizeLine/\Q (.tup<|xs++ys) M
 |_,_=>qAdd x y M Q
theorem GA:G7 X (m3 .Add) aI:=by
 rintro c s σ H f j v u R I g i ⟨x,y,M,ρ,Q,m,r,e,q,k⟩;unfold aI at q;split at q;rename_i xs ys;obtain⟨a,vs,rfl,h1,D⟩:=w5.inv_tup r;obtain⟨b,ws,rfl,h2,E⟩:=w5.inv_tup e;have l:=D.length;have d:=E.length;cases xs with
 |nil=>cases D;exact CW c s σ H _ _ v u R I g i ⟨a,b,ws,rfl,rfl,h1,h2,k _ H<|VQ.now m (.tup h2 E) q.2⟩
 |cons o n =>
  refine Gs c s σ H _ _ v u R I g i ⟨a,b,vs,ws,rfl,rfl,h1,h2,?_,by rw[<-l,<-d];exact q.1,λz=>?_,λ_ p h=>k _ _<|VQ.laidT m .refl (D.append E) h q.2⟩;intro z;subst z;simp at l;subst z;have:ys=[]:=by simpa using d
  subst this;rw[NZ]at q;exact k _ H<|VQ.now m (.tup h1 D) q.2
 exact Kq c s σ H f j v u R I g i ⟨x,y,M,ρ,Q,m,r,e,q,k⟩
def lS(n:Nat):E9:=λds M Q=>match ds with
 | [.ref m]=>∃xs ys,M[n]?=a7 (.lst xs)/\M[m]?=a7 (.lst ys)/\n≠m/\xs.length+ys.length<=sizeLine/\Q .non (M.set n<|.lst<|xs++ys)
 |_=>False
theorem xF:Nd X "list.extend" (ux X.K lS):=by
 rintro p s σ H x xs v us R I A y ⟨n,a,ds,M,ρ,Q,j,g,c,f,q,k⟩;unfold lS at q;split at q;rename_i m;obtain⟨ys,D,e,l,u,o,q⟩:=q
 first|have z:=Reps.inv_cons f|have z:=ax.inv_cons f
 clear f;obtain⟨_,_,rfl,w,f⟩:=z;cases f;obtain⟨b,rfl,t⟩:=w5.inv_ref w;obtain⟨vs,d,r⟩:=c.obj n a _ g e;obtain⟨ws,h,i⟩:=c.obj m b _ t l;obtain⟨B,C⟩:=c.write g e d<|r.append i;exact Ax p s σ H x _ v us R I A y ⟨a,b,vs,ws,j,rfl,d,h,by rw[<-r.length,<-i.length];exact o,k _ _ ⟨.non,_,ρ,B,C,.non,q⟩⟩;exact q.elim
end L2
namespace Srt
open PySem PySem.W PyProof.Rows
noncomputable def run{α:Type}(c:Nat->Nat->Bool):KasT α->α
 |.ret a=>a
 |.ask i j k=>run c<|k<|c i j
theorem fI{α β:Type}{c:Nat->Nat->Bool}{f:α->KasT β}:∀t:KasT α,run c (t.bind f)=run c (f<|run c t)
 |.ret a=>rfl
 |.ask i j k=>fI<|k<|c i j
def Bd{α:Type}(n:Nat):KasT α->Prop
 |.ret _=>True
 |.ask i j k=>i<n/\j<n/\∀b,Bd n<|k b
def All{α:Type}(P:α->Prop):KasT α->Prop
 |.ret a=>P a
 |.ask _ _ k=>∀b,All P<|k b
theorem All.mono{α:Type}{P Q:α->Prop}(h:∀a,P a->Q a):∀t:KasT α,All P t->All Q t
 |.ret a,q=>h a q
 |.ask _ _ k,q=>λb=>All.mono h (k b)<|q b
theorem All.bind{α β:Type}{P:β->Prop}{f:α->KasT β}:∀t:KasT α,All (λa=>All P<|f a) t->All P (t.bind f)
 |.ret a,q=>q
 |.ask _ _ k,q=>λb=>All.bind (k b)<|q b
theorem Bd.bindA{α β:Type}{n:Nat}{f:α->KasT β}:∀t:KasT α,Bd n t->All (λa=>Bd n<|f a) t->Bd n (t.bind f)
 |.ret a,_,q=>q
 |.ask _ _ k,b,q=>⟨b.1,b.2.1,λx=>Bd.bindA (k x) (b.2.2 x)<|q x⟩
theorem All.run{α:Type}{P:α->Prop}{c:Nat->Nat->Bool}:∀t:KasT α,All P t->P (Srt.run c t)
 |.ret a,q=>q
 |.ask i j k,q=>All.run (k<|c i j)<|q _
theorem wp_run{α:Type}{cmp:Nat->Nat->(Bool->g8->Prop)->g8->Prop}{c:Nat->Nat->Bool}{n:Nat}{s:g8}{Q:α->g8->Prop}(hc:∀i j (C:Bool->g8->Prop),i<n->j<n->C (c i j) s->cmp i j C s):∀t:KasT α,Bd n t->Q (run c t) s->t.kasWp cmp Q s
 |.ret a,_,q=>q
 |.ask i j k,b,q=>hc i j _ b.1 b.2.1<|wp_run hc (k<|c i j) (b.2.2 _) q
structure L8(c:Nat->Nat->Bool):Prop where
 irr:∀a,c a a=b7
 tr:∀a b d,c a b=a9->c b d=a9->c a d=a9
 neg:∀a b d,c a d=a9->c a b=a9\/c b d=a9
section
variable{c:Nat->Nat->Bool}(O:L8 c)
def le(c:Nat->Nat->Bool)(a b:Nat):Prop:=c b a=b7
theorem le_refl(O:L8 c)(a:Nat):le c a a:=O.irr a
theorem le_trans(O:L8 c)(h1:le c a b)(h2:le c b d):le c a d:=by
 unfold le at *;cases q:c d a with
 |false=>rfl
 |true=>rcases O.neg d b a q with h|h;rw[h2]at h;cases h;rw[h1]at h;cases h
theorem le_of_lt(O:L8 c)(h:c a b=a9):le c a b:=by
 unfold le;cases q:c b a with
 |false=>rfl
 |true=>have:=O.tr a b a h q;rw[O.irr]at this;cases this
noncomputable abbrev at_(p:Array Nat)(k:Nat):Nat:=p.getD k 0
def Up(c:Nat->Nat->Bool)(p:Array Nat)(m:Nat):Prop:=∀i j,i<=j->j<m->le c (at_ p i) (at_ p j)
def Dn(c:Nat->Nat->Bool)(p:Array Nat)(m:Nat):Prop:=∀i j,i<=j->j<m->le c (at_ p j) (at_ p i)
def Pe(c:Nat->Nat->Bool)(p:Array Nat)(a b:Nat):Prop:=∀i j,a<=i->i<b->a<=j->j<b->le c (at_ p i) (at_ p j)
theorem Up.one(O:L8 c)(p:Array Nat):Up c p 1:=λi j a L=>by
 have:i=j:=by lia
 subst this;exact le_refl O _
theorem Up.snoc(O:L8 c)(h:Up c p n)(h1:1<=n)(g:le c (at_ p<|n-1) (at_ p n)):Up c p (n+1):=λi j a L=>by
 by_cases b:j<n;exact h i j a b;have:j=n:=by lia
 subst this;by_cases hi:i=j;subst hi;exact le_refl O _;exact le_trans O (h i (j-1) (by lia)<|by lia) g
theorem Dn.snoc(O:L8 c)(h:Dn c p n)(h1:1<=n)(g:le c (at_ p n) (at_ p<|n-1)):Dn c p (n+1):=λi j a L=>by
 by_cases b:j<n;exact h i j a b;have:j=n:=by lia
 subst this;by_cases hi:i=j;subst hi;exact le_refl O _;exact le_trans O g<|h i (j-1) (by lia)<|by lia
theorem gg(hj:j<=p.size)(k:Nat):at_ (ME p i j) k=if i<=k/\k<j then at_ p (i+j-1-k)else at_ p k:=by have e:=getElem?_mirror_all (xs:=p) (i:=i) hj k;unfold at_ ME;rw[OH,e];by_cases h:i<=k/\k<j;rw[p9 h,p9 h,OH];rw[q9 h,q9 h,OH]
theorem sY(b:k<p.size)(a:d<=k)(i:Nat):at_ (bubble p k d) i=if i=k-d then at_ p k else if k-d<i/\i<=k then at_ p (i-1)else at_ p i:=by have e:=getElem?_bubble (xs:=p) b d a i;unfold at_;rw[OH,e];by_cases h:i=k-d;rw[p9 h,p9 h,OH];rw[q9 h,q9 h];by_cases h':k-d<i/\i<=k;rw[p9 h',p9 h',OH];rw[q9 h',q9 h',OH]
theorem Dn.rev(h:Dn c p n)(f:n<=p.size):Up c (ME p 0 n) n:=λi j a L=>by rw[gg f,gg f,p9 ⟨D4 _,by lia⟩,p9 ⟨D4 _,L⟩];exact h _ _ (by lia)<|by lia
theorem Dn.revEq(O:L8 c)(h:Dn c p n)(f:n<=p.size)(e:Pe c p a n):Dn c (ME p a n) n:=λi j b L=>by rw[gg f,gg f];by_cases h1:a<=i/\i<n;by_cases h2:a<=j/\j<n;rw[p9 h1,p9 h2];exact e _ _ (by lia) (by lia) (by lia) (by lia);exact r9 ⟨by lia,L⟩ h2;by_cases h2:a<=j/\j<n;rw[q9 h1,p9 h2];exact h _ _ (by lia) (by lia);rw[q9 h1,q9 h2];exact h _ _ b L
theorem ve(O:L8 c):∀(f n:Nat),1<=n->Up c p n->Up c p (run c<|M7 p f n)/\n<=run c (M7 p f n)/\run c (M7 p f n)<=n+f /\(run c (M7 p f n)<n+f->c (at_ p<|run c<|M7 p f n) (at_ p<|run c (M7 p f n)-1)=a9)
 | 0,n,_,h=>⟨h,z5 _,z5 _,λz=>r9 z<|K9 _⟩
 |f+1,n,h1,h=>by
  show Up c p (run c<|if c (at_ p n) (at_ p<|n-1)=a9 then .ret n else M7 p f (n+1))/\n<=run c (if c (at_ p n) (at_ p<|n-1)=a9 then .ret n else M7 p f (n+1)) /\ run c (if c (at_ p n) (at_ p<|n-1)=a9 then .ret n else M7 p f (n+1))<=n+(f+1)/\(run c (if c (at_ p n) (at_ p<|n-1)=a9 then .ret n else M7 p f (n+1))<n+(f+1) -> c (at_ p<|run c<|if c (at_ p n) (at_ p<|n-1)=a9 then .ret n else M7 p f (n+1)) (at_ p<|run c (if c (at_ p n) (at_ p<|n-1)=a9 then .ret n else M7 p f (n+1))-1)=a9)
  by_cases q:c (at_ p n) (at_ p<|n-1)=a9;rw[p9 q];exact⟨h,z5 _,Q7 _ _,λ_=>q⟩;rw[q9 q];obtain⟨a1,a2,a3,a4⟩:=ve O f (n+1) (by lia) (h.snoc O h1<|by unfold le;simpa using q);exact⟨a1,by lia,by lia,λz=>a4<|by lia⟩
theorem dF:(ME p i j).size=p.size:=mirror_size _ _ _ _
def Cd(c:Nat->Nat->Bool)(z n m:Nat)(r:Array Nat×Nat×Nat):Prop:=r.1.size=z/\Dn c r.1 r.2.1/\n<=r.2.1/\r.2.1<=m/\r.2.2+1<=r.2.1/\Pe c r.1 (r.2.1-(r.2.2+1)) r.2.1
def pW(c:Nat->Nat->Bool)(z nrem:Nat)(r:Nat×Array Nat):Prop:=r.2.size=z/\Up c r.2 r.1/\1<=r.1/\r.1<=nrem
def vh(c:Nat->Nat->Bool)(p:Array Nat)(k m:Nat):Prop:=m<=k/\(∀i,i<m->le c (at_ p i) (at_ p k))/\∀i,m<=i->i<k->c (at_ p k) (at_ p i)=a9
theorem kh(O:L8 c):∀(f:Nat) (p:Array Nat) (n q:Nat),q+1<=n->n+f<=p.size->Dn c p n->Pe c p (n-(q+1)) n ->Cd c p.size n (n+f) (run c<|K3 f p n q)
 | 0,p,n,q,h1,h2,hd,he=>⟨rfl,hd,z5 _,z5 _,h1,he⟩
 |f+1,p,n,q,h1,h2,hd,he=>by
  have hn:n<=p.size:=by lia
  show Cd c p.size n (n+(f+1)) (run c<|if c (at_ p n) (at_ p<|n-1)=a9 then(if q > 0 then K3 f (ME p (n-(q+1)) n) (n+1) 0 else K3 f p (n+1) 0) else .ask (at_ p<|n-1) (at_ p n) λd=>if d=a9 then .ret (p,n,q)else K3 f p (n+1) (q+1));by_cases hc:c (at_ p n) (at_ p<|n-1)=a9;rw[p9 hc];by_cases hq:q > 0;rw[p9 hq];have hd':Dn c (ME p (n-(q+1)) n) (n+1):=by refine(hd.revEq O hn he).snoc O (by lia) ?_;rw[gg hn,gg hn,q9 (by lia),p9 ⟨by lia,by lia⟩];exact le_trans O (le_of_lt O hc)<|he _ _ (by lia) (by lia) (by lia)<|by lia
  have r:=kh O f (ME p (n-(q+1)) n) (n+1) 0 (by lia) (by rw[dF];lia) hd' (λi j a1 a2 a3 a4=>by
   have:i=n:=by lia
   have:j=n:=by lia
   subst_vars
   exact le_refl O _)
  obtain⟨a1,a2,a3,a4,a5,a6⟩:=r;exact⟨a1.trans dF,a2,by lia,by lia,a5,a6⟩;rw[q9 hq];have r:=kh O f p (n+1) 0 (by lia) (by lia) (hd.snoc O (by lia)<|le_of_lt O hc) (λi j a1 a2 a3 a4=>by
   have:i=n:=by lia
   have:j=n:=by lia
   subst_vars
   exact le_refl O _)
  obtain⟨a1,a2,a3,a4,a5,a6⟩:=r;exact⟨a1,a2,by lia,by lia,a5,a6⟩;rw[q9 hc];show Cd c p.size n (n+(f+1)) (run c<|if c (at_ p<|n-1) (at_ p n)=a9 then .ret (p,n,q)else K3 f p (n+1) (q+1));by_cases hc':c (at_ p<|n-1) (at_ p n)=a9;rw[p9 hc'];exact⟨rfl,hd,z5 _,by show n<=_;lia,h1,he⟩;rw[q9 hc'];have l1:le c (at_ p n) (at_ p<|n-1):=by unfold le;simpa using hc'
  have l2:le c (at_ p<|n-1) (at_ p n):=by unfold le;simpa using hc
  have r:=kh O f p (n+1) (q+1) (by lia) (by lia) (hd.snoc O (by lia) l1) (λi j a1 a2 a3 a4=>by by_cases hi:i=n;by_cases hj:j=n;subst hi hj;exact le_refl O _;subst hi;exact le_trans O l1 (he _ _ (by lia) (by lia) (by lia)<|by lia);by_cases hj:j=n;subst hj;exact le_trans O (he _ _ (by lia) (by lia) (by lia)<|by lia) l2;exact he _ _ (by lia) (by lia) (by lia)<|by lia);obtain⟨a1,a2,a3,a4,a5,a6⟩:=r;exact⟨a1,a2,by lia,by lia,a5,a6⟩
theorem qt(O:L8 c)(h1:1<=n)(f:n<=nrem)(hz:nrem<=p.size)(d:Dn c p n):pW c p.size nrem (run c<|kas_tail3 n nrem p):=by unfold kas_tail3;rw[fI];obtain⟨E,a,b,_⟩:=ve O (nrem-n) n h1 (d.rev<|by lia);exact⟨dF,E,MF h1 a,MF b<|by lia⟩
theorem jM(O:L8 c)(h1:1<=n)(x:n+1<=nrem)(hz:nrem<=p.size)(m:Pe c p 0 n)(k:c (at_ p n) (at_ p<|n-1)=a9):pW c p.size nrem (run c<|Ph n nrem p):=by
 have l:Dn c p (n+1):=by refine Dn.snoc O (λi j o L=>m _ _ (by lia) (by lia) (by lia)<|by lia) h1<|le_of_lt O k
 unfold Ph;rw[fI];obtain⟨a,g,u,v,w,h⟩:=kh O (nrem-(n+1)) p (n+1) 0 (by lia) (by lia) l (λi j E r s t=>by
  have:i=n:=by lia
  have:j=n:=by lia
  subst_vars
  exact le_refl O _)
 by_cases q:(run c<|K3 (nrem-(n+1)) p (n+1) 0).2.2 > 0;rw[p9 q];obtain⟨d,b,e,f⟩:=qt O (p:=ME (run c<|K3 (nrem-(n+1)) p (n+1) 0).1 ((run c<|K3 (nrem-(n+1)) p (n+1) 0).2.1-((run c<|K3 (nrem-(n+1)) p (n+1) 0).2.2+1)) (run c<|K3 (nrem-(n+1)) p (n+1) 0).2.1) (n:=(run c<|K3 (nrem-(n+1)) p (n+1) 0).2.1) (nrem:=nrem) (by lia) (by lia) (by rw[dF,a];exact hz)<|g.revEq O (by rw[a];lia) h;exact⟨d.trans<|dF.trans a,b,e,f⟩;rw[q9 q];obtain⟨d,b,e,f⟩:=qt O (p:=(run c<|K3 (nrem-(n+1)) p (n+1) 0).1) (n:=(run c<|K3 (nrem-(n+1)) p (n+1) 0).2.1) (nrem:=nrem) (by lia) (by lia) (by rw[a];exact hz) g;exact⟨d.trans a,b,e,f⟩
theorem BJ(O:L8 c)(h1:1<=nrem)(hz:nrem<=p.size):pW c p.size nrem (run c<|kas_count nrem p):=by
 unfold kas_count;rw[fI];obtain⟨E,a,o,l⟩:=ve O (nrem-1) 1 (z5 _)<|Up.one O p;generalize run c (M7 p (nrem-1) 1)=n at E a o l;by_cases k:(n==nrem)=a9;rw[p9 k];exact⟨rfl,E,a,by show n<=nrem;lia⟩;rw[q9 k];have x:n≠nrem:=by simpa using k
 have t:c (at_ p n) (at_ p<|n-1)=a9:=l (by lia);by_cases h2:n > 1;rw[p9 h2];show pW c p.size nrem (run c<|if c (at_ p 0) (at_ p<|n-1)=a9 then .ret (n,p)else Ph n nrem (ME p 0 n));by_cases f:c (at_ p 0) (at_ p<|n-1)=a9;rw[p9 f];exact⟨rfl,E,a,by show n<=nrem;lia⟩;rw[q9 f];have g:n<=p.size:=by lia
 have y:le c (at_ p<|n-1) (at_ p 0):=by unfold le;simpa using f
 have m:Pe c p 0 n:=λi j b d u v=>le_trans O (E i (n-1) (by lia)<|by lia)<|le_trans O y<|E 0 j (by lia) v;have e:Pe c (ME p 0 n) 0 n:=λi j b d u v=>by rw[gg g,gg g,p9 ⟨b,d⟩,p9 ⟨u,v⟩];exact m _ _ (by lia) (by lia) (by lia)<|by lia
 have h:c (at_ (ME p 0 n) n) (at_ (ME p 0 n)<|n-1)=a9:=by rw[gg g,gg g,q9 (by lia),p9 ⟨by lia,by lia⟩];rcases O.neg _ (at_ p<|0+n-1-(n-1)) _ t with z|z;exact z;have:=m (n-1) (0+n-1-(n-1)) (by lia) (by lia) (by lia) (by lia);unfold le at this;rw[this]at z;cases z
 obtain⟨q,r,s,w⟩:=jM O (p:=ME p 0 n) (n:=n) (nrem:=nrem) (by lia) (by lia) (by rw[dF];exact hz) e h;exact⟨q.trans dF,r,s,w⟩;rw[q9 h2];have:n=1:=by lia
 subst this;exact jM O (by lia) (by lia) hz (λi j b d u v=>by
  have:i=0:=by lia
  have:j=0:=by lia
  subst_vars
  exact le_refl O _) t
theorem lT(O:L8 c)(hu:Up c p k):∀(f l r:Nat),l<=r->r<=k->r-l<=f->(∀i,i<l->le c (at_ p i) (at_ p k))->(∀i,r<=i->i<k->c (at_ p k) (at_ p i)=a9) ->vh c p k (run c<|NJ p k f l r)
 | 0,l,r,h1,h2,h3,h4,h5=>⟨by show l<=k;lia,h4,λi a1 a2=>h5 i (by have a1':l<=i:=a1;lia) a2⟩
 |f+1,l,r,h1,h2,h3,h4,h5=>by
  show vh c p k (run c<|if l ≥ r then .ret l else .ask (at_ p k) (at_ p<|(l+r) / 2) λc=>if c=a9 then NJ p k f l ((l+r) / 2)else NJ p k f ((l+r) / 2+1) r);by_cases hl:l ≥ r;rw[p9 hl];exact⟨by show l<=k;lia,h4,λi a1 a2=>h5 i (by have a1':l<=i:=a1;lia) a2⟩;rw[q9 hl];show vh c p k (run c<|if c (at_ p k) (at_ p<|(l+r) / 2)=a9 then NJ p k f l ((l+r) / 2)else NJ p k f ((l+r) / 2+1) r);by_cases hc:c (at_ p k) (at_ p<|(l+r) / 2)=a9;rw[p9 hc];refine lT O hu f l ((l+r) / 2) (by lia) (by lia) (by lia) h4 λi a1 a2=>?_;rcases O.neg _ (at_ p i) _ hc with z|z;exact z;have:=hu ((l+r) / 2) i a1 a2;unfold le at this;rw[this]at z;cases z;rw[q9 hc];have lm:le c (at_ p<|(l+r) / 2) (at_ p k):=by unfold le;simpa using hc
  refine lT O hu f ((l+r) / 2+1) r (by lia) h2 (by lia) (λi hi=>?_) h5;exact le_trans O (hu i ((l+r) / 2) (by lia)<|by lia) lm
theorem BS(O:L8 c)(f:k<p.size)(g:Up c p k)(l:m<=k)(h1:∀i,i<m->le c (at_ p i) (at_ p k))(h2:∀i,m<=i->i<k->c (at_ p k) (at_ p i)=a9):Up c (bubble p k<|k-m) (k+1):=by
 intro i j d L;have e:k-(k-m)=m:=by lia
 rw[sY f (by lia),sY f (by lia),e];by_cases hi:i=m;rw[p9 hi];by_cases h:j=m;rw[p9 h];exact le_refl O _;rw[q9 h,p9 ⟨by lia,by lia⟩];exact le_of_lt O (h2 _ (by lia)<|by lia);rw[q9 hi];by_cases a:m<i/\i<=k;rw[p9 a,q9 (by lia),p9 ⟨by lia,by lia⟩];exact g _ _ (by lia) (by lia);rw[q9 a];by_cases h:j=m;rw[p9 h];exact h1 i (by lia);rw[q9 h];by_cases b:m<j/\j<=k;rw[p9 b];exact g _ _ (by lia) (by lia);rw[q9 b];exact g _ _ d<|by lia
theorem BU(O:L8 c):∀(f:Nat) (p:Array Nat) (k:Nat),k+f<=p.size->Up c p k->(run c<|kas_bin f p k).size=p.size/\Up c (run c<|kas_bin f p k) (k+f)
 | 0,p,k,_,h=>⟨rfl,h⟩
 |f+1,p,k,hz,h=>by show (run c<|(NJ p k k 0 k).bind λl=>kas_bin f (bubble p k<|k-l)<|k+1).size=p.size/\Up c (run c<|(NJ p k k 0 k).bind λl=>kas_bin f (bubble p k<|k-l)<|k+1) (k+(f+1));rw[fI];obtain⟨a1,a2,a3⟩:=lT O h k 0 k (D4 _) (z5 _) (by lia) (λi hi=>r9 hi<|Og _) λi a1 a2=>r9 a2 (by lia);obtain⟨b1,b2⟩:=BU O f (bubble p k<|k-run c (NJ p k k 0 k)) (k+1) (by rw[bubble_size];lia)<|BS O (by lia) h a1 a2 a3;exact⟨b1.trans<|bubble_size _ _ _,by rw[show k+(f+1)=k+1+f by lia];exact b2⟩
theorem FJ(O:L8 c)(h1:1<=n):(run c<|N8 n).size=n/\Up c (run c<|N8 n) n:=by
 have hs:(P3<|C3 n).size=n:=by simp
 unfold N8;rw[fI];obtain⟨E,a,b,t⟩:=BJ O (p:=P3<|C3 n) h1 (by rw[hs];exact z5 _);rw[hs]at E;generalize run c (kas_count n<|P3<|C3 n)=r at E a b t;by_cases g:r.1<n;rw[p9 g];obtain⟨d,e⟩:=BU O (n-max r.1 1) r.2 (max r.1 1) (by rw[E];lia) (by rw[show max r.1 1=r.1 by lia];exact a);exact⟨d.trans E,by rw[show n=max r.1 1+(n-max r.1 1) by lia];simpa using e⟩;rw[q9 g];have f:r.1=n:=by lia
 rw[f]at a;exact⟨E,a⟩
def F8(n:Nat)(p:Array Nat):Prop:=p.toList.Perm<|C3 n
theorem F8.lt(h:F8 n p)(a:0<n)(k:Nat):at_ p k<n:=by
 unfold at_;rw[OH];cases e:p[k]? with
 |none=>simpa using a
 |some x =>
  have:x∈p.toList:=by rw[<-J3]at e;exact NA e
  have:=h.mem_iff.mp this;simpa using this
theorem F8.rev(h:F8 n p):F8 n (ME p i j):=(Array.perm_iff_toList_perm.mp<|mirror_perm p i j<|(j-i) / 2).trans h
theorem F8.bub(h:F8 n p):F8 n (bubble p i j):=(Array.perm_iff_toList_perm.mp<|bubble_perm p i j).trans h
section
variable{n:Nat}(h0:0<n)
theorem BW(h0:0<n)(h:F8 n p):∀(f k:Nat),Bd n (M7 p f k)
 | 0,_=>trivial
 |f+1,k=>⟨h.lt h0 _,h.lt h0 _,λb=>by cases b with
  |true=>exact trivial
  |false=>exact BW h0 h f<|k+1⟩
theorem pL(h0:0<n):∀(f:Nat) (p:Array Nat) (k q:Nat),F8 n p->Bd n (K3 f p k q)/\All (λr=>F8 n r.1) (K3 f p k q)
 | 0,p,k,q,h=>⟨trivial,h⟩
 |f+1,p,k,q,h=>by
  have key:∀b,(Bd n<|if b=a9 then(if q > 0 then K3 f (ME p (k-(q+1)) k) (k+1) 0 else K3 f p (k+1) 0) else KasT.ask (p.getD (k-1) 0) (p.getD k 0) λd=>if d=a9 then KasT.ret (p,k,q)else K3 f p (k+1) (q+1))/\All (λr=>F8 n r.1) (if b=a9 then(if q > 0 then K3 f (ME p (k-(q+1)) k) (k+1) 0 else K3 f p (k+1) 0) else KasT.ask (p.getD (k-1) 0) (p.getD k 0) λd=>if d=a9 then KasT.ret (p,k,q)else K3 f p (k+1) (q+1)):=λb=>by
   cases b with
   |true=>rw[p9 rfl];by_cases hq:q > 0;rw[p9 hq];exact pL h0 f _ _ _ h.rev;rw[q9 hq];exact pL h0 f _ _ _ h
   |false =>
    rw[q9<|by simp];have a:=pL h0 f p (k+1) (q+1) h;refine⟨⟨h.lt h0 _,h.lt h0 _,λb=>?_⟩,λb=>?_⟩;cases b with
    |true=>exact trivial
    |false=>exact a.1
    cases b with
    |true=>exact h
    |false=>exact a.2
  exact⟨⟨h.lt h0 _,h.lt h0 _,λb=>(key b).1⟩,λb=>(key b).2⟩
theorem jY(c:0<n)(h:F8 n p):Bd n (kas_tail3 k m p)/\All (λr=>F8 n r.2) (kas_tail3 k m p):=by
 have v:∀{t:KasT Nat}{Q:Prop},Q->All (λ_=>Q) t:=λ{t Q} q=>by
  induction t with
  |ret a=>exact q
  |ask i j k d=>exact λb=>d b
 unfold kas_tail3;exact⟨Bd.bindA _ (BW c h.rev _ _)<|v trivial,All.bind _<|v h.rev⟩
theorem dS(a:0<n)(h:F8 n p):Bd n (Ph k m p)/\All (λr=>F8 n r.2) (Ph k m p):=by unfold Ph;obtain⟨b,c⟩:=pL a (m-(k+1)) p (k+1) 0 h;refine⟨Bd.bindA _ b<|c.mono<|λr i=>?_,All.bind _<|c.mono<|λr i=>?_⟩;by_cases q:r.2.2 > 0;rw[p9 q];exact(jY a i.rev).1;rw[q9 q];exact(jY a i).1;by_cases q:r.2.2 > 0;rw[p9 q];exact(jY a i.rev).2;rw[q9 q];exact(jY a i).2
theorem Ey(c:0<n)(h:F8 n p):Bd n (kas_count m p)/\All (λr=>F8 n r.2) (kas_count m p):=by
 have v:∀{t:KasT Nat}{Q:Nat->Prop},(∀a,Q a)->All Q t:=λ{t Q} q=>by
  induction t with
  |ret a=>exact q a
  |ask i j k d=>exact λb=>d b
 unfold kas_count;refine⟨Bd.bindA _ (BW c h _ _)<|v λk=>?_,All.bind _<|v λk=>?_⟩;by_cases h1:(k==m)=a9;rw[p9 h1];exact trivial;rw[q9 h1];by_cases h2:k > 1;rw[p9 h2];refine⟨h.lt c _,h.lt c _,λb=>?_⟩;cases b with
 |true=>exact trivial
 |false=>exact(dS c h.rev).1
 rw[q9 h2];exact(dS c h).1;by_cases h1:(k==m)=a9;rw[p9 h1];exact h;rw[q9 h1];by_cases h2:k > 1;rw[p9 h2];intro b;cases b with
 |true=>exact h
 |false=>exact(dS c h.rev).2
 rw[q9 h2];exact(dS c h).2
theorem oU(h0:0<n)(h:F8 n p):∀(f l r:Nat),Bd n (NJ p k f l r)
 | 0,_,_=>trivial
 |f+1,l,r=>by
  show Bd n (if l ≥ r then KasT.ret l else KasT.ask (p.getD k 0) (p.getD ((l+r) / 2) 0) λc=>if c=a9 then NJ p k f l ((l+r) / 2)else NJ p k f ((l+r) / 2+1) r);by_cases hl:l ≥ r;rw[p9 hl];exact trivial;rw[q9 hl];refine⟨h.lt h0 _,h.lt h0 _,λb=>?_⟩;cases b with
  |true=>exact oU h0 h f _ _
  |false=>exact oU h0 h f _ _
theorem wG(h0:0<n):∀(f:Nat) (p:Array Nat) (k:Nat),F8 n p->Bd n (kas_bin f p k)/\All (λr=>F8 n r) (kas_bin f p k)
 | 0,p,k,h=>⟨trivial,h⟩
 |f+1,p,k,h=>by
  have triv:∀{t:KasT Nat}{Q:Nat->Prop},(∀a,Q a)->All Q t:=λ{t Q} q=>by
   induction t with
   |ret a=>exact q a
   |ask i j k ih=>exact λb=>ih b
  exact⟨Bd.bindA _ (oU h0 h _ _ _)<|triv λl=>(wG h0 f _ _ h.bub).1,All.bind _<|triv λl=>(wG h0 f _ _ h.bub).2⟩
theorem sort_bd(a:0<n):Bd n (N8 n)/\All (λr=>F8 n r) (N8 n):=by
 have h:F8 n (P3<|C3 n):=by unfold F8;simp
 obtain⟨b,c⟩:=Ey a (m:=n) h;unfold N8;refine⟨Bd.bindA _ b<|c.mono λr i=>?_,All.bind _<|c.mono λr i=>?_⟩;by_cases g:r.1<n;rw[p9 g];exact(wG a _ _ _ i).1;rw[q9 g];exact trivial;by_cases g:r.1<n;rw[p9 g];exact(wG a _ _ _ i).2;rw[q9 g];exact i
end
theorem sort_list{α:Type}[Inhabited α]{lt:α->α->Bool}(xs:List α)(h1:1<=xs.length)(r:∀a∈xs,lt a a=b7)(tr:∀a∈xs,∀b∈xs,∀d∈xs,lt a b=a9->lt b d=a9->lt a d=a9)(n:∀a∈xs,∀b∈xs,∀d∈xs,lt a d=a9->lt a b=a9\/lt b d=a9):let c:=λi j=>if i<xs.length then(if j<xs.length then lt (xs.getD i default) (xs.getD j default)else a9)else b7
  let p:=run c<|N8 xs.length
  let ys:=p.toList.map λi=>xs.getD i default
  ys.Perm xs/\ys.Pairwise λa b=>lt b a=b7:=by
 intro c p ys;have m:∀i,i<xs.length->xs.getD i default∈xs:=λi hi=>by rw[L3,C4 hi];exact G6 hi
 have O:L8 c:=by refine⟨λa=>?_,λa b d=>?_,λa b d=>?_⟩;show (if a<xs.length then(if a<xs.length then lt _ _ else a9)else b7)=b7;by_cases f:a<xs.length;rw[p9 f,p9 f];exact r _<|m a f;rw[q9 f];show (if a<xs.length then(if b<xs.length then lt _ _ else a9)else b7)=a9->(if b<xs.length then(if d<xs.length then lt _ _ else a9)else b7)=a9->(if a<xs.length then(if d<xs.length then lt _ _ else a9)else b7)=a9;by_cases f:a<xs.length;by_cases h:b<xs.length;by_cases g:d<xs.length;rw[p9 f,p9 h,p9 h,p9 g,p9 f,p9 g];exact tr _ (m a f) _ (m b h) _<|m d g;intro _ _;rw[p9 f,q9 g];rw[q9<|show ¬b<xs.length from h];intro _ z;rw[q9 h]at z;cases z;intro z;rw[q9 f]at z;cases z;show (if a<xs.length then(if d<xs.length then lt _ _ else a9)else b7)=a9->(if a<xs.length then(if b<xs.length then lt _ _ else a9)else b7)=a9\/(if b<xs.length then(if d<xs.length then lt _ _ else a9)else b7)=a9;by_cases f:a<xs.length;by_cases h:b<xs.length;by_cases g:d<xs.length;rw[p9 f,p9 g,p9 f,p9 h,p9 h,p9 g];exact n _ (m a f) _ (m b h) _<|m d g;intro _;right;rw[p9 h,q9 g];intro _;left;rw[p9 f,q9 h];intro z;rw[q9 f]at z;cases z
 have E:F8 xs.length p:=All.run _ (sort_bd<|by lia).2;obtain⟨hs,U⟩:=FJ O h1;refine⟨?_,?_⟩;have e:(C3 xs.length).map (λi=>xs.getD i default)=xs:=by apply Ra;intro i;rw[G2];by_cases hi:i<xs.length;rw[List.getElem?_range hi];simp[L3,C4 hi];rw[O2 (by simpa using hi),O2<|by simpa using hi];rfl
 have:=E.map λi=>xs.getD i default;rw[e]at this;exact this;show (p.toList.map λi=>xs.getD i default).Pairwise λa b=>lt b a=b7;rw[List.pairwise_iff_getElem];intro i j hi L t;rw[x6,G3]at hi L;have u:p.size=xs.length:=hs;have l:=U i j (by lia) (by lia);have o:∀k,at_ p k<xs.length:=λk=>E.lt (by lia) k;unfold le at l;have l':(if at_ p j<xs.length then(if at_ p i<xs.length then lt (xs.getD (at_ p j) default) (xs.getD (at_ p i) default)else a9)else b7)=b7:=l;rw[p9<|o j,p9<|o i]at l';have q:p.toList[i]=at_ p i:=by unfold at_;simp[Nf,hi]
 have s:p.toList[j]=at_ p j:=by unfold at_;simp[Nf,L]
 rw[OX,OX,q,s];exact l'
end
end Srt
namespace L2
open PySem PySem.Spec PyProof.Rows DL
def yl(A:f9)(s:g8)(x y:b9)(k:Bool):Prop:=∀(g:d6) (w:d5) (E:b9->g8->Prop) (Q:b9->g8->Prop),Q (.bool k) s->i7 (j2 g w) A (richCompare .Lt x y) Q E s
inductive LexAt(A:f9)(s:g8):List b9->List b9->Bool->Prop
 |nn:LexAt A s [] [] b7
 |nc {y:b9}{ys:List b9}:LexAt A s [] (y::ys) a9
 |cn {x:b9}{xs:List b9}:LexAt A s (x::xs) [] b7
 |eq {x y:b9}{xs ys:List b9}{k:Bool} (h:Ng A s x y a9) (t:LexAt A s xs ys k):LexAt A s (x::xs) (y::ys) k
 |ne {x y:b9}{xs ys:List b9}{k:Bool} (h:Ng A s x y b7) (t:yl A s x y k):LexAt A s (x::xs) (y::ys) k
section
open PySem.SeqAt
open PySem.AutoSeq1 (wpAny_loadPart')
open PySem.MeetsSeq PySem.MeetsSeq2 PySem.MeetsSeq3
theorem qr(l b:d7)(a i:Array b9)(n C:Nat)(u e:Option d7)(D m:Array (Option b9))(k:Bool):Meets (Builtin.«tuple.__lt__» ⟨[.ref l,.ref b],[]⟩)
   (λA R s=>s.heap.get? l=a7 (⟨.type "tuple",u,.seq a n,D⟩:d8)/\s.heap.get? b=a7 { cls:=.type "tuple",dict:=e,data:=.seq i C,slots:=m } /\ LexAt A.in1 s a.toList i.toList k/\R (.ok<|.ret<|.bool k) s) :=
 .of_wp λp w A R s h=>by
  obtain⟨o,g,d,r,q⟩:=s;obtain⟨z,v,c,h⟩:=h;have N:=AutoSeq1.sub_tuple_tuple
  wp_walk using R9 z,R9 v,OA _ (λaX b s'=>b.1=a8/\s'=⟨o,g,d,r,q⟩/\∃(vs ws:List b9),aX=vs.zip ws /\ LexAt A.in1 ⟨o,g,d,r,q⟩ vs ws k/\vs.length+i.size=ws.length+a.size) _
  case turn =>
   rintro⟨y,x⟩ aX b s' ⟨hb',rfl,vs,ws,hz,hlex,hlen⟩;cases hlex with
   |nn=>cases hz
   |nc=>cases hz
   |cn=>cases hz
   |eq f t =>
    rw[Ol]at hz;injection hz with hyx hrest;injection hyx with hy c;subst hy c;refine t9<|f p w _ _ ?_
    wp_walk
    exact⟨rfl,rfl,_,_,hrest,t,by simp only[C5]at hlen;lia⟩
   |ne f t =>
    rw[Ol]at hz;injection hz with hyx hrest;injection hyx with hy c;subst hy c;refine t9<|f p w _ _ ?_;have j:=t p w
    wp_walk using j
    exact⟨_,rfl,by simpa using h⟩
  case fin =>
   rintro⟨b1,b2⟩ s' ⟨hb',rfl,vs,ws,hz,hlex,hlen⟩;simp only at hb';subst hb';have B:k=decide (a.size<i.size):=by
    cases hlex with
    |nn=>simp only[Fn]at hlen;exact(dF_<|by lia).symm
    |nc=>simp only[Fn,C5]at hlen;exact(dT_<|by lia).symm
    |cn=>simp only[Fn,C5]at hlen;exact(dF_<|by lia).symm
    |eq _ _=>rw[Ol]at hz;cases hz
    |ne _ _=>rw[Ol]at hz;cases hz
   rw[B]at h
   wp_walk
   exact⟨_,rfl,by simpa [Builtin.Tuple.tupleCompareSizes]using h⟩
  case h =>
   exact⟨rfl,rfl,a.toList,i.toList,rfl,c,by simp;lia⟩
end
theorem yl.tuples(u:s.heap.IsTuple l items)(r:s.heap.IsTuple b items2)(v:A.units<m9)(y:LexAt A.in1 s items.toList items2.toList k):yl A s (.ref l) (.ref b) k:=λp w E Q h=>by obtain⟨⟨t,q,g,C⟩,B,m,n,o⟩:=id u;obtain⟨⟨j,e,i,f⟩,d,a,z,c⟩:=id r;simp only at m o a c;subst m o a c;exact richCompare_meets_room (op:=.Lt) ⟨_,B,rfl⟩ ⟨_,d,rfl⟩ PySem.F.slot_tuple_lt PySem.F.entry_tuple_lt (PySem.F.args_tuple_lt_2 _ _) (qr l b items items2 n z q e C f k) ⟨B,d,y,show Pg k≠Value.notImplemented/\Q (.bool k) s from⟨(λx=>nomatch x),h⟩⟩ v
noncomputable def tq(f g:D->D->Bool):List D->List D->Bool
 | [],[]=>b7
 | [],_::_=>a9
 |_::_,[]=>b7
 |x::xs,y::ys=>if f x y=a9 then tq f g xs ys else g x y
noncomputable def z7(M:u8):Nat->D->D->Bool
 |_,.int a,.int b=>decide<|a<b
 |_,.str a,.str b=>bh a b
 |n+1,.tup xs,.tup ys=>tq (v7 M n) (z7 M n) xs ys
 |_,_,_=>b7
noncomputable def Cf(f g:D->D->Bool):List D->List D->Bool
 |x::xs,y::ys=>if f x y=a9 then Cf f g xs ys else g x y
 |_,_=>a9
noncomputable def iI(M:u8):Nat->D->D->Bool
 |_,.int _,.int _=>a9
 |_,.str _,.str _=>a9
 |n+1,.tup xs,.tup ys=>Cf (v7 M n) (iI M n) xs ys
 |_,_,_=>b7
theorem yl.ints(A:f9)(s:g8)(a:Int)(t:Tok)(c:Int)(u:Tok):yl A s (.int a t) (.int c u) (decide<|a<c):=λg w E Q h=>HT.rcLt_int A s a t c u g w E Q h
theorem yl.texts(A:f9)(s:g8)(a:c9)(t:Tok)(c:c9)(u:Tok):yl A s (.str a t) (.str c u) (bh a c):=λg w E Q h =>
 (PySem.P.lt_str (show Q (.bool<|decide<|a.cps.toList<c.cps.toList) s from h):i7 (j2 g w) A (m5 .Lt (.str a t)<|.str c u) Q E s)
theorem AA(I:u6 X pins σ H s)(Y:x8 X.K ρ M H):∀(n:Nat) (A:f9) (x y:D) (vx vy:V) (u v:b9),A.units+n<m9->w5 X.K ρ H x vx->aQ vx u->w5 X.K ρ H y vy->aQ vy v->x3 M n x=a9->x3 M n y=a9->iI M n x y=a9 ->yl A s u v (z7 M n x y):=by
 intro n;induction n with
 |zero =>
  intro A x y vx vy u v S J c g l o1 o2 m;cases J with
  |int a =>
   cases g with
   |int b=>obtain⟨t,rfl⟩:=c;obtain⟨t',rfl⟩:=l;exact yl.ints A s a t b t'
   |_=>simp[iI]at m
  |str a =>
   cases g with
   |str b=>obtain⟨t,rfl⟩:=c;obtain⟨t',rfl⟩:=l;exact yl.texts A s a t b t'
   |_=>simp[iI]at m
  |_=>simp[iI]at m
 |succ n T =>
  intro A x y vx vy u v S J c g l o1 o2 m;have E:A.units<m9:=by lia
  have i:A.in1.units+n<m9:=by show A.units+1+n<m9;lia
  have F:∀(ds es:List D) (vs ws:List V) (its j:List b9),Reps X.K ρ H ds vs->ax vs its->Reps X.K ρ H es ws->ax ws j->ds.all (x3 M n)=a9->es.all (x3 M n)=a9->Cf (v7 M n) (iI M n) ds es=a9 -> LexAt A.in1 s its j (tq (v7 M n) (z7 M n) ds es):=by
   intro ds;induction ds with
   |nil =>
    intro es vs ws its j p w o q _ _ _;cases p;cases w;cases o with
    |nil=>cases q;exact .nn
    |cons _ _=>cases q;exact .nc
   |cons d ds hi =>
    intro es vs ws its j p w o q B C k;cases p with
    |cons L p =>
     cases w with
     |cons P w =>
      cases o with
      |nil=>cases q;exact .cn
      |@cons e _ R _ N o =>
       cases q with
       |cons Q q=>rw[MG,B8]at B C;have z:=(mN I Y n A.in1 d _ _ _ _ _ i L P N Q B.1 C.1).1;rw[tq];rw[Cf]at k;by_cases f:v7 M n d e=a9;rw[f]at z;rw[p9 f]at k ⊢;exact .eq z<|hi _ _ _ _ _ p w o q B.2 C.2 k;have h:=OC.mpr f;rw[h]at z;rw[q9 f]at k ⊢;exact .ne z<|T A.in1 _ _ _ _ _ _ i L P N Q B.1 C.1 k
  cases J with
  |int a =>
   cases g with
   |int b=>obtain⟨t,rfl⟩:=c;obtain⟨t',rfl⟩:=l;exact yl.ints A s a t b t'
   |_=>simp[iI]at m
  |str a =>
   cases g with
   |str b=>obtain⟨t,rfl⟩:=c;obtain⟨t',rfl⟩:=l;exact yl.texts A s a t b t'
   |_=>simp[iI]at m
  |tup f r =>
   cases g with
   |tup h r'=>cases c;cases l;obtain⟨its,W,U,_⟩:=I.tuple f;obtain⟨j,O,G,_⟩:=I.tuple h;refine yl.tuples U G E ?_;exact F _ _ _ _ _ _ r W r' O (by simpa [x3]using o1) (by simpa [x3]using o2) m
   |_=>simp[iI]at m
  |_=>simp[iI]at m
def JA:G8:=λx y M Q=>match x,y with
 |.tup xs,.tup ys=>(x3 M v6 (.tup xs)=a9/\x3 M v6 (.tup ys)=a9/\iI M v6 (.tup xs) (.tup ys)=a9)/\Q (.bl<|z7 M v6 (.tup xs)<|.tup ys) M
 |_,_=>Nc x y M Q
theorem Ko(h:Room k X.A):G7 X (m5 .Lt) JA:=by rintro p s σ H b l v u R I g i ⟨x,y,M,ρ,Q,m,r,a,q,k⟩;unfold JA at q;split at q;obtain⟨⟨o1,o2,o⟩,q⟩:=q;exact AA I m v6 X.A _ _ b l v u (oF h) r g a i o1 o2 o _ _ _ _<|fA I m k q;exact Kp p s σ H b l v u R I g i ⟨x,y,M,ρ,Q,m,r,a,q,k⟩
noncomputable def E6:Nat->D->Bool
 |_,.int _=>a9
 |_,.str _=>a9
 |n+1,.tup xs=>xs.all<|E6 n
 |_,_=>b7
noncomputable def IK(f:D->List Int):List D->List Int
 | []=>[0]
 |x::xs=>1::(f x++IK f xs)
noncomputable def MK:Nat->D->List Int
 |_,.int i=>[0,i]
 |_,.str x=>1::(x.cps.toList.map (λ(c:Nat)=>(c:Int)+1)++[0])
 |n+1,.tup xs=>2::IK (MK n) xs
 |_,_=>[3]
def cc(x y:List Int):Prop:=∀a b,x++a<y++b
theorem cc.cons(i:Int)(h:cc x y):cc (i::x) (i::y):=λa b=>NC.mpr<|.inr ⟨rfl,h a b⟩
theorem cc.head(x y:List Int)(h:i<j):cc (i::x) (j::y):=λa b=>NC.mpr<|.inl h
theorem cc.lt(h:cc x y):x<y:=by have:=h [] [];simpa using this
theorem cc.pre(z:List Int)(h:cc x y):cc (z++x) (z++y):=by
 induction z with
 |nil=>exact h
 |cons i z a=>exact a.cons i
theorem cc.more(u v:List Int)(h:cc x y):cc (x++u) (y++v):=λa b=>by rw[Nk,Nk];exact h _ _
def QM(x y:D)(n:Nat)(l:Bool)(r:Bool):Prop:=(x=y/\l=b7/\r=b7)\/(x≠y/\l=a9/\r=b7/\cc (MK n x) (MK n y))\/(x≠y/\l=b7/\r=a9/\cc (MK n y) (MK n x))
theorem sP:∀(x y:List Nat),(x=y)\/(x<y/\¬y<x/\cc (x.map (λ(c:Nat)=>(c:Int)+1)++[0]) (y.map (λ(c:Nat)=>(c:Int)+1)++[0]))\/(¬x<y/\y<x/\cc (y.map (λ(c:Nat)=>(c:Int)+1)++[0]) (x.map (λ(c:Nat)=>(c:Int)+1)++[0]))
 | [],[]=>.inl rfl
 | [],c::y=>.inr<|.inl ⟨List.nil_lt_cons _ _,List.not_lt_nil _,cc.head _ _<|by dsimp only;lia⟩
 |c::x,[]=>.inr<|.inr ⟨List.not_lt_nil _,List.nil_lt_cons _ _,cc.head _ _<|by dsimp only;lia⟩
 |c::x,e::y=>by
  rcases Qh c e with h|h|h;refine .inr<|.inl ⟨NC.mpr<|.inl h,λz=>?_,cc.head _ _<|by dsimp only;lia⟩;rcases NC.mp z with z|⟨z,_⟩<;>lia
  subst h;rcases sP x y with q|⟨q1,q2,q3⟩|⟨q1,q2,q3⟩
  exact .inl (by rw[q]);refine .inr<|.inl ⟨NC.mpr<|.inr ⟨rfl,q1⟩,λz=>?_,q3.cons _⟩;rcases NC.mp z with z|⟨_,z⟩
  lia;exact q2 z;refine .inr<|.inr ⟨λz=>?_,NC.mpr<|.inr ⟨rfl,q2⟩,q3.cons _⟩;rcases NC.mp z with z|⟨_,z⟩
  lia;exact q1 z;refine .inr<|.inr ⟨λz=>?_,NC.mpr<|.inl h,cc.head _ _<|by dsimp only;lia⟩;rcases NC.mp z with z|⟨z,_⟩<;>lia
theorem LH(M:u8):∀(n:Nat) (x y:D),E6 n x=a9->E6 n y=a9->(v7 M n x y=a9↔x=y):=by
 have l:∀(n:Nat),(∀(x y:D),E6 n x=a9->E6 n y=a9->(v7 M n x y=a9↔x=y))->∀(xs ys:List D),xs.all (E6 n)=a9->ys.all (E6 n)=a9->(D8 (v7 M n) xs ys=a9↔xs=ys):=by
  intro n i xs;induction xs with
  |nil=>intro ys _ _;cases ys<;>simp[D8]
  |cons x xs hi =>
   intro ys h1 h2;cases ys with
   |nil=>simp[D8]
   |cons y ys=>rw[MG,B8]at h1 h2;rw[D8,B8,i x y h1.1 h2.1,hi ys h1.2 h2.2,Q1]
 intro n;induction n with
 |zero=>intro x y h1 h2;cases x<;>simp[E6]at h1<;>cases y<;>simp[E6]at h2<;>simp[v7]
 |succ n i =>
  intro x y h1 h2;cases x with
  |int a=>cases y<;>simp[E6]at h2<;>simp[v7]
  |str a=>cases y<;>simp[E6]at h2<;>simp[v7]
  |tup xs =>
   cases y with
   |tup ys=>simp only[v7,D.tup.injEq];exact l n i xs ys (by simpa [E6]using h1)<|by simpa [E6]using h2
   |int a=>simp[v7]
   |str a=>simp[v7]
   |_=>simp[E6]at h2
  |_=>simp[E6]at h1
theorem As(M:u8):∀(n:Nat) (x:D),E6 n x=a9->x3 M n x=a9:=by
 intro n;induction n with
 |zero=>intro x h;cases x<;>simp[E6]at h<;>rfl
 |succ n i =>
  intro x h;cases x with
  |int a=>rfl
  |str a=>rfl
  |tup xs=>simp only[x3];rw[D7];intro y Q;exact i y<|D7.mp (show xs.all (E6 n)=a9 from h) y Q
  |_=>simp[E6]at h
theorem FB(M:u8):∀(n:Nat) (x y:D),E6 n x=a9->E6 n y=a9->iI M n x y=a9->QM x y n (z7 M n x y) (z7 M n y x):=by
 have base:∀(n:Nat) (a b:Int),QM (.int a) (.int b) n (decide<|a<b) (decide<|b<a):=λn a b=>by
  have e:∀a,MK n (.int a)=[0,a]:=λa=>by cases n<;>rfl
  rcases Int.lt_trichotomy a b with h|h|h;exact .inr<|.inl ⟨by simp;lia,dT_ h,dF_ (by lia),by rw[e,e];exact(cc.head [] [] h).cons 0⟩;subst h;exact .inl ⟨rfl,dF_ (by lia),dF_<|by lia⟩;exact .inr<|.inr ⟨by simp;lia,dF_ (by lia),dT_ h,by rw[e,e];exact(cc.head [] [] h).cons 0⟩
 have s:∀(n:Nat) (a b:c9),QM (.str a) (.str b) n (bh a b) (bh b a):=λn a b=>by
  have e:∀a:c9,MK n (.str a)=1::(a.cps.toList.map (λ(c:Nat)=>(c:Int)+1)++[0]):=λa=>by cases n<;>rfl
  unfold bh;rcases sP a.cps.toList b.cps.toList with h|⟨h1,h2,d⟩|⟨h1,h2,d⟩
  have:a=b:=tU h;subst this;exact .inl ⟨rfl,dF_<|OT _,dF_<|OT _⟩;exact .inr<|.inl ⟨λz=>by cases z;exact h2 h1,dT_ h1,dF_ h2,by rw[e,e];exact d.cons 1⟩;exact .inr<|.inr ⟨λz=>by cases z;exact h1 h2,dF_ h1,dT_ h2,by rw[e,e];exact d.cons 1⟩
 intro n;induction n with
 |zero=>intro x y h1 h2 d;cases x<;>simp[E6]at h1<;>cases y<;>simp[E6]at h2<;>first|exact base 0 _ _|exact s 0 _ _|simp[iI]at d
 |succ n m =>
  intro x y h1 h2 d;have l:∀(xs ys:List D),xs.all (E6 n)=a9->ys.all (E6 n)=a9->Cf (v7 M n) (iI M n) xs ys=a9 -> (xs=ys/\tq (v7 M n) (z7 M n) xs ys=b7/\tq (v7 M n) (z7 M n) ys xs=b7) \/ (xs≠ys/\tq (v7 M n) (z7 M n) xs ys=a9/\tq (v7 M n) (z7 M n) ys xs=b7/\cc (IK (MK n) xs) (IK (MK n) ys)) \/ (xs≠ys/\tq (v7 M n) (z7 M n) xs ys=b7/\tq (v7 M n) (z7 M n) ys xs=a9/\cc (IK (MK n) ys) (IK (MK n) xs)):=by
   intro xs;induction xs with
   |nil =>
    intro ys _ _ _;cases ys with
    |nil=>exact .inl ⟨rfl,rfl,rfl⟩
    |cons y ys=>exact .inr<|.inl ⟨by simp,rfl,rfl,cc.head _ _<|by decide⟩
   |cons x xs hi =>
    intro ys h1 h2 d;cases ys with
    |nil=>exact .inr<|.inr ⟨by simp,rfl,rfl,cc.head _ _<|by decide⟩
    |cons y ys =>
     rw[MG,B8]at h1 h2;rw[Cf]at d;have i:=LH M n x y h1.1 h2.1;have j:=LH M n y x h2.1 h1.1;rw[tq,tq];by_cases q:x=y;subst q;rw[p9<|i.mpr rfl]at d;rw[p9<|i.mpr rfl,p9<|i.mpr rfl];rcases hi ys h1.2 h2.2 d with⟨E,f,g⟩|⟨E,f,g,t⟩|⟨E,f,g,t⟩
     exact .inl ⟨by rw[E],f,g⟩;exact .inr<|.inl ⟨λz=>E (QU z).2,f,g,(t.pre<|MK n x).cons 1⟩;exact .inr<|.inr ⟨λz=>E (QU z).2,f,g,(t.pre<|MK n x).cons 1⟩;have k:¬v7 M n x y=a9:=λz=>q<|i.mp z;have o:¬v7 M n y x=a9:=λz=>q (j.mp z).symm;rw[q9 k]at d;rw[q9 k,q9 o];rcases m x y h1.1 h2.1 d with⟨E,_⟩|⟨E,f,g,t⟩|⟨E,f,g,t⟩
     exact r9 E q;exact .inr<|.inl ⟨λz=>q (QU z).1,f,g,(t.more _ _).cons 1⟩;exact .inr<|.inr ⟨λz=>q (QU z).1,f,g,(t.more _ _).cons 1⟩
  cases x with
  |int a=>cases y<;>simp[E6]at h2<;>first|exact base (n+1) _ _|simp[iI]at d
  |str a=>cases y<;>simp[E6]at h2<;>first|exact s (n+1) _ _|simp[iI]at d
  |tup xs =>
   cases y with
   |tup ys =>
    rcases l xs ys (by simpa [E6]using h1) (by simpa [E6]using h2) d with⟨E,f,g⟩|⟨E,f,g,t⟩|⟨E,f,g,t⟩
    exact .inl ⟨by rw[E],f,g⟩;exact .inr<|.inl ⟨λz=>E<|D.tup.inj z,f,g,t.cons 2⟩;exact .inr<|.inr ⟨λz=>E<|D.tup.inj z,f,g,t.cons 2⟩
   |_=>simp[iI]at d
  |_=>simp[E6]at h1
theorem mC(h1:E6 n x=a9)(h2:E6 n y=a9)(h:iI M n x y=a9):z7 M n x y=decide (MK n x<MK n y):=by
 rcases FB M n x y h1 h2 h with⟨E,a,b⟩|⟨E,a,b,t⟩|⟨E,a,b,t⟩
 subst E;rw[a,dF_<|OT _];rw[a,dT_ t.lt];rw[a,dF_<|λz=>OT _<|List.lt_trans z t.lt]
end L2
namespace L2
open PySem PySem.Spec PyProof.Rows DL PySem.W
theorem u6.laidF(I:u6 X pins σ H s)(k:∀b u,b≠X.env.locals->s.heap.get? b=a7 u->h'.get? b=a7 u)(p:s.heap.Ns X.env.locals m)(h:h'.Ns X.env.locals m)(t:s.heap.get? a=a8) (f:H a=a8) (j:bX X.prog X.w (A0 H a o) h' a o):u6 X pins σ (A0 H a o) { s with heap:=h',toks:=t' }:=by
 have i:∀b u,s.heap.get? b=a7 u->b≠a:=λb u e z=>by subst z;rw[t]at e;cases e
 refine I.step (g':=s.gens) (d':=s.drawn) (ch:=[]) (λ_ z=>nomatch z) (λb u L _ _ e _=>k b u L e) (λb u L _ _ e _=>⟨u.slots,k b u L e⟩) (λb u _ e n=>by rw[az<|i b u e];exact n) (λb u _ e=>?_) (λb xs q=>by rw[az<|ag q f];exact q) (λb u xs q=>by rw[az<|ag q f];exact q) (λb ps q=>⟨#[],by rw[az<|ag q f,q];simp⟩) (λy l=>?_) (λb w q=>?_) I.bare;by_cases d:b=X.env.locals;subst d;obtain⟨o',_,_,B,_⟩:=h;exact⟨o',B⟩;exact⟨u,k b u d e⟩;have:m=y:=funext λx=>p.agree l x;subst this;exact h;by_cases d:b=a;subst d;rw[bi]at q;cases q;exact j;rw[az d]at q;refine(I.hok b w q).stay (λc v g r=>k c v ?_ r) (λc z=>by rw[az<|ag z f];exact z) λc xs z=>by rw[az<|ag z f];exact z
 rcases g with rfl|g;exact ag q I.free;exact ag g I.free
theorem u6.keptF(I:u6 X pins σ H s)(k:∀b u,b≠X.env.locals->s.heap.get? b=a7 u->h'.get? b=a7 u)(i:s.heap.Ns X.env.locals m)(a:h'.Ns X.env.locals m):u6 X pins σ H { s with heap:=h',toks:=t' }:=by refine I.step (g':=s.gens) (d':=s.drawn) (ch:=[]) (λ_ z=>nomatch z) (λb u h _ _ e _=>k b u h e) (λb u h _ _ e _=>⟨u.slots,k b u h e⟩) (λb u _ e n=>n) (λb u _ e=>?_) (λb xs q=>q) (λb u xs q=>q) (λb ps q=>⟨#[],by rw[q];simp⟩) (λj g=>?_) (λb w q=>?_) I.bare;by_cases d:b=X.env.locals;subst d;obtain⟨o',_,_,B,_⟩:=a;exact⟨o',B⟩;exact⟨u,k b u d e⟩;have:m=j:=funext λx=>i.agree g x;subst this;exact a;refine(I.hok b w q).stay (λc v f r=>k c v ?_ r) (λc z=>z) λc xs z=>z;rcases f with rfl|f;exact ag q I.free;exact ag f I.free
theorem rD{prog:d6}{w:d5}{A:f9}{E:b9->g8->Prop}{s:g8}{l:d7}{vs:List b9}{Q:b9->g8->Prop}(u:s.heap.IsList l vs.toArray)(h2:vs.length<2)(h:∀D h' n,s.heap.objs.size<=D->(∀b o,s.heap.get? b=a7 o->h'.get? b=a7 o)->h'.get? D=a7 { cls:=.type "list",data:=.seq vs.toArray n }->Q (.ref D) { s with heap:=h' }):i7 (j2 prog w) A (call (.builtin "sorted")<|[I0 l]) Q E s:=by
 have f:vs.length<=sizeLine:=by rw[M8];lia
 refine Calls.call_function_entry kind_sorted plain_sorted entry_sorted (args_sorted1<|.ref l) ?_;unfold Builtin.«sorted»;refine t9 (m:=checkCount "sorted" 1 1 _)<|u9<|t9<|collect_list u (t9<|wpAny_newList ?_ f) f;generalize S:((s.heap.push<|p4 "list" #[] 0).update s.heap.objs.size (MM (· ++ vs.toArray)))=g1;have z:g1.objs.size=s.heap.objs.size+1:=by rw[<-S,Heap.size_update,size_push']
 have x:∀b o,s.heap.get? b=a7 o->g1.get? b=a7 o:=λb o q=>by have d:=C2 q;rw[<-S,Qs _ _ _ _<|D6 d,Heap.get?_push_ne _ _ _<|D6 d];exact q
 show i7 _ _ _ _ _ { s with heap:=g1.push (p4 "list" vs.toArray 0) };have L:(g1.push<|p4 "list" vs.toArray 0).get? g1.objs.size=a7 (p4 "list" vs.toArray 0):=E1 _ rfl;refine t9<|K8<|J2 slot_list_sort (⟨_,L,rfl⟩) entry_list_sort ?body<|args_list_sort<|.ref _
 case body =>
  rw[list_sort_plain];refine t9<|listItems_at L rfl ?_;refine t9<|listUpdate_at L rfl ?_ (by rw[C9,M8];lia)<|D4 _;obtain⟨k,e⟩:∃k,((g1.push<|p4 "list" vs.toArray 0).update g1.objs.size<|MM λ_=>(#[]:Array b9)).get? g1.objs.size=a7 (p4 "list" #[] k):=⟨_,Q0 L λ_=>#[]⟩
  refine t9<|seqEpoch_at e rfl<|t9<|wpAny_newTuple (t9<|wpAny_newList (K8 ?_)<|D4 _) f;dsimp only;have g:vs.toArray.size<2:=by rw[C9];exact h2
  rw[p9 g,p9 g];refine t9<|u9 ?_;rw[StateT.run_pure];refine t9<|u9 ?_;dsimp only;generalize c:(((g1.push<|p4 "list" vs.toArray 0).update g1.objs.size<|MM λ_=>(#[]:Array b9)).push<|p4 "tuple" vs.toArray 0).push (p4 "list" #[] 0)=g3;have a:g3.get? g1.objs.size=a7 (p4 "list" #[] k):=by rw[<-c];exact A9 _<|A9 _ e
  have y:∀b o,b≠g1.objs.size->s.heap.get? b=a7 o->g3.get? b=a7 o:=λb o i q=>by have B:=x b o q;rw[<-c];refine A9 _<|A9 _ ?_;rw[Qs _ _ _ _ i];exact A9 _ B
  refine t9<|seqEpoch_at a rfl ?_;have r:∀us:List b9,us.length<2->(us.toArray.zip us.toArray).map (·.2)=us.toArray:=λus hu=>by
   match us,hu with
   | [],_=>simp
   | [v],_=>simp
   |_::_::_,hu=>simp at hu;lia
  have t:(arrOf<|SortSt.mk' general' (vs.toArray.zip vs.toArray) #[] 7 a8).map (·.2)=vs.toArray:=r vs h2;rw[t];refine t9 (listUpdate_at a rfl ?_ (D4 _)<|by rw[C9,M8];lia);simp only[show failedOf (SortSt.mk' general' (vs.toArray.zip vs.toArray) #[] 7 a8)=a8 from rfl,bne_self_eq_false,E3,t5];refine u9 ⟨_,rfl,u9 ⟨_,rfl,?_⟩⟩;obtain⟨j,p⟩:∃j,(g3.update g1.objs.size<|MM λ_=>vs.toArray).get? g1.objs.size=a7 (p4 "list" vs.toArray j):=⟨_,Q0 a λ_=>vs.toArray⟩
  refine h g1.objs.size _ j (by lia) (λb o q=>?_) p;have i:b≠g1.objs.size:=D6 (by rw[z];exact OZ<|C2 q);rw[Qs _ _ _ _ i];exact y b o i q
structure SrtOk(M:u8)(xs:List D):Prop where
 len:xs.length<64
 ok:∀x∈xs,E6 v6 x=a9
 cm:∀x∈xs,∀y∈xs,iI M v6 x y=a9
 kd:(∀x∈xs,∃z,x=.str z)\/(∀x∈xs,∃i,x=.int i)\/(∀x∈xs,∃z r,x=.tup (.str z::r))\/(∀x∈xs,∃i r,x=.tup (.int i::r))\/(∀x∈xs,∃z r,x=.tup (.tup z::r))
structure SrtG(M:u8)(xs:List D):Prop where
 len:xs.length<64
 okd:∀x∈xs,x3 M v6 x=a9
 cm:∀x∈xs,∀y∈xs,iI M v6 x y=a9
 kd:(∀x∈xs,∃z,x=.str z)\/(∀x∈xs,∃i,x=.int i)\/(∀x∈xs,∃z r,x=.tup (.str z::r))\/(∀x∈xs,∃i r,x=.tup (.int i::r))\/(∀x∈xs,∃z r,x=.tup (.tup z::r))
 od:∃en:D->List Int,∀a∈xs,∀b∈xs,z7 M v6 a b=decide (en a<en b)
theorem SrtOk.g(o:SrtOk M xs):SrtG M xs:=⟨o.len,λx h=>As M _ _<|o.ok x h,o.cm,o.kd,MK v6,λa f b d=>mC (o.ok a f) (o.ok b d)<|o.cm a f b d⟩
def yi(M:u8)(ys:List D):Prop:=ys.Pairwise λa b=>z7 M v6 b a=b7
def zJ:E9:=λds M Q=>match ds with
 | [.ref n]=>∃xs,ao M n xs/\SrtG M xs/\∀ys,ys.Perm xs->yi M ys->Q (.ref M.length) (M++[.lst ys])
 |_=>False
theorem Reps.perm{K:v9}{ρ:List d7}{H:Hp}{ds:List D}{vs:List V}(r:Reps K ρ H ds vs)(is:List Nat)(hi:∀i∈is,i<ds.length):Reps K ρ H (is.map λi=>ds.getD i .non) (is.map λi=>vs.getD i .non):=by
 induction is with
 |nil=>exact .nil
 |cons i is a=>have h:=hi i C7;obtain⟨v,e,d⟩:=r.get<|C4 h;refine .cons ?_<|a λj L=>hi j<|C0 _ L;show w5 K ρ H (ds.getD i .non) (vs.getD i .non);rw[L3,L3,e,C4 h];exact d
theorem ax.perm(r:ax vs us)(is:List Nat)(hi:∀i∈is,i<vs.length):ax (is.map λi=>vs.getD i .non) (is.map λi=>us.getD i .none):=by
 induction is with
 |nil=>exact .nil
 |cons i is a=>have h:=hi i C7;obtain⟨v,e,d⟩:=gQ r<|C4 h;refine .cons ?_<|a λj L=>hi j<|C0 _ L;show aQ (vs.getD i .non) (us.getD i .none);rw[L3,L3,e,C4 h];exact d
instance:Inhabited D:=⟨.non⟩
theorem GB(o:HO)(x:bX P w H h a o):∃u,h.get? a=a7 u:=by
 cases o with
 |lst _=>obtain⟨_,_,_,_,e⟩:=x;exact⟨_,e⟩
 |tup _=>obtain⟨_,_,_,o,e,_⟩:=x;exact⟨o,e⟩
 |dK _=>obtain⟨_,_,_,_,_,_,_,e,_⟩:=x;exact⟨_,e⟩
 |dT _=>obtain⟨_,_,_,_,o,_,_,e,_⟩:=x;exact⟨o,e⟩
 |set _ _=>obtain⟨o,_,_,_,e,_⟩:=x;exact⟨_,e⟩
 |ins _ _ _=>obtain⟨_,_,_,e,_⟩:=x;exact⟨_,e⟩
 |own _=>exact x
 |xd _=>obtain⟨_,⟨_,_,_,e,_⟩,_⟩:=x;exact⟨_,e⟩
 |rng _ _=>obtain⟨_,_,_,e⟩:=x;exact⟨_,e⟩
 |frz _ _=>obtain⟨e,_⟩:=x;exact⟨_,e⟩
 |tbl _=>exact⟨_,x⟩
 |met _ _=>exact⟨_,x⟩
 |ext _=>obtain⟨_,e,_⟩:=x;exact e
theorem E8.none(x:E8 P w H h)(e:h.get? a=a8):H a=a8:=by
 cases q:H a with
 |none=>rfl
 |some o=>exfalso;obtain⟨u,g⟩:=GB o<|x a o q;rw[e]at g;cases g
theorem GE(I:u6 X pins σ H s)(m:x8 X.K ρ M H)(n:Nat)(A:f9)(u:A.units+n<m9):∀(ds es:List D) (vs ws:List V) (its jts:List b9),Reps X.K ρ H ds vs->ax vs its->Reps X.K ρ H es ws->ax ws jts->ds.all (x3 M n)=a9->es.all (x3 M n)=a9 ->Cf (v7 M n) (iI M n) ds es=a9->LexAt A s its jts (tq (v7 M n) (z7 M n) ds es):=by
 intro ds;induction ds with
 |nil =>
  intro es vs ws its jts g c p j _ _ _;cases g;cases c;cases p with
  |nil=>cases j;exact .nn
  |cons _ _=>cases j;exact .nc
 |cons d ds hi =>
  intro es vs ws its jts g c p j a C k;cases g with
  |cons E g =>
   cases c with
   |cons f c =>
    cases p with
    |nil=>cases j;exact .cn
    |@cons e _ o _ b p =>
     cases j with
     |cons l j=>rw[MG,B8]at a C;have i:=(mN I m n A d _ _ _ _ _ u E f b l a.1 C.1).1;rw[tq];rw[Cf]at k;by_cases q:v7 M n d e=a9;rw[q]at i;rw[p9 q]at k ⊢;exact .eq i<|hi _ _ _ _ _ g c p j a.2 C.2 k;have h:=OC.mpr q;rw[h]at i;rw[q9 q]at k ⊢;exact .ne i<|AA I m n A _ _ _ _ _ _ u E f b l a.1 C.1 k
theorem DN(h:LexAt A s its jts k):∀(i:Nat),(b&&i==0)=b7->(b&&i+1==0)=b7->Q k s->KatLex prog w A b (decide<|its.length<jts.length) Q (its.zip jts) i s:=by
 have n:∀i:Nat,(b&&i+1==0)=b7:=λi=>by cases b<;>simp
 induction h with
 |nn=>intro i _ _ q;exact q
 |nc=>intro i _ _ q;exact(show Q (decide<|0<_+1) s by rw[dT_<|Nat.succ_pos _];exact q)
 |cn=>intro i _ _ q;exact(show Q (decide<|_+1<0) s by rw[dF_<|Og _];exact q)
 |@eq x y xs ys k e t a=>intro i d _ q;refine kat_cons<|e prog w _ _<|kat_yes ?_;have:=a (i+1) (n i) (n<|i+1) q;rw[show decide ((x::xs).length<(y::ys).length)=decide (xs.length<ys.length) by simp];exact this
 |@ne x y xs ys k e t=>intro i d _ q;refine kat_cons<|e prog w _ _<|kat_no ?_;rw[d];exact kat_one _ _<|t prog w _ _ q
theorem Be(i:Ng A s p q e)(g:e=b7->∀Q':Bool->g8->Prop,Q' l s->i7 (j2 prog w) A (oneLt' (b&&0==0) p q) Q' (λ_ _=>False) s)(D:e=a9->LexAt A s its jts k)(h:Q (if e=a9 then k else l) s):KatLex prog w A b (decide<|(p::its).length<(q::jts).length) Q ((p::its).zip<|q::jts) 0 s:=by
 refine kat_cons<|i prog w _ _ ?_;cases e with
 |true=>refine kat_yes ?_;rw[show decide ((p::its).length<(q::jts).length)=decide (its.length<jts.length) by simp];exact DN (D rfl) 1 (by cases b<;>rfl) (by cases b<;>rfl) h
 |false=>exact kat_no<|g rfl _ h
section
variable{X:Cx}{pins:List (d7×d8)}{σ:St}{H:Hp}{s:g8}{ρ:List d7}{M:u8}
theorem sh{M:Model}{h:d9}{x:c9}{t:Tok}:Looks M h (typeOf<|.str x t) (.type "str"):=Looks.of_pure rfl
theorem sj{M:Model}{h:d9}{x:Int}{t:Tok}:Looks M h (typeOf<|.int x t) (.type "int"):=Looks.of_pure rfl
theorem Reps.getD'(r:Reps X.K ρ H ds vs)(f:ax vs its)(h:i<ds.length):∃v,w5 X.K ρ H (ds.getD i default) v/\aQ v (its.getD i .none)/\ds.getD i default∈ds:=by obtain⟨v,e,d⟩:=r.get<|C4 h;obtain⟨u,a,T⟩:=gQ f e;refine⟨v,?_,?_,?_⟩;rw[L3,C4 h];exact d;rw[L3,a];exact T;rw[L3,C4 h];exact G6 h
theorem Reps.mem(r:Reps X.K ρ H ds vs)(f:ax vs its)(h:u∈its):∃d v,d∈ds/\w5 X.K ρ H d v/\aQ v u:=by
 induction ds generalizing vs its with
 |nil=>cases r;cases f;cases h
 |cons g ds i =>
  cases r with
  |cons e r =>
   cases f with
   |cons c q=>rcases(A5 (a:=u)).mp h with rfl|h;exact⟨_,_,C7,e,c⟩;obtain⟨d,v,h1,h2,b⟩:=i r q h;exact⟨d,v,C0 _ h1,h2,b⟩
theorem uO(I:u6 X pins σ H s)(r:Reps X.K ρ H xs ws)(b:ax ws its)(a:∀x∈xs,∃f r,x=.tup (f::r)):∃fs,KatTups s.heap its fs/\fs.length=its.length/\∀u∈fs,∃d v,w5 X.K ρ H d v/\aQ v u/\∃r,D.tup (d::r)∈xs:=by
 induction xs generalizing ws its with
 |nil=>cases r;cases b;exact⟨[],.nil,rfl,λ_ z=>nomatch z⟩
 |cons d ds w =>
  cases r with
  |cons C r =>
   cases b with
   |cons A q =>
    obtain⟨fs,h1,h2,j⟩:=w r q λx h=>a x<|C0 _ h;obtain⟨f,aX,rfl⟩:=a d C7;cases C with
    |tup p c =>
     cases A;obtain⟨its,e,y,F⟩:=I.tuple p;cases c with
     |cons E c =>
      cases e with
      |cons i e=>obtain⟨o,B,k,n,m⟩:=y;refine⟨_::fs,.cons B k m rfl h1,by simp[h2],λu g=>?_⟩;rcases A5.mp g with rfl|g;exact⟨_,_,E,i,_,C7⟩;obtain⟨d,v,t,l,r',R⟩:=j u g;exact⟨d,v,t,l,r',C0 _ R⟩
noncomputable def ltc(M:u8)(xs:List D)(i j:Nat):Bool:=z7 M v6 (xs.getD i default)<|xs.getD j default
theorem rE(I:u6 X pins σ H s)(sm:x8 X.K ρ M H){xs:List D}{ws:List V}{its:List b9}(so:SrtG M xs)(r:Reps X.K ρ H xs ws)(J:ax ws its)(h2:2<=its.length){A:f9}(P:A.units+v6<m9):i7 (j2 X.prog X.w) A (keyKind' its.toArray) (λκ s'=>s'=s/\∀i j (C:Bool->g8->Prop),i<its.length->j<its.length->C (ltc M xs i j) s->kas_ask X.prog X.w A κ its i j C s) (λ_ _=>False) s:=by
 have lw:=r.length;have li:=J.length;have le:xs.length=its.length:=by lia
 have O:∀(b:Bool),(∀x∈xs,∃f r,x=.tup (f::r))->(∀(f g:D) (vf vg:V) (p q:b9) (r r':List D),D.tup (f::r)∈xs->D.tup (g::r')∈xs->w5 X.K ρ H f vf->aQ vf p->w5 X.K ρ H g vg->aQ vg q -> (v7 M 29 f g=b7->∀Q':Bool->g8->Prop,Q' (z7 M 29 f g) s->i7 (j2 X.prog X.w) A (oneLt' (b&&0==0) p q) Q' (λ_ _=>False) s)) -> ∀i j (C:Bool->g8->Prop),i<its.length->j<its.length->C (ltc M xs i j) s->kas_ask X.prog X.w A (tuples' b) its i j C s:=by
  intro b F ab i j C hi hj E;unfold kas_ask;obtain⟨v1,c,B,m⟩:=r.getD' J (show i<xs.length by lia);obtain⟨v2,G,L,W⟩:=r.getD' J (show j<xs.length by lia);unfold ltc at E;have k1:=so.okd _ m;have k2:=so.okd _ W;have k3:=so.cm _ m _ W;generalize xs.getD i default=x at *;generalize xs.getD j default=y at *;obtain⟨f,rf,rfl⟩:=F _ m;obtain⟨g,rg,rfl⟩:=F _ W;cases c with
  |tup S rs =>
   cases G with
   |tup aS Z =>
    generalize its.getD i .none=u1 at *;generalize its.getD j .none=u2 at *;cases B;cases L;obtain⟨as,ra,pa,_⟩:=I.tuple S;obtain⟨bs,rb,pb,_⟩:=I.tuple aS;obtain⟨o,ho,_,n,hd⟩:=pa;obtain⟨o',aD,_,n',ap⟩:=pb;refine kat_lt ho hd aD ap ?_;cases rs with
    |cons a1 rs =>
     cases ra with
     |@cons _ p _ la b1 ra =>
      cases Z with
      |cons a2 Z =>
       cases rb with
       |@cons _ q _ lb b2 rb =>
        have ai:A.units+29<m9:=by have:v6=30:=rfl;lia
        have z1:x3 M 29 f=a9/\rf.all (x3 M 29)=a9:=by
         have:(f::rf).all (x3 M 29)=a9:=k1
         rwa [MG,B8]at this
        have z2:x3 M 29 g=a9/\rg.all (x3 M 29)=a9:=by
         have:(g::rg).all (x3 M 29)=a9:=k2
         rwa [MG,B8]at this
        have z3:(if v7 M 29 f g=a9 then Cf (v7 M 29) (iI M 29) rf rg else iI M 29 f g)=a9:=k3;have he:=(mN I sm 29 A _ _ _ _ _ _ ai a1 b1 a2 b2 z1.1 z2.1).1;have R:C (if v7 M 29 f g=a9 then tq (v7 M 29) (z7 M 29) rf rg else z7 M 29 f g) s:=E;cases U:v7 M 29 f g with
        |true=>rw[U]at he R z3;have:=Be (prog:=X.prog) (w:=X.w) (b:=b) (Q:=C) (l:=a9) he (λz=>nomatch z) (λ_=>GE I sm 29 A ai _ _ _ _ _ _ rs ra Z rb z1.2 z2.2 z3) R;simpa using this
        |false=>rw[U]at he R;have:=Be (prog:=X.prog) (w:=X.w) (b:=b) (Q:=C) (l:=z7 M 29 f g) (its:=la) (jts:=lb) (k:=a9) he (λ_=>ab f g _ _ _ _ _ _ m W a1 b1 a2 b2 U) (λz=>nomatch z) R;simpa using this
 have N:∀(κ:SortKind),(∀i j (C:Bool->g8->Prop),i<its.length->j<its.length->C (ltc M xs i j) s->kas_ask X.prog X.w A κ its i j C s)->(s=s/\∀i j (C:Bool->g8->Prop),i<its.length->j<its.length->C (ltc M xs i j) s->kas_ask X.prog X.w A κ its i j C s):=λκ h=>⟨rfl,h⟩
 have an:A.units+29<m9:=by have:v6=30:=rfl;lia
 rcases so.kd with a|a|a|a|a;refine kas_kind (T:=.type "str") h2 (λu P=>?_) (by decide) (by decide)<|N _ λi j C hi hj E=>?_;obtain⟨d,v,m,c,B⟩:=r.mem J P;obtain⟨z,rfl⟩:=a d m;cases c;obtain⟨t,rfl⟩:=B;exact sh;unfold kas_ask;obtain⟨v1,c,B,m⟩:=r.getD' J (show i<xs.length by lia);obtain⟨v2,G,L,W⟩:=r.getD' J (show j<xs.length by lia);unfold ltc at E;obtain⟨z,hz⟩:=a _ m;obtain⟨z',Y⟩:=a _ W;rw[hz]at c E;rw[Y]at G E;cases c;cases G;obtain⟨t,h1⟩:=B;obtain⟨t',h2⟩:=L;rw[h1,h2];exact kas_lt_str E;refine kas_kind (T:=.type "int") h2 (λu P=>?_) (by decide) (by decide)<|N _ λi j C hi hj E=>?_;obtain⟨d,v,m,c,B⟩:=r.mem J P;obtain⟨z,rfl⟩:=a d m;cases c;obtain⟨t,rfl⟩:=B;exact sj;unfold kas_ask;obtain⟨v1,c,B,m⟩:=r.getD' J (show i<xs.length by lia);obtain⟨v2,G,L,W⟩:=r.getD' J (show j<xs.length by lia);unfold ltc at E;obtain⟨z,hz⟩:=a _ m;obtain⟨z',Y⟩:=a _ W;rw[hz]at c E;rw[Y]at G E;cases c;cases G;obtain⟨t,h1⟩:=B;obtain⟨t',h2⟩:=L;rw[h1,h2];exact kat_lt_int E;obtain⟨fs,t1,t2,t3⟩:=uO I r J λx F=>(a x F).elim λz ⟨r,e⟩=>⟨_,_,e⟩
 refine kat_kind (T:=.type "str") t1 (by lia) (λu P=>?_) (by decide)<|N _<|O _ (λx F=>(a x F).elim λz ⟨r,e⟩=>⟨_,_,e⟩) λf g vf vg p q r r' m W c B G L S Q' h=>?_;obtain⟨d,v,c,B,r',m⟩:=t3 u P;obtain⟨z,aj,e⟩:=a _ m;cases e;cases c;obtain⟨t,rfl⟩:=B;exact sh;obtain⟨z,_,e⟩:=a _ m;cases e;obtain⟨z',_,e'⟩:=a _ W;cases e';cases c;cases G;obtain⟨t,rfl⟩:=B;obtain⟨t',rfl⟩:=L;exact oneLt_str h;obtain⟨fs,t1,t2,t3⟩:=uO I r J λx F=>(a x F).elim λz ⟨r,e⟩=>⟨_,_,e⟩
 refine kat_kind (T:=.type "int") t1 (by lia) (λu P=>?_) (by decide)<|N _<|O _ (λx F=>(a x F).elim λz ⟨r,e⟩=>⟨_,_,e⟩) λf g vf vg p q r r' m W c B G L S Q' h=>?_;obtain⟨d,v,c,B,r',m⟩:=t3 u P;obtain⟨z,aj,e⟩:=a _ m;cases e;cases c;obtain⟨t,rfl⟩:=B;exact sj;obtain⟨z,_,e⟩:=a _ m;cases e;obtain⟨z',_,e'⟩:=a _ W;cases e';cases c;cases G;obtain⟨t,rfl⟩:=B;obtain⟨t',rfl⟩:=L;exact oneLt_int h;obtain⟨fs,t1,t2,t3⟩:=uO I r J λx F=>(a x F).elim λz ⟨r,e⟩=>⟨_,_,e⟩
 refine kat_kind (T:=.type "tuple") t1 (by lia) (λu P=>?_) (by decide)<|N _<|O _ (λx F=>(a x F).elim λz ⟨r,e⟩=>⟨_,_,e⟩) λf g vf vg p q r r' m W c B G L S Q' h=>?_;obtain⟨d,v,c,B,r',m⟩:=t3 u P;obtain⟨z,aj,e⟩:=a _ m;cases e;cases c with
 |tup S rs=>cases B;obtain⟨_,_,pl,_⟩:=I.tuple S;obtain⟨o,ho,E,_⟩:=pl;rw[<-E];exact(show Looks _ s.heap (typeOf<|.ref _) o.cls from(Looks.ld ho).andThen .now)
 have k1:x3 M 29 f=a9:=by have:(f::r).all (x3 M 29)=a9:=so.okd _ m;rw[MG,B8]at this;exact this.1
 have k2:x3 M 29 g=a9:=by have:(g::r').all (x3 M 29)=a9:=so.okd _ W;rw[MG,B8]at this;exact this.1
 have k3:(if v7 M 29 f g=a9 then Cf (v7 M 29) (iI M 29) r r' else iI M 29 f g)=a9:=so.cm _ m _ W;rw[S]at k3;exact kat_one _ _<|AA I sm 29 A _ _ _ _ _ _ an c B G L k1 k2 k3 _ _ _ _ h
end
theorem Gr{xs:List D}{lt:D->D->Bool}{n:D->List Int}(e:∀a∈xs,∀b∈xs,lt a b=decide (n a<n b)):(∀a∈xs,lt a a=b7)/\(∀a∈xs,∀b∈xs,∀d∈xs,lt a b=a9->lt b d=a9->lt a d=a9)/\∀a∈xs,∀b∈xs,∀d∈xs,lt a d=a9->lt a b=a9\/lt b d=a9:=by refine⟨λa f=>?_,λa f b c d g h1 h2=>?_,λa f b c d g h=>?_⟩;rw[e a f a f,dF_<|OT _];rw[e a f b c,s9]at h1;rw[e b c d g,s9]at h2;rw[e a f d g,s9];exact List.lt_trans h1 h2;rw[e a f d g,s9]at h;rw[e a f b c,e b c d g,s9,s9];by_cases z:n a<n b;exact .inl z;have G:n b<=n a:=z;exact .inr<|List.lt_of_le_of_lt G h
theorem Kb{xs:List D}(o:SrtG M xs):(∀a∈xs,z7 M v6 a a=b7)/\(∀a∈xs,∀b∈xs,∀d∈xs,z7 M v6 a b=a9->z7 M v6 b d=a9->z7 M v6 a d=a9)/\∀a∈xs,∀b∈xs,∀d∈xs,z7 M v6 a d=a9->z7 M v6 a b=a9\/z7 M v6 b d=a9:=o.od.elim λ_ e=>Gr e
theorem zx{l:d7}{xs:List D}{ws:List V}{its:List b9}{R:VK}{lt:D->D->Bool}(I:u6 X pins σ H s)(sm:x8 X.K ρ M H)(F:∀h',u6 X pins σ H { s with heap:=h' }->i7 (j2 X.prog X.w) X.A.in1.in1 (keyKind' its.toArray) (λκ s'=>s'={ s with heap:=h' }/\∀i j (C:Bool->g8->Prop),i<its.length->j<its.length->C (lt (xs.getD i default)<|xs.getD j default) { s with heap:=h' }->kas_ask X.prog X.w X.A.in1.in1 κ its i j C { s with heap:=h' }) (λ_ _=>False) { s with heap:=h' })(o1:∀a∈xs,lt a a=b7) (o2:∀a∈xs,∀b∈xs,∀d∈xs,lt a b=a9->lt b d=a9->lt a d=a9) (o3:∀a∈xs,∀b∈xs,∀d∈xs,lt a d=a9->lt a b=a9\/lt b d=a9) (r:Reps X.K ρ H xs ws) (rr:ax ws its) (Z:s.heap.IsList l its.toArray) (hz:ws.length<=sizeLine) (h2:2<=its.length) (J:its.length<64)(E:l≠X.env.locals) (kk:∀v H',((∀Q:DK,(∀ys,ys.Perm xs->(ys.Pairwise λa b=>lt b a=b7)->Q (.ref M.length) (M++[.lst ys]))->VQ X.K ρ H Q v H'))->R v H'):i7 (j2 X.prog X.w) X.A (call (.builtin "sorted") [.ref l]) (EP X pins σ R) X.xe s:=by
 obtain⟨m,P,hm⟩:=I.loc;have lw:=r.length;have li:=rr.length;obtain⟨ol,g,_⟩:=id Z;have k:∀a o,(a,o)∈[]++(l,ol)::Att.ledger s.heap X.env.locals l↔a≠X.env.locals/\s.heap.get? a=a7 o:=λa o=>by rw[G5,A5,Att.mem_ledger];constructor;rintro(h|⟨h1,_,h3⟩);cases h;exact⟨E,g⟩;exact⟨h1,h3⟩;rintro⟨h1,h2⟩;by_cases z:a=l;subst z;rw[g]at h2;cases h2;exact .inl rfl;exact .inr ⟨h1,z,h2⟩
 refine kat_sorted (Att.fr_all P) (Att.news_ledger E g) Z h2 J λD e1 h' T N G=>?_;have kp:∀b u,b≠X.env.locals->s.heap.get? b=a7 u->h'.get? b=a7 u:=λb u O e=>(N (b,u)<|C0 _<|(k b u).mpr ⟨O,e⟩).1;have L:D≠X.env.locals:=(N _ C7).2.1;have W:s.heap.get? D=a8:=by
  cases q:s.heap.get? D with
  |none=>rfl
  |some o=>exact r9 (G (D,o)<|(k D o).mpr ⟨L,q⟩)<|K9 _
 have I':u6 X pins σ H { s with heap:=h' }:=I.keptF (t':=s.toks) kp P T.ns;refine L6 (F h' I') (λκ s' hk=>?_) λ_ _ x=>x;obtain⟨rfl,B⟩:=hk;refine Srt.wp_run (n:=its.length) (c:=λi j=>if i<xs.length then(if j<xs.length then lt (xs.getD i default) (xs.getD j default)else a9)else b7) (λi j C hi hj Y=>?_) _ (Srt.sort_bd<|by lia).1 ?_;refine B i j C hi hj ?_;rw[p9 (by lia),p9<|by lia]at Y;exact Y;have t:=Srt.All.run (c:=λi j=>if i<xs.length then(if j<xs.length then lt (xs.getD i default) (xs.getD j default)else a9)else b7) _ (Srt.sort_bd (n:=its.length)<|by lia).2;have f:=Srt.sort_list xs (by lia) o1 o2 o3
 try dsimp only at f
 rw[show xs.length=its.length by lia]at f t ⊢;generalize Srt.run _ (N8 its.length)=p at t f ⊢;have hi:∀i∈p.toList,i<xs.length:=λi h=>by have:=t.mem_iff.mp h;rw[I9]at this;lia
 refine KasFin.intro T N (UpdF.head λq hq=>D6<|G q hq) λh2 c F2 U=>?_;have r':=r.perm p.toList hi;have S:=rr.perm p.toList (λi h=>by have:=hi i h;lia);have y:H D=a8:=E8.none I.hok W;refine⟨.ref D,_,I.laidF (t':=s.toks) (o:=.lst<|p.toList.map λi=>ws.getD i .non) (λb u O e=>(U (b,u)<|C0 _<|(k b u).mpr ⟨O,e⟩).1) P F2.ns W y ⟨?_,_,c,S,(U _ C7).1⟩,rfl,kk _ _ λQ hQ=>VQ.laidL sm .refl r' y<|hQ _ f.1 f.2⟩;rw[x6];have:=f.1.length_eq;rw[x6]at this;lia
theorem yA{X:Cx}(i:Room k X.A):X.A.in1.in1.units+v6<m9:=by have:=i.un;have:v6=30:=rfl;show X.A.units+1+1+v6<m9;lia
theorem Cz{k:Nat}{l:d7}{xs:List D}{ws:List V}{its:List b9}{R:VK}(i:Room k X.A)(I:u6 X pins σ H s)(m:x8 X.K ρ M H)(a:SrtG M xs)(r:Reps X.K ρ H xs ws)(f:ax ws its)(g:s.heap.IsList l its.toArray)(hz:ws.length<=sizeLine)(h2:2<=its.length)(J:its.length<64)(b:l≠X.env.locals) (d:∀v H',((∀Q:DK,(∀ys,ys.Perm xs->yi M ys->Q (.ref M.length) (M++[.lst ys]))->VQ X.K ρ H Q v H'))->R v H'):i7 (j2 X.prog X.w) X.A (call (.builtin "sorted") [.ref l]) (EP X pins σ R) X.xe s:=have o:=Kb a
 zx (lt:=z7 M v6) I m (λ_ c=>rE c m a r f h2<|yA i) o.1 o.2.1 o.2.2 r f g hz h2 J b d
theorem u6.sqL_ne(I:u6 X pins σ H s)(h:J1 X.K H a xs):a≠X.env.locals:=by
 rcases h with h|⟨o,its,n,k,_⟩
 rcases h with h|⟨_,h⟩
 exact ag h I.free;exact ag h I.free;have:=C2<|I.mod.kin a o k;exact D6<|K6 this<|MF I.ok.bsz I.ok.above
theorem BN(i:Room k X.A):iL X (.builtin "sorted") zJ:=by
 rintro p s σ H vs us R I j ⟨ds,M,ρ,Q,m,rs,q,c⟩;unfold zJ at q;split at q;obtain⟨xs,L,d,q⟩:=q;cases rs with
 |cons r1 rs =>
  cases rs;obtain⟨u,rfl,t⟩:=ax.one j;cases r1 with
  |ref e =>
   cases t;obtain⟨ws,b,r⟩:=ao.seq m L e;obtain⟨its,f,l,z⟩:=I.list b;have y:=r.length;have w:=f.length;by_cases h2:its.length<2;refine rD l.isList h2 λD h' n a g B=>?_;refine⟨.ref D,_,I.laid (t':=s.toks) (o:=.lst ws) g a ⟨z,its,n,f,B⟩,rfl,c _ _<|VQ.laidL m .refl r (I.hok.fresh a)<|q xs (Pm _) ?_⟩;unfold yi
   match xs,(show xs.length<2 by lia) with
   | [],_=>exact Re
   | [x],_=>exact Qx _ _
   |_::_::_,hx=>simp at hx;lia
   have h:2<=its.length:=by lia
   have J:its.length<64:=by have:=d.len;lia
   exact Cz i I m d r f l.isList z h J (I.sqL_ne b) λv H' x=>c v H'<|x Q q
 exact q.elim
theorem sf(h:s.heap.IsTupleIter it t i)(D:s.heap.IsTuple t items)(a:items[i]?=a7 x)(b:∀h',h'.IsTupleIter it t (i+1)->NK it s.heap h'->Q x { s with heap:=h' }):i7 (j2 prog w) A (OG<|.ref it) Q E s:=by obtain⟨o,B,f,d⟩:=id h;obtain⟨c,g,_,n,l⟩:=D;unfold OG;refine t9<|MY (name:=AA1 "__next__") h.typeIs F.slot_tuple_iterator_next<|J2 F.slot_tuple_iterator_next h.typeIs F.entry_tuple_iterator_next ?_<|F.args_tuple_iterator_next_1<|.ref it;refine(show i7 (j2 prog w) _ (field (.ref it) 0 >>= _) _ _ s from t9<|MN B d (x:=.ref t) rfl ?_);refine(show i7 (j2 prog w) _ (if (I0 t==K4)=a9 then _ else field (.ref it) 1 >>= _) _ _ s from ?_);rw[q9<|show ¬(I0 t==K4)=a9 from K0];refine t9<|MN B d (x:=.int i 0) rfl<|show i7 (j2 prog w) _ (seqItems? (.ref t) >>= _) _ _ s from t9<|Na g l ?_;simp only[N1,a];refine t9<|Nx B d (by simp)<|u9 ⟨x,rfl,u9<|b _ ⟨_,MX _ B<|RM<|Pv d _,(Obj.cls_mapFields ..).trans f,?_⟩<|Nb ..⟩;rw[Pv d];simp[l7]
theorem jT(b:A.handled=a8)(h:s.heap.IsTupleIter it t i)(D:s.heap.IsTuple t items)(f:items[i]?=a8)(c:∀h' e,Heap.ExtBut it s.heap h'->(∃o,h'.get? e=a7 o/\o.cls=.type "StopIteration")->E (.ref e) { s with heap:=h' }):i7 (j2 prog w) A (OG<|.ref it) Q E s:=by
 obtain⟨o,B,j,d⟩:=id h;obtain⟨k,g,_,n,l⟩:=D;unfold OG;refine t9<|MY (name:=AA1 "__next__") h.typeIs F.slot_tuple_iterator_next<|J2 F.slot_tuple_iterator_next h.typeIs F.entry_tuple_iterator_next ?_<|F.args_tuple_iterator_next_1<|.ref it;refine(show i7 (j2 prog w) _ (field (.ref it) 0 >>= _) _ _ s from t9<|MN B d (x:=.ref t) rfl ?_);refine(show i7 (j2 prog w) _ (if (I0 t==K4)=a9 then _ else field (.ref it) 1 >>= _) _ _ s from ?_);rw[q9<|show ¬(I0 t==K4)=a9 from K0];refine t9<|MN B d (x:=.int i 0) rfl<|show i7 (j2 prog w) _ (seqItems? (.ref t) >>= _) _ _ s from t9<|Na g l ?_;simp only[N1,f];refine t9<|Oa<|t9<|Nx B d (by simp)<|show i7 (j2 prog w) _ (newExc (.type "StopIteration") [] >>= _) _ _ _ from t9 ?_;simp only[newExc,newTuple];refine t9 (K5 (t9 (m:=p5 _ _)<|wpAny_of_eq (a:=K4) (by first|rfl|(simp only[p5];rfl))<|K5 ?_<|by size_fits)<|by size_fits);simp only[raiseNew];refine t9<|wpAny_handled ?_
 first|rw[show A.in1.handled=a8 from b]|rw[b]
 exact t9<|u9<|wpAny_throw<|c _ _ (((Nb ..).extBut.push _).push _)<|⟨_,E1 _ rfl,rfl⟩
theorem uY(g:A.handled=a8)(it t:d7)(c:t≠it)(a:Array b9):Draws prog w A it [it,t] a.size (λi v=>a[i]?=a7 v) (λi h=>h.IsTupleIter it t i/\h.IsTuple t a) where
 live:=λ_ _ ⟨⟨o,B,_⟩,_⟩=>⟨o,B⟩
 frame:=λ_ _ _ ⟨h1,o,e,r⟩ k=>⟨h1.at λo e=>k it (C7) o e,o,k t (by simp) o e,r⟩
 item:=λi s Q E hi ⟨h1,h2⟩ f=>by refine sf h1 h2 (x:=a[i]) (L1 hi) λh' b u=>f _ h' s.toks (L1 hi) ⟨b,?_⟩ u;obtain⟨o,e,r⟩:=h2;exact⟨o,u.extBut _ _ c e,r⟩
 done:=λs Q E ⟨h1,h2⟩ d=>jT g h1 h2 (O3<|z5 _) d
structure ZA(z TI TO i1 i2:d7)(f1 f2:List d7):Prop where
 nd:[z,TI,TO,i1,i2].Nodup
 z1:z∉f1
 o1:TO∉f1
 y1:i2∉f1
 z2:z∉f2
 o2:TO∉f2
 x2:i1∉f2
theorem dn{prog:d6}{w:d5}{A:f9}{it c:d7}{fp:List d7}{n k:Nat}{P:Nat->b9->Prop}{St:Nat->d9->Prop}{h h':d9}(D:Draws prog w A it fp n P St)(f:c∉fp)(hs:Heap.ExtBut c h h')(st:St k h):St k h':=D.frame k h h' st λb d o e=>hs b o (λq=>f<|q ▸ d) e
section
variable{prog:d6}{w:d5}{A:f9}{E:b9->g8->Prop}{s:g8}{z TI TO i1 i2:d7}{f1 f2:List d7}{n1 n2 k:Nat}{P1 P2:Nat->b9->Prop}{S1 S2:Nat->d9->Prop}{a b:b9}
theorem Cg{Q:b9->g8->Prop}(D:Draws prog w A i1 f1 n1 P1 S1)(p:Draws prog w A i2 f2 n2 P2 S2)(Z:ZA z TI TO i1 i2 f1 f2)(hz:IsZip s.heap z TI TO .none)(I:p6 s.heap TI (.ref i1) (.ref i2))(J:p6 s.heap TO a b)(L:S1 k s.heap) (U:S2 k s.heap) (l1:k<n1) (l2:k<n2)(hQ:∀h' tk x y T,P1 k x->P2 k y->s.heap.objs.size<=T->IsZip h' z TI TO (l7 T)->p6 h' TO x y->S1 (k+1) h'->S2 (k+1) h'->p6 h' T x y->(∀c o,c≠z->c≠TO->c≠i1->c≠i2->s.heap.get? c=a7 o->h'.get? c=a7 o)->Q (.ref T) { s with heap:=h',toks:=tk }):i7 (j2 prog w) A (Builtin.«zip.__next__» ⟨[.ref z],[]⟩) (λfin s'=>∃v,fin=.done (.ret v)/\Q v s') E s:=by
 have X:=Z.nd;simp only[MR,A5,MV,or_false,not_or]at X;obtain⟨⟨ai,O,P,R⟩,⟨S,V,W⟩,⟨r,t⟩,ab,_⟩:=X;refine(show i7 (j2 prog w) A (field (.ref z) 2 >>= _) _ _ _ from t9<|MN hz rfl (x:=.bool b7) rfl ?_);refine(show i7 (j2 prog w) A (field (.ref z) 3 >>= _) _ _ _ from t9<|MN hz rfl (x:=.ref TI) rfl<|t9<|Na I rfl ?_);refine(show i7 (j2 prog w) A (Ru (.ref z) >>= _) _ _ _ from t9 ?_);unfold Ru;refine t9<|MN hz rfl (x:=K4) rfl<|u9 ?_;simp only[t6];refine t9<|Oa<|t9<|MN hz rfl (x:=.ref TO) rfl<|t9<|Pu hz (by simp) λh₁ (hz₁:IsZip h₁ z TI TO .ellipsis) hs₁=>t9 ?_;simp only[List.zipIdx_cons,List.zipIdx_nil,Q4,List.forIn_nil];refine t9<|t9<|wpAny_onRaise<|show i7 (j2 prog w) A (OG (.ref i1) >>= _) _ _ _ from t9 ?_;refine D.item k _ _ _ l1 (dn D Z.z1 hs₁.extBut L) λx u M px m h=>u9 ?_;have f:p6 u TO a b:=h.extBut _ _ r<|hs₁.extBut _ _ (D3 O) J;refine t9<|Na f rfl<|t9<|wpAny_updateSeq_pair f λh₃ (hTO₃:p6 h₃ TO x b) hs₃=>t9<|wpAny_letGo<|u9 ?_;refine t9<|t9<|wpAny_onRaise<|show i7 (j2 prog w) A (OG (.ref i2) >>= _) _ _ _ from t9 ?_;refine p.item k _ _ _ l2 (dn p Z.o2 hs₃.extBut<|dn p Z.x2 h.extBut<|dn p Z.z2 hs₁.extBut U) λy B N py n d=>u9 ?_;have g:p6 B TO x b:=d.extBut _ _ t hTO₃;refine t9<|Na g rfl<|t9<|wpAny_updateSeq_pair g λh₅ (hTO₅:p6 h₅ TO x y) hs₅=>t9<|wpAny_letGo<|u9<|u9 ?_;refine t9<|Na hTO₅ rfl<|t9<|wpAny_newTuple ?_;have i:IsZip h₅ z TI TO .ellipsis:=hs₅.extBut _ _ O<|d.extBut _ _ R<|hs₃.extBut _ _ O<|h.extBut _ _ P hz₁;have kp:∀c o,c≠z->c≠TO->c≠i1->c≠i2->s.heap.get? c=a7 o->h₅.get? c=a7 o:=λc o j C G H e=>hs₅.extBut _ _ C<|d.extBut _ _ H<|hs₃.extBut _ _ C<|h.extBut _ _ G<|hs₁.extBut _ _ j e;have sz:h₅.objs.size=s.heap.objs.size:=by rw[hs₅.1,d.1,hs₃.1,h.1];exact hs₁.1
 have t1:=dn D Z.o1 hs₅.extBut<|dn D Z.y1 d.extBut<|dn D Z.o1 hs₃.extBut m;have t2:=dn p Z.o2 hs₅.extBut n;refine(show i7 (j2 prog w) A (R8 (.ref z) (.ref h₅.objs.size) >>= _) _ _ _ from t9 ?_);unfold R8;have l:IsZip (h₅.push { cls:=.type "tuple",data:=.seq #[x,y] }) z TI TO .ellipsis:=A9 _ i;refine t9<|Pu l (by simp) λh₇ (hz₇:IsZip h₇ z TI TO (l7 h₅.objs.size)) hs₇=>Pu hz₇ (by simp) λh₈ (hz₈:IsZip h₈ z TI TO (l7 h₅.objs.size)) hs₈=>?_;have F:∀c o,c≠z->h₅.get? c=a7 o->h₈.get? c=a7 o:=λc o j e=>hs₈.extBut _ _ j<|hs₇.extBut _ _ j<|A9 _ e;have Y:h₅.objs.size≠z:=Nat.ne_of_gt<|C2 i;refine u9 ⟨_,rfl,hQ h₈ _ x y h₅.objs.size px py (Nat.le_of_eq sz.symm) hz₈ (F _ _ (D3 O) hTO₅) ?_ ?_ (hs₈.extBut _ _ Y<|hs₇.extBut _ _ Y<|E1 _ rfl) λc o j C G H e=>F c o j<|kp c o j C G H e⟩;exact D.frame _ _ _ t1 λc K o e=>F c o (λq=>Z.z1<|q ▸ K) e;exact p.frame _ _ _ t2 λc K o e=>F c o (λq=>Z.z2<|q ▸ K) e
theorem Ci{Q:Fin->g8->Prop}(D:Draws prog w A i1 f1 n1 P1 S1)(v:Draws prog w A i2 f2 n2 P2 S2)(Z:ZA z TI TO i1 i2 f1 f2)(hz:IsZip s.heap z TI TO .none)(I:p6 s.heap TI (.ref i1) (.ref i2))(J:p6 s.heap TO a b)(L:S1 k s.heap) (U:S2 k s.heap) (Y:k=n1\/(k<n1/\k=n2))(H:∀h' tk e,(∀c o,c≠z->c≠TO->c≠i1->c≠i2->s.heap.get? c=a7 o->h'.get? c=a7 o)->(∃o,h'.get? e=a7 o/\o.cls=.type "StopIteration")->E (.ref e) { s with heap:=h',toks:=tk }):i7 (j2 prog w) A (Builtin.«zip.__next__» ⟨[.ref z],[]⟩) Q E s:=by
 have X:=Z.nd;simp only[MR,A5,MV,or_false,not_or]at X;obtain⟨⟨ai,O,P,R⟩,⟨S,V,W⟩,⟨T,F⟩,ab,_⟩:=X;refine(show i7 (j2 prog w) A (field (.ref z) 2 >>= _) _ _ _ from t9<|MN hz rfl (x:=.bool b7) rfl ?_);refine(show i7 (j2 prog w) A (field (.ref z) 3 >>= _) _ _ _ from t9<|MN hz rfl (x:=.ref TI) rfl<|t9<|Na I rfl ?_);refine(show i7 (j2 prog w) A (Ru (.ref z) >>= _) _ _ _ from t9 ?_);unfold Ru;refine t9<|MN hz rfl (x:=K4) rfl<|u9 ?_;simp only[t6];refine t9<|Oa<|t9<|MN hz rfl (x:=.ref TO) rfl<|t9<|Pu hz (by simp) λh₁ (hz₁:IsZip h₁ z TI TO .ellipsis) hs₁=>t9 ?_;simp only[List.zipIdx_cons,List.zipIdx_nil,Q4,List.forIn_nil];refine t9<|t9<|wpAny_onRaise<|show i7 (j2 prog w) A (OG (.ref i1) >>= _) _ _ _ from t9 ?_;rcases Y with rfl|⟨l1,rfl⟩
 refine D.done _ _ _ (dn D Z.z1 hs₁.extBut L) ?_;rintro p e h ⟨y,f,i⟩;have m:IsZip p z TI TO .ellipsis:=h _ _ P hz₁;have t:e≠z:=λq=>by subst q;rw[m]at f;cases f;simp at i
 exact Pu m (by simp) λr _ d=>H r _ e (λc o u _ G _ q=>d.extBut _ _ u<|h _ _ G<|hs₁.extBut _ _ u q) ⟨y,d.extBut _ _ t f,i⟩;refine D.item k _ _ _ l1 (dn D Z.z1 hs₁.extBut L) λx p M px C h=>u9 ?_;have g:p6 p TO a b:=h.extBut _ _ T<|hs₁.extBut _ _ (D3 O) J;refine t9<|Na g rfl<|t9<|wpAny_updateSeq_pair g λr (hTO₃:p6 r TO x b) d=>t9<|wpAny_letGo<|u9 ?_;refine t9<|t9<|wpAny_onRaise<|show i7 (j2 prog w) A (OG (.ref i2) >>= _) _ _ _ from t9 ?_;refine v.done _ _ _ (dn v Z.o2 d.extBut<|dn v Z.x2 h.extBut<|dn v Z.z2 hs₁.extBut U) ?_;rintro B e j ⟨y,f,i⟩;have n:IsZip B z TI TO .ellipsis:=j _ _ R<|d.extBut _ _ O<|h.extBut _ _ P hz₁;have t:e≠z:=λq=>by subst q;rw[n]at f;cases f;simp at i
 exact Pu n (by simp) λh₅ _ l=>H h₅ _ e (λc o u K G N q=>l.extBut _ _ u<|j _ _ N<|d.extBut _ _ K<|h.extBut _ _ G<|hs₁.extBut _ _ u q) ⟨y,l.extBut _ _ t f,i⟩
end
section
variable{X:Cx}{pins:List (d7×d8)}{σ:St}{H:Hp}{s:g8}{h':d9}
theorem u6.turnedL{t':Nat}{fp:List d7}(I:u6 X pins σ H s)(h:∀b∈fp,sZ X pins H b)(k:∀b o,b∉fp->s.heap.get? b=a7 o->h'.get? b=a7 o):u6 X pins σ H { s with heap:=h',toks:=t' }:=by
 have p:∀b u,H b=a7 u->b∉fp:=λb u e z=>by rw[(h b z).1]at e;cases e
 refine I.step (g':=s.gens) (d':=s.drawn) (ch:=fp) (λb d=>⟨(h b d).2.2.2.1,(h b d).2.1,(h b d).2.2.2.2.1,(h b d).2.2.2.2.2⟩) (λb o _ _ f e _=>k b o f e) (λb o _ _ f e _=>⟨o.slots,k b o f e⟩) (λ_ _ _ _ n=>n) (λb o f e=>⟨o,k b o f e⟩) (λ_ _ e=>e) (λ_ _ _ e=>e) (λb ps e=>⟨#[],by rw[e];simp⟩) (λm a=>?_) (λb u e=>?_) I.bare;obtain⟨o,es,i,B,r⟩:=a;exact⟨o,es,i,k _ o (λz=>(h _ z).2.1 rfl) B,r⟩;refine(I.hok b u e).stay (λc v f q=>k c v ?_ q) (λ_ q=>q) λ_ _ q=>q;rcases f with rfl|z;exact p _ u e;exact p _ _ z
theorem u6.turnedT{t':Nat}{fp:List d7}{T:d7}{o:HO}(I:u6 X pins σ H s)(h:∀b∈fp,sZ X pins H b)(k:∀b o,b∉fp->s.heap.get? b=a7 o->h'.get? b=a7 o)(j:s.heap.objs.size<=T)(i:bX X.prog X.w (A0 H T o) h' T o):u6 X pins σ (A0 H T o) { s with heap:=h',toks:=t' }:=by
 have a:H T=a8:=I.hok.fresh j;have g:∀b u,s.heap.get? b=a7 u->b≠T:=λb u e=>D6<|K6 (C2 e) j;have p:∀b u,H b=a7 u->b∉fp:=λb u e z=>by rw[(h b z).1]at e;cases e
 refine I.step (g':=s.gens) (d':=s.drawn) (ch:=fp) (λb d=>⟨(h b d).2.2.2.1,(h b d).2.1,(h b d).2.2.2.2.1,(h b d).2.2.2.2.2⟩) (λb o _ _ f e _=>k b o f e) (λb o _ _ f e _=>⟨o.slots,k b o f e⟩) (λb u _ e n=>by rw[az<|g b u e];exact n) (λb o f e=>⟨o,k b o f e⟩) (λb xs q=>by rw[az<|ag q a];exact q) (λb u xs q=>by rw[az<|ag q a];exact q) (λb ps q=>⟨#[],by rw[az<|ag q a,q];simp⟩) (λm t=>?_) (λb u e=>?_) I.bare;obtain⟨o,es,l,B,r⟩:=t;exact⟨o,es,l,k _ o (λz=>(h _ z).2.1 rfl) B,r⟩;by_cases d:b=T;subst d;rw[bi]at e;cases e;exact i;rw[az d]at e;refine(I.hok b u e).stay (λc v f q=>k c v ?_ q) (λc q=>by rw[az<|ag q a];exact q) λc xs q=>by rw[az<|ag q a];exact q
 rcases f with rfl|z;exact p _ u e;exact p _ _ z
def Sq(t:Bool)(K:v9)(H:Hp)(a:d7)(xs:List V):Prop:=if t=a9 then E2 K H a xs else J1 K H a xs
def NG(t:Bool)(h:d9)(i l:d7)(k:Nat):Prop:=if t=a9 then h.IsTupleIter i l k else h.IsListIter i l k
def No(t:Bool)(h:d9)(l:d7)(xs:Array b9):Prop:=if t=a9 then h.IsTuple l xs else h.IsList l xs
theorem NG.at(x:NG t h i l k)(e:∀o,h.get? i=a7 o->h'.get? i=a7 o):NG t h' i l k:=by
 cases t with
 |true=>exact(show h.IsTupleIter i l k from x).at e
 |false=>exact(show h.IsListIter i l k from x).at e
theorem NG.obj(x:NG t h i l k):∃o,h.get? i=a7 o/\∀v,o.data≠.cell v:=by
 cases t with
 |true =>
  obtain⟨o,e,c,d⟩:=(show h.IsTupleIter i l k from x)
  exact⟨o,e,λv z=>by rw[d]at z;cases z⟩
 |false =>
  obtain⟨o,e,c,d⟩:=(show h.IsListIter i l k from x)
  exact⟨o,e,λv z=>by rw[d]at z;cases z⟩
theorem Sq.is(I:u6 X pins σ H s)(h:Sq t X.K H a xs):∃its,ax xs its/\No t s.heap a its.toArray/\xs.length<=sizeLine:=by
 cases t with
 |true=>exact I.tuple<|show E2 X.K H a xs from h
 |false=>obtain⟨its,f,p,b⟩:=I.list<|show J1 X.K H a xs from h;exact⟨its,f,p.isList,b⟩
theorem Sq.inj(I:u6 X pins σ H s)(h:Sq t X.K H a xs)(h':Sq t X.K H a ys):xs=ys:=by
 cases t with
 |true=>exact I.tuple_inj h h'
 |false=>exact I.list_inj h h'
theorem Sq.ne(I:u6 X pins σ H s)(h:Sq t X.K H a xs)(f:sZ X pins H b):a≠b:=by
 have c:∀o,X.K.lookup a=a7 o->a≠b:=λo k=>by have d:=I.mod.kin a o k;rcases f.2.2.2.1 with z|z;intro q;subst q;exact I.ok.noex a o d z;exact D6<|K6 (C2 d)<|MF I.ok.bsz z
 cases t with
 |true =>
  rcases(show E2 X.K H a xs from h)with(h|⟨_,h⟩)|⟨o,its,n,k,_⟩
  exact ag h f.1;exact ag h f.1;exact c o k
 |false =>
  rcases(show J1 X.K H a xs from h)with(h|⟨_,h⟩)|⟨o,its,n,k,_⟩
  exact ag h f.1;exact ag h f.1;exact c o k
theorem iE(a:A.handled=a8)(t:Bool)(it l:d7)(b:l≠it)(s:Array b9):Draws prog w A it [it,l] s.size (λi v=>s[i]?=a7 v) (λi h=>NG t h it l i/\No t h l s):=by
 cases t with
 |true=>exact uY a it l b s
 |false=>exact Draws.list a it l b s
noncomputable def R0(K:v9)(D E:Bool)(b c:d7):It:=⟨λi H=>∃xs ys x y,Sq D K H b xs/\Sq E K H c ys/\xs[i]?=a7 x/\ys[i]?=a7 y,λi H v H'=>∃T x y,v=.ref T/\H T=a8/\H'=A0 H T (.tup [x,y])/\(∀xs,Sq D K H b xs->xs[i]?=a7 x)/\∀ys,Sq E K H c ys->ys[i]?=a7 y,λi H=>∃xs ys,Sq D K H b xs/\Sq E K H c ys/\(i=xs.length\/(i<xs.length/\i=ys.length))⟩
def RX(D E:Bool)(z TI TO c d l e:d7)(i:Nat)(h:d9):Prop:=IsZip h z TI TO .none/\p6 h TI (.ref c) (.ref d)/\(∃a b,p6 h TO a b)/\NG D h c l i/\NG E h d e i
theorem Cs{P:d6}{w:d5}{K:v9}{Y:List i9}{x1:Nat}{bs:Pos}{t1 t2:Bool}{z TI TO j l M G:d7}(nd:[z,TI,TO,j,l].Nodup):Turn P w K (.Tuple Y x1 bs) (R0 K t1 t2 M G) [z,TI,TO,j,l] z (RX t1 t2 z TI TO j l M G) where
 mem:=C7
 obj:=λi h ⟨u,g,⟨a,b,J⟩,h1,h2⟩ c d=>by simp only[A5,MV,or_false]at d;rcases d with rfl|rfl|rfl|rfl|rfl;exact⟨_,u,λv q=>nomatch q⟩;exact⟨_,g,λv q=>nomatch q⟩;exact⟨_,J,λv q=>nomatch q⟩;exact h1.obj;exact h2.obj
 keep:=λi h h' ⟨u,g,⟨a,b,J⟩,h1,h2⟩ k=>⟨k z (by simp) _ u,k TI (by simp) _ g,⟨a,b,k TO (by simp) _ J⟩,h1.at λo e=>k j (by simp) o e,h2.at λo e=>k l (by simp) o e⟩
 item:=by
  rintro X hP hw hK d i ap s σ H E I U ⟨u,g,⟨a,b,J⟩,h1,h2⟩ ⟨xs,ys,x,y,n,p,hx,hy⟩;subst hP hw hK;obtain⟨us,ru,iu,bk⟩:=n.is I;obtain⟨vs,rv,iv,bl⟩:=p.is I;have lu:=ru.length;have lv:=rv.length;have f:=U;have C:=nd;simp only[MR,A5,MV,or_false,not_or]at C;obtain⟨⟨Q,as,L,R⟩,⟨S,V,W⟩,⟨r,t⟩,B,_⟩:=C;have a1:M≠j:=n.ne I (f j<|by simp);have a2:G≠l:=p.ne I (f l<|by simp);have Z:ZA z TI TO j l [j,M] [l,G]:=⟨nd,by simp[L,D3<|n.ne I<|f z<|by simp],by simp[r,D3<|n.ne I<|f TO<|by simp],by simp[D3 B,D3<|n.ne I<|f l<|by simp],by simp[R,D3<|p.ne I<|f z<|by simp],by simp[t,D3<|p.ne I<|f TO<|by simp],by simp[B,D3<|p.ne I<|f j<|by simp]⟩
  have ix:i<us.length:=by have:=(A3.mp hx).1;lia
  have iy:i<vs.length:=by have:=(A3.mp hy).1;lia
  have hT:s.TypeIs (.ref z) "zip":=⟨_,u,rfl⟩
  unfold k8;refine t9<|NX<|MY (name:=AA1 "__next__") hT F.slot_zip_next<|J2 F.slot_zip_next hT F.entry_zip_next ?_<|F.args_zip_next_1<|.ref z;refine Cg (k:=i) (iE (show X.A.in1.handled=a8 from I.ok.hd d) t1 j M a1 us.toArray) (iE (show X.A.in1.handled=a8 from I.ok.hd d) t2 l G a2 vs.toArray) Z u g J ⟨h1,iu⟩ ⟨h2,iv⟩ (by simpa using ix) (by simpa using iy) λh' tk px py T aj an D bd ab s1 s2 hp hk=>u9 ⟨_,rfl,?_⟩;refine wpAny_letOwnedTupleGo_zip bd λh2 be m=>?_;have ce:T≠z:=λq=>by subst q;exact r9 (C2 u)<|Nat.not_lt_of_le D
  obtain⟨N,aD,bS⟩:=ru.get hx;obtain⟨O,aS,cd⟩:=rv.get hy;have e1:N=px:=by rw[RN,aD]at aj;exact F3 aj
  have e2:O=py:=by rw[RN,aS]at an;exact F3 an
  subst e1 e2;have ba:p6 h2 T N O:=m.extBut _ _ ce hp;refine⟨.ref T,A0 H T<|.tup [x,y],?_,rfl,⟨T,x,y,rfl,I.hok.fresh D,rfl,λzs hq=>by rw[hq.inj I n];exact hx,λzs hq=>by rw[hq.inj I p];exact hy⟩,⟨be,m.extBut _ _ (D3 Q)<|hk _ _ (D3 Q) S V W g,⟨_,_,m.extBut _ _ (D3 as) ab⟩,s1.1.at λo e=>m.extBut _ _ (D3 L) e,s2.1.at λo e=>m.extBut _ _ (D3 R) e⟩,λc d=>?_⟩;refine I.turnedT (t':=tk) U (λc o d e=>?_) D ⟨by simp[M8],[N,O],.cons bS<|.cons cd .nil,⟨_,ba,rfl,⟨0,rfl⟩,rfl⟩⟩;simp only[A5,MV,or_false,not_or]at d;exact m.extBut _ _ d.1<|hk _ _ d.1 d.2.2.1 d.2.2.2.1 d.2.2.2.2 e;obtain⟨oc,ec⟩:∃o,s.heap.get? c=a7 o:=by simp only[A5,MV,or_false]at d;rcases d with rfl|rfl|rfl|rfl|rfl;exact⟨_,u⟩;exact⟨_,g⟩;exact⟨_,J⟩;obtain⟨o,e,_⟩:=h1.obj;exact⟨o,e⟩;obtain⟨o,e,_⟩:=NG.obj ‹NG t2 s.heap _ G i›;exact⟨o,e⟩
  rw[az<|D6<|K6 (C2 ec) D];exact(U c d).1
 done:=by
  rintro X hP hw hK d i ap s σ H E I U ⟨u,g,⟨a,b,J⟩,h1,h2⟩ ⟨xs,ys,n,p,ai⟩;subst hP hw hK;obtain⟨us,ru,iu,bk⟩:=n.is I;obtain⟨vs,rv,iv,bl⟩:=p.is I;have lu:=ru.length;have lv:=rv.length;have f:=U;have C:=nd;simp only[MR,A5,MV,or_false,not_or]at C;obtain⟨⟨Q,as,L,R⟩,⟨S,V,W⟩,⟨r,t⟩,B,_⟩:=C;have a1:M≠j:=n.ne I (f j<|by simp);have a2:G≠l:=p.ne I (f l<|by simp);have Z:ZA z TI TO j l [j,M] [l,G]:=⟨nd,by simp[L,D3<|n.ne I<|f z<|by simp],by simp[r,D3<|n.ne I<|f TO<|by simp],by simp[D3 B,D3<|n.ne I<|f l<|by simp],by simp[R,D3<|p.ne I<|f z<|by simp],by simp[t,D3<|p.ne I<|f TO<|by simp],by simp[B,D3<|p.ne I<|f j<|by simp]⟩
  have hT:s.TypeIs (.ref z) "zip":=⟨_,u,rfl⟩
  unfold k8;refine t9<|NX<|MY (name:=AA1 "__next__") hT F.slot_zip_next<|J2 F.slot_zip_next hT F.entry_zip_next ?_<|F.args_zip_next_1<|.ref z;refine Ci (k:=i) (iE (show X.A.in1.handled=a8 from I.ok.hd d) t1 j M a1 us.toArray) (iE (show X.A.in1.handled=a8 from I.ok.hd d) t2 l G a2 vs.toArray) Z u g J ⟨h1,iu⟩ ⟨h2,iv⟩ ?_ λh' tk e hk ⟨o,ho,aT⟩=>?_;rw[C9,C9,<-lu,<-lv];exact ai;refine t9<|Oz (T:="StopIteration") (b:=a9) ⟨o,ho,aT⟩ P6<|u9 ⟨rfl,?_⟩;refine I.turnedL (t':=tk) U λc o d e=>?_;simp only[A5,MV,or_false,not_or]at d;exact hk _ _ d.1 d.2.2.1 d.2.2.2.1 d.2.2.2.2 e
 self:=λ_ _ _ _ _ st h=>wpAny_pyIter_zip st.1 h
end
noncomputable abbrev PF(t:Bool)(l:d7):d8:={ cls:=.type<|if t=a9 then "tuple_iterator" else "list_iterator",data:=.fields #[.ref l,.int 0 0] }
theorem wy(h:No t s.heap l xs)(q:Q (.ref s.heap.objs.size) { s with heap:=s.heap.push (PF t l) }):i7 (j2 prog w) A (l6<|.ref l) Q E s:=by
 cases t with
 |true=>exact wpAny_pyIter_tuple (show s.heap.IsTuple l xs from h) q
 |false=>exact Rb (show s.heap.IsList l xs from h) q
noncomputable abbrev QE(h:d9)(t1:Bool)(l1:d7):d9:=h.push<|PF t1 l1
noncomputable abbrev QD(h:d9)(t1 t2:Bool)(l1 l2:d7):d9:=(QE h t1 l1).push<|PF t2 l2
noncomputable abbrev QC(h:d9)(t1 t2:Bool)(l1 l2:d7):d9:=(QD h t1 t2 l1 l2).push { cls:=.type "tuple",data:=.seq #[.ref h.objs.size,.ref (QE h t1 l1).objs.size] }
noncomputable abbrev QB(h:d9)(t1 t2:Bool)(l1 l2:d7):d9:=(QC h t1 t2 l1 l2).push { cls:=.type "tuple",data:=.seq #[.none,.none] }
noncomputable abbrev O8(h:d9)(t1 t2:Bool)(l1 l2:d7):d9:=(QB h t1 t2 l1 l2).push { cls:=.type "zip",data:=.fields #[.none,.bool b7,.bool b7,.ref (QD h t1 t2 l1 l2).objs.size,.ref (QC h t1 t2 l1 l2).objs.size] }
theorem No.push(x:No t h l xs)(o:d8):No t (h.push o) l xs:=by
 cases t with
 |true=>obtain⟨u,e,r⟩:=(show h.IsTuple l xs from x);exact(show (h.push o).IsTuple l xs from⟨u,A9 _ e,r⟩)
 |false=>obtain⟨u,e,r⟩:=(show h.IsList l xs from x);exact(show (h.push o).IsList l xs from⟨u,A9 _ e,r⟩)
theorem Ch(D E:Bool)(b c:d7)(xs ys:Array b9):Meets (Builtin.«zip.__new__» ⟨[.type "zip",.ref b,.ref c],[]⟩) (λ_ R s=>No D s.heap b xs/\No E s.heap c ys/\R (.ok<|.ret<|.ref (QB s.heap D E b c).objs.size) { s with heap:=O8 s.heap D E b c }):=.of_wp λi w A R s h=>by
  obtain⟨p,g,d,q,o⟩:=s;obtain⟨a,f,h⟩:=h;have e:=sub_zip;have r:No D (Shared.heap ⟨p,g,d,q,o⟩) b xs:=a;have m:No E (Shared.heap ⟨p.push<|PF D b,g,d,q,o⟩) c ys:=f.push _
  wp_walk using wy r,wy m
  exact⟨_,rfl,h⟩
theorem BO(h1:No t1 s.heap l1 xs)(h2:No t2 s.heap l2 ys)(h:∀h',RX t1 t2 (s.heap.objs.size+4) (s.heap.objs.size+2) (s.heap.objs.size+3) s.heap.objs.size (s.heap.objs.size+1) l1 l2 0 h'->(∀c o,s.heap.get? c=a7 o->h'.get? c=a7 o)->Q (.ref<|s.heap.objs.size+4) { s with heap:=h' }):i7 (j2 prog w) A (call (.type "zip") [.ref l1,.ref l2]) Q E s:=by
 refine callType_new F.called_zip (by decide) (F.typeCall_zip_2 _ _) (F.newCall_zip_2 _ _) (λj=>F.args_object_init_3 j _ _) F.entry_zip_new (Ch t1 t2 l1 l2 xs ys) ⟨h1,h2,?_⟩;have z:(QE s.heap t1 l1).objs.size=s.heap.objs.size+1:=MH ..;have y:(QD s.heap t1 t2 l1 l2).objs.size=s.heap.objs.size+2:=by rw[MH,z]
 have b:(QC s.heap t1 t2 l1 l2).objs.size=s.heap.objs.size+3:=by rw[MH,y]
 have k:(QB s.heap t1 t2 l1 l2).objs.size=s.heap.objs.size+4:=by rw[MH,b]
 have p:∀{h:d9}{c:d7}{o:d8} (u:d8),h.get? c=a7 o->(h.push u).get? c=a7 o:=λu e=>A9 _ e;have g:(O8 s.heap t1 t2 l1 l2).get? (QB s.heap t1 t2 l1 l2).objs.size=a7 _:=E1 _ rfl;have d:(O8 s.heap t1 t2 l1 l2).get? (QC s.heap t1 t2 l1 l2).objs.size=a7 _:=p _<|E1 _ rfl;have g3:(O8 s.heap t1 t2 l1 l2).get? (QD s.heap t1 t2 l1 l2).objs.size=a7 _:=p _<|p _<|E1 _ rfl;have i:(O8 s.heap t1 t2 l1 l2).get? (QE s.heap t1 l1).objs.size=a7 _:=p _<|p _<|p _<|E1 _ rfl;have g1:(O8 s.heap t1 t2 l1 l2).get? s.heap.objs.size=a7 _:=p _<|p _<|p _<|p _<|E1 _ rfl;have f:∀(t:Bool) (h:d9) (a l:d7),h.get? a=a7 (PF t l)->NG t h a l 0:=λt h a l e=>by cases t<;>exact⟨_,e,rfl,rfl⟩
 show _/\_;rw[y,b,k]at g;rw[z,y]at g3;rw[b]at d;rw[z]at i;rw[k];exact⟨⟨_,g,rfl⟩,h _ ⟨g,g3,⟨_,_,d⟩,f _ _ _ _ g1,f _ _ _ _ i⟩ λc o q=>p _<|p _<|p _<|p _<|p _ q⟩
noncomputable def yo(xs ys:List D):List D:=(xs.zip ys).map λp=>.tup [p.1,p.2]
def Ca(M:u8)(x:D)(xs:List D)(ok:u8->Prop):Prop:=match x with
 |.tup ds=>xs=ds/\ok=λ_=>True
 |.ref n=>ao M n xs/\ok=λM=>ao M n xs
 |_=>False
def dZip(t:K2):Nr:=λS M R=>t S M λds a=>match ds with
 | [x,y]=>∃xs ys o1 o2,Ca a x xs o1/\Ca a y ys o2/\R ⟨yo xs ys,λM=>o1 M/\o2 M⟩ a
 |_=>False
theorem EB:f8 "zip" = a7 (.type "zip"):=by decide +kernel
theorem Ca.sq{X:Cx}(m:x8 X.K ρ M H)(h:Ca M x xs ok)(r:w5 X.K ρ H x v)(e:aQ v u):∃(t:Bool) (l:d7),u=.ref l/\ok M/\∀ρ' M' H',x8 X.K ρ' M' H'->Grow X.K ρ H ρ' H'->ok M'->∃vs,Sq t X.K H' l vs/\Reps X.K ρ' H' xs vs:=by
 unfold Ca at h;split at h;obtain⟨rfl,rfl⟩:=h;obtain⟨a,vs,rfl,q,r⟩:=w5.inv_tup r;cases e;exact⟨a9,a,rfl,trivial,λρ' M' H' s g _=>⟨vs,g.tup a vs q,r.grow g⟩⟩;obtain⟨h,rfl⟩:=h;cases r with
 |@ref n a f=>cases e;exact⟨b7,a,rfl,h,λρ' M' H' s g ok=>ao.seq s ok<|aO g.pre f⟩
 exact h.elim
theorem L9.zip{ρ:List d7}{H:Hp}{xs ys:List D}{o1 o2:u8->Prop}{t E:Bool}{l h:d7}{K:v9}(h1:∀ρ' M' H',x8 K ρ' M' H'->Grow K ρ H ρ' H'->o1 M'->∃vs,Sq t K H' l vs/\Reps K ρ' H' xs vs) (h2:∀ρ' M' H',x8 K ρ' M' H'->Grow K ρ H ρ' H'->o2 M'->∃vs,Sq E K H' h vs/\Reps K ρ' H' ys vs):L9 K ⟨yo xs ys,λM=>o1 M/\o2 M⟩ ρ H (R0 K t E l h) where
 go:=λi ρ' M' H' m g ok hi=>by
  obtain⟨vs,c,r⟩:=h1 ρ' M' H' m g ok.1;obtain⟨ws,j,f⟩:=h2 ρ' M' H' m g ok.2;have v:i<xs.length/\i<ys.length:=by simpa [yo,Nat.lt_min]using hi
  have k:=r.length;have o:=f.length;exact⟨vs,ws,_,_,c,j,C4 (by lia),C4<|by lia⟩
 yld:=λi ρ' M' H' x A m g ok hi y=>by obtain⟨vs,c,r⟩:=h1 ρ' M' H' m g ok.1;obtain⟨ws,j,f⟩:=h2 ρ' M' H' m g ok.2;obtain⟨T,a,b,rfl,n,rfl,p,q⟩:=y;obtain⟨d,s,w⟩:=r.getV<|p vs c;obtain⟨e,u,z⟩:=f.getV<|q ws j;refine⟨.tup [d,e],ρ',?_,m.laid n,Grow.laid n,.tup (E2.of bi)<|.cons (w.grow<|Grow.laid n)<|.cons (z.grow<|Grow.laid n) .nil⟩;show (yo xs ys)[i]?=_;have:(xs.zip ys)[i]?=a7 (d,e):=List.getElem?_zip_eq_some.mpr ⟨s,u⟩;rw[yo,G2,this];rfl
 stop:=λρ' M' H' m g ok=>by obtain⟨vs,c,r⟩:=h1 ρ' M' H' m g ok.1;obtain⟨ws,j,f⟩:=h2 ρ' M' H' m g ok.2;have k:=r.length;have o:=f.length;refine⟨vs,ws,c,j,?_⟩;show (yo xs ys).length=_\/_;rw[yo,x6,List.length_zip];lia
theorem LV(F:X.mg "zip" = a8)(D:DA X [a,b] ta)(E:Gl X "zip":=by rfl)(hs:j6 [a,b] X.env=[(b7,eval a X.env),(b7,eval b X.env)]:=by rfl)(i:j6 [b] X.env=[(b7,eval b X.env)]:=by rfl):DI X (.Tuple elts x1 q) (.Call (.Name "zip" p) [a,b] [] pos) (dZip ta):=by
 intro l s σ H R I h;obtain⟨S,M,ρ,Q,Z,sr,G,k⟩:=h;refine Call_ (fv I E F EB<|Qz (z6 (D pos l s σ H _ I ⟨S,M,ρ,_,Z,sr,G,λv H' w=>w⟩) ?_) (by rw[hs,i])<|by rw[i];rfl);rintro us d ⟨vs,m,g,r,ds,o,e,j,g1,f,n⟩
 try dsimp only at n
 split at n;obtain⟨xs,ys,o1,o2,w1,w2,V⟩:=n
 first|have z:=Reps.inv_cons f|have z:=ax.inv_cons f
 clear f;obtain⟨_,_,rfl,B,f⟩:=z
 first|have z:=Reps.inv_cons f|have z:=ax.inv_cons f
 clear f;obtain⟨_,_,rfl,C,f⟩:=z;cases f
 first|have z:=Reps.inv_cons r|have z:=ax.inv_cons r
 clear r;obtain⟨_,_,rfl,y,r⟩:=z
 first|have z:=Reps.inv_cons r|have z:=ax.inv_cons r
 clear r;obtain⟨_,_,rfl,A,r⟩:=z;cases r;obtain⟨t1,l1,rfl,L,t⟩:=w1.sq j B y;obtain⟨t2,l2,rfl,P,N⟩:=w2.sq j C A;obtain⟨as,W,_⟩:=t e o m j .refl L;obtain⟨bs,Y,_⟩:=N e o m j .refl P;obtain⟨is,_,J,_⟩:=W.is g;obtain⟨js,_,K,_⟩:=Y.is g;refine BO J K λh' x T=>?_;refine wpAny_pyIter_zip x.1 ?_;have U:[d.heap.objs.size+4,d.heap.objs.size+2,d.heap.objs.size+3,d.heap.objs.size,d.heap.objs.size+1].Nodup:=by simp
 refine⟨d.heap.objs.size+4,_,_,_,m,rfl,g.kept (t':=d.toks) T,Cs U,x,λc u=>?_,k _ m ⟨_,o,e,j,g1,L9.zip t N,V⟩⟩;have O:d.heap.objs.size<=c:=by simp only[A5,MV,or_false]at u;rcases u with rfl|rfl|rfl|rfl|rfl<;>first|exact Q7 _ _|exact z5 _
 exact g.fpOk O<|g.hok.fresh O;exact n.elim
theorem rN{K:v9}{ρ:List d7}{H:Hp}:∀xs:List c9,Reps K ρ H (xs.map D.str) (xs.map V.str)
 | []=>.nil
 |x::xs=>.cons (.str x)<|rN xs
theorem uw{D:d7}{vs:List b9}{n:Nat}{Q:b9->g8->Prop}(B:s.heap.get? D=a7 (p4 "list" vs.toArray n))(h2:vs.length<2)(h:∀h' c,(∀b o,b≠D->s.heap.get? b=a7 o->h'.get? b=a7 o)->h'.get? D=a7 (p4 "list" vs.toArray c)->Q .none { s with heap:=h' }):i7 (j2 prog w) A (call (.builtin "list.sort") [.ref D]) Q E s:=by
 have f:vs.length<=sizeLine:=by rw[M8];lia
 refine J2 slot_list_sort (⟨_,B,rfl⟩) entry_list_sort ?_<|args_list_sort<|.ref D;rw[list_sort_plain];refine t9<|listItems_at B rfl<|t9<|listUpdate_at B rfl ?_ (by rw[C9];exact f)<|D4 _;obtain⟨k,e⟩:∃k,(s.heap.update D<|MM λ_=>(#[]:Array b9)).get? D=a7 (p4 "list" #[] k):=⟨_,Q0 B λ_=>#[]⟩
 refine t9<|seqEpoch_at e rfl<|t9<|wpAny_newTuple (t9<|wpAny_newList (K8 ?_)<|D4 _) f;dsimp only;have g:vs.toArray.size<2:=by rw[C9];exact h2
 rw[p9 g,p9 g];refine t9<|u9 ?_;rw[StateT.run_pure];refine t9<|u9 ?_;dsimp only;generalize d:((s.heap.update D<|MM λ_=>(#[]:Array b9)).push<|p4 "tuple" vs.toArray 0).push (p4 "list" #[] 0)=g3;have a:g3.get? D=a7 (p4 "list" #[] k):=by rw[<-d];exact A9 _<|A9 _ e
 have m:∀b o,b≠D->s.heap.get? b=a7 o->g3.get? b=a7 o:=λb o i q=>by rw[<-d];refine A9 _<|A9 _ ?_;rw[Qs _ _ _ _ i];exact q
 refine t9<|seqEpoch_at a rfl ?_;have r:∀us:List b9,us.length<2->(us.toArray.zip us.toArray).map (·.2)=us.toArray:=λus hu=>by
  match us,hu with
  | [],_=>simp
  | [v],_=>simp
  |_::_::_,hu=>simp at hu;lia
 have t:(arrOf<|SortSt.mk' general' (vs.toArray.zip vs.toArray) #[] 7 a8).map (·.2)=vs.toArray:=r vs h2;rw[t];refine t9 (listUpdate_at a rfl ?_ (D4 _)<|by rw[C9];exact Nat.le_succ_of_le f);simp only[show failedOf (SortSt.mk' general' (vs.toArray.zip vs.toArray) #[] 7 a8)=a8 from rfl,bne_self_eq_false,E3,t5];obtain⟨j,l⟩:∃j,(g3.update D<|MM λ_=>vs.toArray).get? D=a7 (p4 "list" vs.toArray j):=⟨_,Q0 a λ_=>vs.toArray⟩
 refine u9 ⟨_,rfl,h _ j (λb o i q=>?_) l⟩;rw[Qs _ _ _ _ i];exact m b o i q
theorem tW{k:Nat}{D:d7}{xs:List L2.D}{ws:List V}{its:List b9}{R:VK}{h1:d9}{tk n:Nat}{m:c9->Option b9}{A:f9}{E:b9->g8->Prop}(hr:Room k X.A)(hA:A.units<=X.A.units+4)(I:u6 X pins σ H s)(Z:x8 X.K ρ M H)(so:SrtG M xs)(r:Reps X.K ρ H xs ws)(O:ax ws its)(S:s.heap.Ns X.env.locals m) (L:h1.Ns X.env.locals m) (l:∀b u,b≠X.env.locals->s.heap.get? b=a7 u->h1.get? b=a7 u) (J:s.heap.get? D=a8) (F:D≠X.env.locals) (ho:h1.get? D=a7 (p4 "list" its.toArray n))(kk:∀v H',((∀Q:DK,(∀ys,ys.Perm xs->yi M ys->Q (.ref M.length) (M++[.lst ys]))->VQ X.K ρ H Q v H'))->R v H'):i7 (j2 X.prog X.w) A (call (.builtin "list.sort") [.ref D]) (λ_ s'=>EP X pins σ R (.ref D) s') E { s with heap:=h1,toks:=tk }:=by
 have lw:=r.length;have li:=O.length;have ab:=so.len;have N:H D=a8:=E8.none I.hok J;have y:∀b u,s.heap.get? b=a7 u->b≠D:=λb u e q=>by subst q;rw[J]at e;cases e
 by_cases h2:its.length<2;refine uw ho h2 λh' c G W=>?_;have T:h'.Ns X.env.locals m:=by obtain⟨o,es,ep,e,aX⟩:=L;exact⟨o,es,ep,G _ _ (D3 F) e,aX⟩
 refine⟨.ref D,_,I.laidF (t':=tk) (o:=.lst ws) (λb u g e=>G b u (y b u e)<|l b u g e) S T J N ⟨by rw[M8];lia,its,c,O,W⟩,rfl,kk _ _ λQ P=>VQ.laidL Z .refl r N<|P xs (Pm _) ?_⟩;unfold yi
 match xs,(show xs.length<2 by lia) with
 | [],_=>exact Re
 | [x],_=>exact Qx _ _
 |_::_::_,hx=>simp at hx;lia
 have z:2<=its.length:=by lia
 have d:∀a o,(a,o)∈Att.ledger h1 X.env.locals D↔a≠X.env.locals/\a≠D/\h1.get? a=a7 o:=λa o=>Att.mem_ledger;have U:UpdF D (p4 "list" its.toArray n) ([]++(D,p4 "list" its.toArray n)::Att.ledger h1 X.env.locals D) λo'=>(D,o')::Att.ledger h1 X.env.locals D:=UpdF.head λp hp=>((d p.1 p.2).mp hp).2.1;refine kat_lsort (s:={ s with heap:=h1,toks:=tk }) (vs:=its) (Att.fr_all L) (Att.news_ledger F ho) U rfl z (by lia) λe1 h' F' N'=>?_;have kp:∀b u,b≠X.env.locals->s.heap.get? b=a7 u->h'.get? b=a7 u:=λb u g e=>(N' (b,u)<|C0 _<|(d b u).mpr ⟨g,y b u e,l b u g e⟩).1;have I':u6 X pins σ H { s with heap:=h',toks:=tk }:=I.keptF (t':=tk) kp S F'.ns;have hu:A.in1.units+v6<m9:=by have:=hr.un;have:v6=30:=rfl;show A.units+1+v6<m9;lia
 refine L6 (rE I' Z so r O z hu) (λκ s' hk=>?_) λ_ _ x=>x;obtain⟨rfl,B⟩:=hk;refine Srt.wp_run (n:=its.length) (c:=λi j=>if i<xs.length then(if j<xs.length then z7 M v6 (xs.getD i default) (xs.getD j default)else a9)else b7) (λi j C hi hj hc=>?_) _ (Srt.sort_bd<|by lia).1 ?_;refine B i j C hi hj ?_;rw[p9 (by lia),p9<|by lia]at hc;exact hc;have t:=Srt.All.run (c:=λi j=>if i<xs.length then(if j<xs.length then z7 M v6 (xs.getD i default) (xs.getD j default)else a9)else b7) _ (Srt.sort_bd (n:=its.length)<|by lia).2;obtain⟨o1,o2,o3⟩:=Kb so;have f:=Srt.sort_list xs (by lia) o1 o2 o3
 try dsimp only at f
 rw[show xs.length=its.length by lia]at f t ⊢;generalize Srt.run _ (N8 its.length)=p at t f ⊢;have hi:∀i∈p.toList,i<xs.length:=λi h=>by have:=t.mem_iff.mp h;rw[I9]at this;lia
 refine KasFin.intro F' N' (UpdF.head λq hq=>((d q.1 q.2).mp hq).2.1) λh2 c F2 N2=>?_;have r':=r.perm p.toList hi;have Y:=O.perm p.toList (λi h=>by have:=hi i h;lia);refine⟨.ref D,_,I.laidF (t':=tk) (o:=.lst<|p.toList.map λi=>ws.getD i .non) (λb u g e=>(N2 (b,u)<|C0 _<|(d b u).mpr ⟨g,y b u e,l b u g e⟩).1) S F2.ns J N ⟨?_,_,c,Y,(N2 _ C7).1⟩,rfl,kk _ _ λQ P=>VQ.laidL Z .refl r' N<|P _ f.1 f.2⟩;rw[x6];have:=f.1.length_eq;rw[x6]at this;rw[M8];lia
section
variable{K:v9}{ρ:List d7}{H:Hp}{M:u8}
theorem x8.writeD(S:x8 K ρ M H)(t:ρ[n]?=a7 a)(b:M[n]?=a7 (.dct kvs))(h:H a=a7 (.dK kv))(r:Reps K ρ H (kvs'.map (·.2)) vs'):x8 K ρ (M.set n<|.dct kvs') (A0 H a (.dK (pe (kvs'.map (·.1)) vs')))/\Grow K ρ H ρ (A0 H a (.dK (pe (kvs'.map (·.1)) vs'))):=S.writeG t (λ⟨_,z⟩=>by rw[b]at z;cases z) h rfl λg=>⟨vs',bi,r.grow g⟩
noncomputable def wj(kvs:List (c9×D))(k:c9)(d:D):List (c9×D):=if (kvs.any λp=>decide<|p.1=k)=a9 then kvs.map (λp=>if p.1=k then(p.1,d)else p)else kvs++[(k,d)]
theorem Ho(a b:c9):decide ((ACE a:D9)=ACE b)=decide (a=b):=Fa a b
theorem wH:∀{kvs:List (c9×D)}{vs:List V},Reps K ρ H (kvs.map (·.2)) vs->((pe (kvs.map (·.1)) vs).any λkv=>decide<|kv.1=ACE k)=kvs.any λp=>decide (p.1=k)
 | [],_,_=>rfl
 |(k',d')::kvs,_,.cons h t=>by
  have ih:=wH (k:=k) t;show (decide ((ACE k':D9)=ACE k)||(pe (kvs.map (·.1)) _).any _)=(decide (k'=k)||kvs.any _)
  rw[ih,Ho]
theorem wv(hd:w5 K ρ H d v):∀{kvs:List (c9×D)}{vs:List V},Reps K ρ H (kvs.map (·.2)) vs->∃vs',(pe (kvs.map (·.1)) vs).map (λkv=>if kv.1=ACE k then(kv.1,v)else kv)=pe ((kvs.map λp=>if p.1=k then(p.1,d)else p).map (·.1)) vs'/\Reps K ρ H ((kvs.map λp=>if p.1=k then(p.1,d)else p).map (·.2)) vs'
 | [],_,.nil=>⟨[],rfl,.nil⟩
 |(k',d')::kvs,_,.cons (v:=v') h t=>by obtain⟨vs',e,r⟩:=wv (k:=k) hd t;by_cases q:k'=k;subst q;refine⟨v::vs',?_,?_⟩;simp only[B9,t6,pe,Ol]at e ⊢;rw[e];simp only[B9,t6];exact .cons hd r;have q':¬(ACE k':D9)=ACE k:=λz=>q<|Sum.inr.inj z;refine⟨v'::vs',?_,?_⟩;simp only[B9,q9 q,q9 q',pe,Ol]at e ⊢;rw[e];simp only[B9,q9 q];exact .cons h r
theorem rF:∀{kvs:List (c9×D)}{vs:List V},Reps K ρ H (kvs.map (·.2)) vs->pe (kvs.map (·.1)) vs++[(ACE k,v)]=pe (kvs.map (·.1)++[k]) (vs++[v])
 | [],_,.nil=>rfl
 |(k',d')::kvs,_,.cons h t=>by have:=rF (k:=k) (v:=v) t;simp only[B9,pe,Ol,Oy]at this ⊢;rw[this]
theorem FS(h:w5 K ρ H d v)(r:Reps K ρ H (kvs.map (·.2)) vs):∃vs',tp (pe (kvs.map (·.1)) vs) (ACE k) v=pe ((wj kvs k d).map (·.1)) vs'/\Reps K ρ H ((wj kvs k d).map (·.2)) vs':=by unfold tp wj;rw[wH r];by_cases q:(kvs.any λp=>decide<|p.1=k)=a9;rw[p9 q,p9 q];exact wv h r;rw[q9 q,q9 q];refine⟨vs++[v],?_,?_⟩;rw[rF r,MI];rfl;rw[MI];exact r.append<|.cons h .nil
end
def xZ(t d f:A2):u7:=λE S M=>f S M λv b=>t S b λx c=>d S c λy a=>match x,y with
 |.ref n,.str k=>∃kvs,a[n]?=a7 (.dct kvs)/\kvs.length<sizeLine/\E.nx S (a.set n<|.dct<|wj kvs k v)
 |_,_=>False
theorem HY{X:Cx}{o i a:i9}{w C B:A2}{b p:Pos}(L:X.A.units+1<m9)(K:DE X o w)(hi:DE X i C)(N:DE X a B)(hs:j9 a (a7<|.Subscript o i p) b.line X.env=pure b7):DS X (.Assign [.Subscript o i p] a b) (xZ w C B):=by
 refine PS.imp (FZ L K hi N hs) ?_;rintro E σ H ⟨S,M,ρ,F,s,r,q,k⟩;refine⟨S,M,ρ,_,s,r,q,?_⟩;rintro v H1 ⟨d,G,h,W,g1,T,P⟩;refine⟨S,G,h,_,W,r.grow g1,P,?_⟩;rintro x H2 ⟨e,I,j,Y,g,U,Q⟩;refine⟨S,I,j,_,Y,(r.grow g1).grow g,Q,?_⟩;rintro y H3 ⟨f,M3,l,z,g3,V,c⟩
 try dsimp only at c
 split at c;obtain⟨kvs,n,hl,R⟩:=c;obtain⟨_,rfl,t⟩:=w5.inv_ref U;cases V;obtain⟨vs,m,u⟩:=z.obj _ _ _ (aO g3.pre t) n;obtain⟨Z,J,O⟩:=FS ((T.grow g).grow g3) u;obtain⟨w1,D⟩:=z.writeD (aO g3.pre t) n m O;refine⟨_,_,rfl,.inl ⟨_,ACE _,m,rfl,?_,by rw[J]⟩,k.nx σ _<|SQ.trans ((g1.trans g).trans g3) ⟨S,_,l,w1,D,(((r.grow g1).grow g).grow g3).grow D,R⟩⟩;have:=u.length;rw[x6]at this;rw[pe,x6,List.length_zip,x6];lia;exact c.elim
def io:E9:=λds M Q=>match ds with
 | [.ref n]=>∃xs,(ao M n xs\/∃kvs,M[n]?=a7 (.dct kvs)/\xs=kvs.map λp=>.str p.1)/\SrtOk M xs/\∀ys,ys.Perm xs->yi M ys->Q (.ref M.length) (M++[.lst ys])
 |_=>False
theorem Ba:∀{kvs:List (c9×D)}{vs:List V}{us:List (D9×b9)},kvs.length=vs.length->KV (pe (kvs.map (·.1)) vs) us->us.map (·.1)=kvs.map (λp=>(ACE p.1:D9))
 | [],_,_,_,h=>by cases h;rfl
 |_::_,[],_,e,_=>by simp at e
 |p::kvs,v::vs,_,e,h=>by
  have h':KV ((ACE p.1,v)::pe (kvs.map (·.1)) vs) _:=h;cases h' with
  |cons a t=>rw[B9,B9,<-a.1,Ba (by simpa using e) t]
theorem qq:∀(ks:List c9) (vs:List b9),vs.length=ks.length->(∀(j:Nat) (v:b9),vs[j]?=a7 v->∃k,ks[j]?=a7 k/\uK (ACE k) v=a9)->ax (ks.map V.str) vs
 | [],[],_,_=>.nil
 | [],_::_,e,_=>by simp at e
 |_::_,[],e,_=>by simp at e
 |k::ks,v::vs,e,h=>by
  obtain⟨k',e1,e2⟩:=h 0 v rfl;have:k=k':=by simpa using e1
  subst this;rcases bf e2 with⟨i,t,z,_⟩|⟨x,t,z,rfl⟩
  cases z;cases z;exact .cons ⟨t,rfl⟩<|qq ks vs (by simpa using e) λj u hj=>by simpa using h (j+1) u (by simpa using hj)
theorem yc{k:Nat}(Z:Room k X.A)(hc:X.calm=a9):iL X (.builtin "sorted") io:=by
 rintro F s σ H vs us R I rv ⟨ds,M,ρ,Q,T,f,q,kk⟩;unfold io at q;split at q;obtain⟨xs,hL|⟨kvs,hM,rfl⟩,U,q⟩:=q;exact BN Z F s σ H vs us R I rv ⟨_,M,ρ,Q,T,f,⟨xs,hL,U.g,q⟩,kk⟩
 first|have y:=Reps.inv_cons f|have y:=ax.inv_cons f
 clear f;obtain⟨_,_,rfl,r1,f⟩:=y;cases f;obtain⟨u,rfl,G⟩:=ax.one rv;obtain⟨a,rfl,e⟩:=w5.inv_ref r1;cases G;obtain⟨ws,W,r⟩:=T.obj _ _ _ e hM;obtain⟨z1,z2,d,O,dd⟩:=(show bX X.prog X.w H s.heap a (.dK _)from I.hok a _ W)
 obtain⟨ep,t⟩:=dd.dictAt;obtain⟨m,Y,hm⟩:=I.loc;have l:a≠X.env.locals:=ag W I.free;obtain⟨oa,_,c,_⟩:=id t;have lk:kvs.length=ws.length:=by have:=r.length;rwa [x6]at this
 have C:=Ba lk O;have lp:d.length=kvs.length:=by have:=t7 Ob C;simpa using this
 have E:∀b o,(b,o)∈[]++(a,oa)::Att.ledger s.heap X.env.locals a↔b≠X.env.locals/\s.heap.get? b=a7 o:=λb o=>by rw[G5,A5,Att.mem_ledger];constructor;rintro(h|⟨h1,_,h3⟩);cases h;exact⟨l,c⟩;exact⟨h1,h3⟩;rintro⟨h1,h2⟩;by_cases z:b=a;subst z;rw[c]at h2;cases h2;exact .inl rfl;exact .inr ⟨h1,z,h2⟩
 refine kdu_sorted (kdl_dict (knd:=bB X.prog X.w) (kvs:=d) (ep:=ep) z2) (I.ok.hd hc) (Att.fr_all Y) (Att.news_ledger l c) t (by rw[lp,M8];have:=U.len;rw[x6]at this;lia) λD h' tk vs F' N lt hl hP=>?_;have kp:∀b u,b≠X.env.locals->s.heap.get? b=a7 u->h'.get? b=a7 u:=λb u hb e=>(N (b,u)<|C0 _<|(E b u).mpr ⟨hb,e⟩).1;have L:D≠X.env.locals:=(N _ C7).2.1;have hD:s.heap.get? D=a8:=by
  cases q:s.heap.get? D with
  |none=>rfl
  |some o=>exact r9 (lt (D,o)<|(E D o).mpr ⟨L,q⟩)<|K9 _
 have S:ax ((kvs.map (·.1)).map V.str) vs:=by
  refine qq _ _ (by rw[x6];lia) λj v hj=>?_;obtain⟨B,x,G,e2⟩:=hP j v hj;have i:(d.map (·.1))[j]?=a7 B:=by rw[G2,G];rfl
  rw[C,G2]at i;cases J:kvs[j]? with
  |none=>rw[J]at i;cases i
  |some p=>rw[J]at i;have:B=ACE p.1:=(F3 i).symm;subst this;exact⟨p.1,by rw[G2,J];rfl,e2⟩
 have P:Reps X.K ρ H (kvs.map λp=>L2.D.str p.1) ((kvs.map (·.1)).map V.str):=by have:=rN (K:=X.K) (ρ:=ρ) (H:=H) (kvs.map (·.1));rw[F9]at this;exact this
 exact tW (n:=0) Z (by show X.A.units+1<=X.A.units+4;lia) I T U.g P S Y F'.ns kp hD L (N _ C7).1 λv H' x=>kk v H'<|x Q q;exact q.elim
structure QR(X:Cx)(es:List i9)(t:IH):Prop where
 ok:PZ X es t
theorem GY:QR X [] jX:=⟨Ic⟩
theorem DH(h1:HG X e g)(h2:QR X es u)(hs:(k7 (e::es) X.env).map (·.2)=k6 e X.env::(k7 es X.env).map (·.2):=by kernel_rfl):QR X (e::es) (bE g u):=⟨Er h1.ok h2.ok hs⟩
theorem KM(h:QR X es u)(f:X.calm=a9:=by kernel_rfl)(a:(k7 es X.env).length=n:=by kernel_rfl)(c:(k7 es X.env).findIdx? (·.1)=a8:=by kernel_rfl):HG X (.Tuple es j pos) (jW n u):=⟨LY h.ok f a c⟩
theorem KN(B:HE X o to)(hi:HE X i ti)(f:∀v,k6 (.Subscript o i pos) X.env v=(do
   let ov <-j8 [v] (eval o X.env)
   let iv <-j8 [v,ov] (eval i X.env)
   standAt pos
   j8 [v,ov,iv] (setItem ov iv v)
   release [v,ov,iv] []):=by intro _;kernel_rfl):HG X (.Subscript o i pos) (xW to ti):=⟨LZ B.ok hi.ok f⟩
theorem EZ(i:HE X e te)(S:HG X tg g)(hs:swapsWithSole [tg] e pos.line X.env=pure b7:=by kernel_rfl)(w:swappedStores [tg] e X.env=pure a8:=by kernel_rfl)(h1:(k7 [tg] X.env).map (·.2)=[k6 tg X.env]:=by kernel_rfl):HS X (.Assign [tg] e pos) (IM te g):=⟨LS i.ok S.ok hs w h1⟩
theorem KK(d:X.mg "zip" = a8)(f:HA X [a,b] t)(S:X.env.kindOf "zip" = a7 .globalImplicit:=by kernel_rfl)(hs:j6 [a,b] X.env=[(b7,eval a X.env),(b7,eval b X.env)]:=by kernel_rfl)(c:j6 [b] X.env=[(b7,eval b X.env)]:=by kernel_rfl):HI X (.Tuple es x1 q) (.Call (.Name "zip" p) [a,b] [] pos) (dZip t):=⟨LV d f.ok S hs c⟩
theorem Hu:G9 X (m3 .Add) aI:=⟨GA⟩
theorem Ll(i:Room k X.A):G9 X (m5 .Lt) JA:=⟨Ko i⟩
theorem Hz:HC X (.type "list") rO:=⟨Ir⟩
theorem Ec:HC X (.type "tuple") eZ:=⟨Ez⟩
theorem Bq(i:Room k X.A)(f:X.calm=a9:=by kernel_rfl):HC X (.builtin "sorted") io:=⟨yc i f⟩
theorem Bn:QQ X "extend" lS:=⟨_,PySem.F.slot_list_extend,PySem.F.type_list_extend,xF⟩
theorem CF{X:Cx}{k:Nat}(i:Room k X.A):X.A.units+1<m9:=by have:=i.un;lia
theorem AX(r:Room k X.A)(B:HE X o to)(hi:HE X i ti)(c:HE X e te)(hs:j9 e (a7<|.Subscript o i pos') pos.line X.env=pure b7:=by kernel_rfl):HS X (.Assign [.Subscript o i pos'] e pos) (xZ to ti te):=⟨HY (CF r) B.ok hi.ok c.ok hs⟩
theorem x5.never{P:d6}{w:d5}{K:v9}{mg:c9->Option b9}{base:d9}{k:Nat}{x:c9}{st:j7}{ps:List c9}{d:A4}(F:bP K mg x st ps)(h:∀ds M R,¬d ds M R):x5 P w K mg base k x ps d:=by obtain⟨f,b,a,m,c⟩:=F;refine⟨f,b,⟨λvs H Q E q=>?_,λA o s H O us vs Q E _ _ _ _ q=>?_⟩,m,a.kp,c⟩;obtain⟨ds,M,ρ,R,_,_,q,_⟩:=q;exact(h ds M R q).elim;obtain⟨ds,M,ρ,R,_,_,q,_⟩:=q;exact(h ds M R q).elim
def Jg(t:Nat)(s:List Nat)(wi:TI)(g:TG)(tt:TT)(te:TE)(N:TG):TS:=λD σ H=>QF t s wi g tt te σ H λv a=>N v σ a D.nx
theorem CM(B:BlkSc X N' nt js scope)(hc:X.calm=a9)(hi:PI X tg iter wi)(hg:∀cl s0 H0 ex,PG (D0 X N' scope cl s0 H0 ex) tg g) (ht:∀cl s0 H0 ex,NH (D0 X N' scope cl s0 H0 ex) ifs tt) (he:∀cl s0 H0 ex,PE (D0 X N' scope cl s0 H0 ex) elt te) (hn:PG X (.Name x pos') gN)(hs:∀x,l9 iter X.env x=pure x) (an:j9 (.ListComp elt [⟨tg,iter,ifs,0⟩] scope pos) (a7<|.Name x pos') pos2.line X.env=pure a9):PS X (.Assign [.Name x pos'] (.ListComp elt [⟨tg,iter,ifs,0⟩] scope pos) pos2) (Jg nt js wi g tt te gN):=by
 intro f s σ H Dn I h;rw[exec_Assign_Name_used _ _ _ _ an];refine t9<|wpAny_standAt ?_;obtain⟨cl,V,j,E⟩:=jO (scope:=scope) (env:=X.env) λp l hf=>I.ok.has p.1<|B.free p l hf;refine t9<|show i7 (j2 X.prog X.w) X.A (comprehension (.ListComp elt [⟨tg,iter,ifs,0⟩] scope pos) scope X.env _ (newList []) b7 (eval iter X.env) (a7<|k6 (.Name x pos') X.env) >>= λ_=>pure ()) _ _ _ from t9 ?_;refine wpAny_comprehension_free (use:=a7<|k6 (.Name x pos') X.env) (Q:=λ_ u=>i7 (j2 X.prog X.w) X.A (pure ()) (λ_ s3=>i7 (j2 X.prog X.w) X.A (pure Flow.next) (SP X f Dn) X.xe s3) X.xe u) rfl hs V B.kind B.loc ?_;refine z6 (hi f s σ H _ I h) λv s1 h1=>z6 h1 λas a h2=>?_;obtain⟨it,fp,tn,J,H2,e,m,T,U,N,W,⟨m0,w0⟩,M⟩:=h2;subst e;refine K5<|wpAny_newFunctionEnv B.nocell (by intro y hy;simp at hy) (λh1 F G=>?_) B.kind;have r:∀b∈fp,b<a.heap.objs.size:=λb i=>by obtain⟨o,e,_⟩:=T.obj _ _ U b i;exact C2 e
 have hC:(a.heap.push<|cx [] 0).objs.size=a.heap.objs.size+1:=MH ..;have K:∀b o,(a.heap.push<|cx [] 0).get? b=a7 o->h1.get? b=a7 o:=λb o e=>(G.2 b<|D6<|C2 e).trans<|A9 _ e;have I3:=m.blkStart (tk:=a.toks+([]:List (c9×b9)).length) B j E N r K F;have L:tn 0 h1:=T.keep _ _ _ U λb _ o e=>K b o<|A9 _ e;have ab:a.heap.objs.size∉fp:=λz=>K9 _<|r _ z;have ai:a.heap.objs.size∉K7 X.stack:=λz=>by rcases A5.mp (m.stkSub _ z)with q|q;exact r9 m.lt (by rw[<-q];exact K9 _);exact m.nofs (z5 _) q
 have D:a.heap.objs.size≠(a.heap.push<|cx [] 0).objs.size:=by rw[hC];exact D6<|MW _
 have ltc:∀z c,cl.lookup z=a7 c->c<a.heap.objs.size:=λz c e=>by obtain⟨v,q⟩:=m.cell z c<|j z c e;exact q.lt
 have t:∀b∈fp,b≠(a.heap.push<|cx [] 0).objs.size/\b∉K7 X.stack/\∀x c,cl.lookup x=a7 c->c≠b:=λb i=>by refine⟨by rw[hC];exact D6<|OZ<|r b i,λz=>?_,λx c e=>(N b i).2.2.2.2.1 x c<|j x c e⟩;rcases A5.mp (m.stkSub b z)with q|q;exact(N b i).2.1 q;exact(N b i).2.2.1 q
 have ap:a.heap.objs.size<=(a.heap.push<|cx [] 0).objs.size:=by rw[hC];exact OQ _
 have n:n3 (j2 X.prog X.w) X.A (.compLoop (.ListComp elt [⟨tg,iter,ifs,0⟩] scope pos) 0 (.ref it) (.ref a.heap.objs.size)<|compEnvC scope cl (a.heap.push<|cx [] 0).objs.size X.env) (compPost (j2 X.prog X.w) X.A X.xe (a7<|k6 (.Name x pos') X.env) (λ_ u=>i7 (j2 X.prog X.w) X.A (pure ()) (λ_ s3=>i7 (j2 X.prog X.w) X.A (pure Flow.next) (SP X f Dn) X.xe s3) X.xe u) (.ref a.heap.objs.size) (a.heap.push<|cx [] 0).objs.size) { a with heap:=h1,toks:=a.toks+([]:List (c9×b9)).length }:=by
  refine AR (s0:={ a with heap:=a.heap.push (cx [] 0) }) (H0:=H2) (N':=N') (Q:=λv H1=>gN v σ H1 Dn.nx) (Turn.at T hc) (hg _ _ _ _) (ht _ _ _ _) (he _ _ _ _) T ab M t D ai (λx c e=>D6<|ltc x c e) ?_ m0 I3 L (λb i=>(N b i).1) w0;intro τ H' s' vs its k R rv hl q;obtain⟨mm,aj,_⟩:=id R.loc;obtain⟨C,es,Y,eC,aX⟩:=id aj;have I5:u6 X f σ (A0 H' a.heap.objs.size<|.lst vs) s':=m.blkEnd N R rv hl ⟨rfl,λ_ _=>rfl⟩;have Z:A0 H' a.heap.objs.size (.lst vs) (a.heap.push<|cx [] 0).objs.size=a8:=by rw[az<|D3 D];exact R.free
  have fk:∀Hx:Hp,Hx (a.heap.push<|cx [] 0).objs.size=a8->sZ X f Hx (a.heap.push<|cx [] 0).objs.size:=λHx hx=>m.fpOk ap hx;have dC:∀v,C.data≠.cell v:=λv z=>by
   have:∃es Y,C.data=.dict es Y:=by
    first
     |(obtain⟨d,_⟩:=aX;exact⟨_,_,d⟩)
     |(obtain⟨_,d,_⟩:=aX;exact⟨_,_,d⟩)
     |(obtain⟨_,_,d,_⟩:=aX;exact⟨_,_,d⟩)
   obtain⟨_,_,d⟩:=this;rw[d]at z;cases z
  have I6:u6 X (f++[((a.heap.push<|cx [] 0).objs.size,C)]) σ (A0 H' a.heap.objs.size<|.lst vs) s':=I5.pins_of λp l=>by
   rcases F6.mp l with l|l;exact I5.pin p<|MJ _ l;have:p=((a.heap.push<|cx [] 0).objs.size,C):=by simpa using l
   subst this;exact⟨eC,Z,(fk _ Z).2.1,(fk _ Z).2.2.1,dC⟩
  refine z6 (hn _ s' σ _ (.ref a.heap.objs.size) (.ref a.heap.objs.size) _ I6 rfl q) ?_;rintro _ s7 ⟨O,P,S,q7⟩;obtain⟨p1,p2,_⟩:=S.pin ((a.heap.push<|cx [] 0).objs.size,C)<|MJ _<|MJ _ C7;refine⟨mm,⟨C,es,Y,p1,aX⟩,λh' sb=>u9<|u9 ⟨O,P,?_,q7⟩⟩;have I8:u6 X f O P s7:=S.pins_of λp l=>S.pin p<|MJ _<|Qv _ l;refine I8.turnedL (t':=s7.toks) (fp:=[(a.heap.push<|cx [] 0).objs.size]) (λb i=>?_) λb o i e=>(sb.2 b<|by simpa using i).trans e;have:b=(a.heap.push<|cx [] 0).objs.size:=by simpa using i
  subst this;exact fk P p2
 exact codeAny_compStart_list n<|T.self _ 0 _ _ _ L n
def iG(t:Nat)(s:List Nat)(b:Nr)(g:ML)(tt:J5)(te:A2)(i:Nat):u7:=λE S M=>F7 t s b g tt te S M λd a=>av i d S a E.nx
theorem Eo(B:BlkSc X N' nt js scope)(f:X.calm=a9)(hi:DI X tg iter di)(l:∀cl s0 H0 ex,DG (D0 X N' scope cl s0 H0 ex) tg g) (D:∀cl s0 H0 ex,NH (D0 X N' scope cl s0 H0 ex) ifs<|lowT X.K tt) (j:∀cl s0 H0 ex,DE (D0 X N' scope cl s0 H0 ex) elt te) (n:DG X (.Name x pos') (av i))(hs:∀x,l9 iter X.env x=pure x) (h:j9 (.ListComp elt [⟨tg,iter,ifs,0⟩] scope pos) (a7<|.Name x pos') pos2.line X.env=pure a9):DS X (.Assign [.Name x pos'] (.ListComp elt [⟨tg,iter,ifs,0⟩] scope pos) pos2) (iG nt js di g tt te i):=PS.imp (CM (g:=lowG X.K g) (tt:=lowT X.K tt) (te:=lowE X.K te) B f hi (λcl s0 H0 ex=>l cl s0 H0 ex) D (λcl s0 H0 ex=>j cl s0 H0 ex) n hs h) λE σ H ⟨S,M,ρ,F,s,e,q,k⟩ =>
  AD σ H _ ⟨S,M,ρ,_,s,e,q,λv p ⟨d,b,c,o,g1,r,m⟩=>⟨d,S,b,c,_,o,e.grow g1,r,m,λa H' w=>k.nx a H'<|SQ.trans g1 w⟩⟩
theorem DC(a:X.N.Nodup)(hi:HI X tg iter di)(S:∀cl s0 H0 ex,HG (D0 X N' scope cl s0 H0 ex) tg g) (D:∀cl s0 H0 ex,Pd (D0 X N' scope cl s0 H0 ex) ifs tt) (e:∀cl s0 H0 ex,HE (D0 X N' scope cl s0 H0 ex) elt te) (B:oz X.env.scope.names X.N N' nt js scope=a9:=by kernel_rfl) (f:X.calm=a9:=by kernel_rfl)(hs:∀x,l9 iter X.env x=pure x:=by intro _;kernel_rfl) (w:j9 (.ListComp elt [⟨tg,iter,ifs,0⟩] scope pos) (a7<|.Name x pos') pos2.line X.env=pure a9:=by kernel_rfl)(h:X.N[i]?=a7 x:=by kernel_rfl) (c:IJ X.env.scope x=a9:=by kernel_rfl) (b:X.fn x=a9:=by kernel_rfl):HS X (.Assign [.Name x pos'] (.ListComp elt [⟨tg,iter,ifs,0⟩] scope pos) pos2) (iG nt js di g tt te i):=⟨Eo (BlkSc.chk B) f hi.ok (λcl s0 H0 ex=>(S cl s0 H0 ex).ok) (λcl s0 H0 ex=>(D cl s0 H0 ex).ok) (λcl s0 H0 ex=>(e cl s0 H0 ex).ok) (uZ a h (AF c)<|.inl b) hs w⟩
theorem PJ:atI (a::r) 0=a7 a:=by have:=bp (xs:=a::r) (j:=0) (v:=a) rfl;simpa using this
theorem at1:atI (a::b::r) 1=a7 b:=by have:=bp (xs:=a::b::r) (j:=1) (v:=b) rfl;simpa using this
theorem at2:atI (a::b::c::r) 2=a7 c:=by have:=bp (xs:=a::b::c::r) (j:=2) (v:=c) rfl;simpa using this
theorem ar.lst(h:R (.ref M.length) (M++[.lst xs]))(f:M.length<=n)(e:(M++L)[n]?=a7 (.lst xs))(b:Bels M.length xs):ar M R (.ref n) (M++L):=.inr<|.inr ⟨M,n,xs,.refl,rfl,f,e,NO _ _,b,h⟩
theorem iP:(M++a::L).set M.length b=M++b::L:=by rw[List.set_append_right _ _<|z5 _];simp
theorem cS(I:List D->List D->SD->u8->Prop)(h0:∀acc S M,I [] acc S M->ok M/\Q (.ref M.length) (M++[.lst acc]))(h1:∀x xs acc S M,I (x::xs) acc S M->∀K:List D->SD->u8->Prop,(∀acc S M,I xs acc S M->K acc S M)->ok M/\g x S M λS2 M2=>tt S2 M2 λb M3=>if b=a9 then te S2 M3 λy M4=>acc.length<sizeLine/\K (acc++[y]) S2 M4 else K acc S2 M3):∀xs acc S M,I xs acc S M->mP ok g tt te Q xs acc S M
 | [],acc,S,M,h=>h0 acc S M h
 |x::xs,acc,S,M,h=>h1 x xs acc S M h _<|cS I h0 h1 xs
noncomputable def PD:D->c9
 |.str x=>x
 |_=>Str.empty
theorem zU{ys:List D}{ks:List c9}(h:ys.Perm (ks.map D.str)):∃ns:List c9,ys=ns.map D.str/\ns.Perm ks:=by
 refine⟨ys.map PD,?_,?_⟩;rw[F9];have:∀y∈ys,(D.str ∘ PD) y=y:=λy Q=>by obtain⟨x,_,rfl⟩:=A8.mp<|h.mem_iff.mp Q;rfl
 exact(Qr this ▸ (List.map_id' ys).symm:ys=ys.map (D.str ∘ PD));have:=h.map PD;rw[F9]at this;have e:(PD ∘ D.str)=id:=rfl
 rwa [e,P0]at this
theorem xk{M:u8}{ks:List c9}(h:ks.length<64):SrtOk M (ks.map D.str):=by refine⟨by rw[x6];exact h,λx a=>?_,λx a y Q=>?_,.inl λx a=>?_⟩;obtain⟨z,_,rfl⟩:=A8.mp a;rfl;obtain⟨z,_,rfl⟩:=A8.mp a;obtain⟨G,_,rfl⟩:=A8.mp Q;rfl;obtain⟨z,_,rfl⟩:=A8.mp a;exact⟨z,rfl⟩
theorem zP(h:(kvs.map (·.1)).Nodup):((wj kvs k d).map (·.1)).Nodup:=by
 unfold wj;by_cases q:(kvs.any λp=>decide<|p.1=k)=a9;rw[p9 q,F9];have:((λx:c9×D=>x.1) ∘ λp:c9×D=>if p.1=k then(p.1,d)else p)=λx=>x.1:=by funext p;show (if p.1=k then(p.1,d)else p).1=p.1;split<;>rfl
 rw[this];exact h;rw[q9 q,MI,List.nodup_append];refine⟨h,by simp,λa f b c e=>?_⟩;simp at c;subst c e;obtain⟨p,g,e⟩:=A8.mp f;exact q<|List.any_eq_true.mpr ⟨p,g,by simpa using e⟩
theorem CI:(wj kvs k d).length<=kvs.length+1/\1<=(wj kvs k d).length:=by unfold wj;by_cases q:(kvs.any λp=>decide<|p.1=k)=a9;rw[p9 q,x6];obtain⟨p,h,_⟩:=List.any_eq_true.mp q;have:0<kvs.length:=List.length_pos_of_mem h;lia;rw[q9 q,A7,J4];lia
theorem CJ{P:c9×D->Prop}{kvs:List (c9×D)}{k:c9}{d:D}(h:∀p∈kvs,P p)(c:P (k,d)):∀p∈wj kvs k d,P p:=by unfold wj;intro p a;by_cases q:(kvs.any λp=>decide<|p.1=k)=a9;rw[p9 q]at a;obtain⟨f,b,rfl⟩:=A8.mp a;by_cases e:f.1=k;rw[p9 e,e];exact c;rw[q9 e];exact h f b;rw[q9 q]at a;rcases F6.mp a with a|a;exact h p a;rw[G1.mp a];exact c
noncomputable def bj(w:d5):d8:={ cls:=.type "set",dict:=a8,data:=.set #[] 0 (.fresh 0 0<|!w.params.followText "set-order") }
theorem vc(a:b9)(h:Q₁ (.ref s.heap.objs.size) { s with heap:=s.heap.push (bj w) }):n3 (j2 prog w) A (.call (.builtin "set.__new__") ⟨[.type "set",a],[]⟩) (wants Q₁ E) s:=by
 refine codeAny_of_tree<|show i7 (j2 prog w) A.in1 (do checkBuiltinCall "set.__new__" ⟨[.type "set",a],[]⟩;again (.builtin "set.__new__" ⟨[.type "set",a],[]⟩)) _ _ s from ?_;refine t9<|wpAny_of_eq (F.newCall_set_1 a)<|u9 ⟨P5 F.plain_set_new _,Pp F.entry_set_new ?_⟩;rw[Qu F.plain_set_new _];have e:=sub_set_self;obtain⟨p,g,d,q,c⟩:=s;unfold Builtin.«set.__new__» Builtin.Frozenset.newClass;dsimp only
 wp_walk
 refine OW<|u9 ?_;simp only[newObj];exact t9<|wpAny_alloc<|u9<|u9 h
structure TxSrc(prog:d6)(w:d5)(h:d9)(l:d7)(T:String)(n:Nat)(P:Nat->b9->Prop):Prop where
 obj:∃o,h.get? l=a7 o/\o.cls=.type T
 ns:isSubtype (.type T) (.type "set")=pure b7
 nf:isSubtype (.type T) (.type "frozenset")=pure b7
 nd:(OP T==OP "dict")=b7
 iter:∀(A:f9) (s':g8),A.handled=a8->(∀o,h.get? l=a7 o->s'.heap.get? l=a7 o)->∃(oI:d8) (St:Nat->d9->Prop),(∀(E:b9->g8->Prop) (Q:b9->g8->Prop),Q (.ref s'.heap.objs.size) { s' with heap:=s'.heap.push oI }->i7 (j2 prog w) A (l6<|.ref l) Q E s') /\Walks prog w A s'.heap.objs.size [s'.heap.objs.size,l] [s'.heap.objs.size] n P St/\St 0 (s'.heap.push oI)
theorem tS:isSubtype (.type "tuple") (.type "set")=pure b7:=by rw[isSubtype_type];kernel_rfl
theorem rz:isSubtype (.type "tuple") (.type "frozenset")=pure b7:=by rw[isSubtype_type];kernel_rfl
theorem TxSrc.list(g:h.IsList l its):TxSrc prog w h l "list" its.size (λi v=>its[i]?=a7 v):=by
 refine⟨let ⟨o,e,c,_⟩:=g;⟨o,e,c⟩,F.sub_list_set,F.sub_list_frozenset,by decide,λA s' b k=>?_⟩;have a:s'.heap.IsList l its:=g.at k;have lt:l<s'.heap.objs.size:=let ⟨o,e,_⟩:=a;C2 e
 exact⟨_,_,λE Q q=>Rb a q,Walks.list b _ l (D6 lt) its,⟨_,E1 _ rfl,rfl,rfl⟩,a.push _⟩
theorem TxSrc.tuple(g:h.IsTuple l its):TxSrc prog w h l "tuple" its.size (λi v=>its[i]?=a7 v):=by
 refine⟨let ⟨o,e,c,_⟩:=g;⟨o,e,c⟩,tS,rz,by decide,λA s' b k=>?_⟩;have a:s'.heap.IsTuple l its:=let ⟨o,e,r⟩:=g;⟨o,k o e,r⟩
 have lt:l<s'.heap.objs.size:=let ⟨o,e,_⟩:=a;C2 e
 exact⟨_,_,λE Q q=>wpAny_pyIter_tuple a q,Walks.tuple b _ l (D6 lt) its,⟨_,E1 _ rfl,rfl,rfl⟩,let ⟨o,e,r⟩:=a;⟨o,A9 _ e,r⟩⟩
theorem bn:Slot "set_iterator" "__next__" "set_iterator.__next__":=.of (owner:="set_iterator") (n:="__next__") (by rw[typeLookup_type,builtinLookup_eq_fast];kernel_rfl) (by decide +kernel) (by decide +kernel) (by decide +kernel) (by first|exact .inl (by decide +kernel)|exact .inr<|by decide +kernel)<|by rw[isSubtype_type];kernel_rfl
theorem dR:entryFor table "set_iterator.__next__" = a7 Builtin.«set_iterator.__next__»:=entryFor_of_tree<|by kernel_rfl
theorem mv:Manifest.owners.lookup (String.ofList ['r','o','t','a','r','e','t','i','_','t','e','s'].reverse)=a7 Manifest.sig_set_iterator:=by kernel_rfl
theorem fO(a:b9):argsOk "set_iterator.__next__" ⟨[a],[]⟩:=by unfold argsOk;rw[signature?_of (id:="set_iterator.__next__") (n:=['_','_','t','x','e','n','_','_']) (o:=['r','o','t','a','r','e','t','i','_','t','e','s']) (by kernel_rfl) mv];kernel_rfl
theorem pK:entryFor table "set.__iter__" = a7 Builtin.«frozenset.__iter__»:=entryFor_alias (id':="frozenset.__iter__") (by kernel_rfl) rfl (by decide +kernel)<|by kernel_rfl
theorem jd{α:Type}:∀(l:List α) (i:Nat) (h:i<l.length),(l[i]::l.eraseIdx i).Perm l
 |x::l,0,_=>Pm _
 |x::l,i+1,h=>by
  have h':i<l.length:=by simpa using h
  exact(List.Perm.swap x l[i]<|l.eraseIdx i).trans<|QW x<|jd l i h'
theorem yf(f:n≠0)(h:∀i d,i<n->Q i { s with drawn:=d }):i7 M A (choose src n) Q E s:=by intro Γ p a;show Sem.wp M Γ (Sem.choose src n λi=>Sem.pure i) _ _ p s;rw[Sem.wp_choose];refine⟨f,?_⟩;rw[Sem.wp_pure];exact h _ _<|Nat.mod_lt _<|Nat.pos_of_ne_zero f
theorem sL{α:Type}{M:Model}{A:f9}{E:b9->g8->Prop}:∀(n:Nat) (xs:List α) (s:g8) (Q:List α->g8->Prop),xs.length=n->(∀ys d,ys.Perm xs->Q ys { s with drawn:=d })->i7 M A (drawOrder n xs) Q E s
 | 0,xs,s,Q,e,h=>by
  cases xs with
  |nil=>exact u9<|h [] s.drawn<|Pm _
  |cons _ _=>cases e
 |n+1,[],s,Q,e,h=>by cases e
 |n+1,x::xs,s,Q,e,h=>by unfold drawOrder;refine t9<|yf (by simp) λi d hi=>?_;rw[C4 hi];refine t9<|sL n ((x::xs).eraseIdx i) { s with drawn:=d } _ (by rw[List.length_eraseIdx_of_lt hi];simp at e ⊢;lia) λys d' hp=>u9<|h _ d' ?_;exact(QW _ hp).trans<|jd _ i hi
theorem lU{α:Type}(next:Nat->Nat)(xs:Array α):(p7 next xs).toList.Perm xs.toList:=by
 have o:∀(l k:Nat) (left:List α) (t:Array α),left.length=l->(pickOrder.go next l k left t).toList.Perm (t.toList++left):=by
  intro l;induction l with
  |zero =>
   intro k left t e;cases left with
   |nil=>simp[pickOrder.go]
   |cons _ _=>cases e
  |succ n i=>intro k left t e;have hi:next k % left.length<left.length:=Nat.mod_lt _ (by lia);unfold pickOrder.go;rw[C4 hi];dsimp only;refine(i (k+1) _ _<|by rw[List.length_eraseIdx_of_lt hi];lia).trans ?_;rw[Array.toList_push,Nk];exact List.Perm.append_left _<|jd _ _ hi
 have:=o xs.size 0 xs.toList #[] (by simp);simpa [p7]using this
noncomputable def dO(first:b9)(i n:Nat)(a:d7)(ep:Nat):d8:={ cls:=.type "set_iterator",data:=.fields #[first,l7 i,.ref a,l7 n,l7 ep] }
structure SetAt(h:d9)(a:d7)(o:d8)(es:Array (Int×b9))(ep:Nat)(t:p8):Prop where
 ob:h.get? a=a7 o
 dt:o.data=.set es ep t
 ft:t.fits es.size=a9
theorem nP(c:A.handled=a8)(h:∀h' e,(∀b o,s.heap.get? b=a7 o->h'.get? b=a7 o)->(∃o,h'.get? e=a7 o/\o.cls=.type "StopIteration")->F (.ref e) { s with heap:=h' }):i7 (j2 prog w) A (do raiseNew (<-newExc (.type "StopIteration") []):Sem Fin) Q F s:=by refine t9 ?_;simp only[newExc,newTuple];refine t9 (K5 (t9 (m:=p5 _ _)<|wpAny_of_eq (a:=K4) (by first|rfl|(simp only[p5];rfl))<|K5 ?_<|by size_fits)<|by size_fits);simp only[raiseNew];refine t9<|wpAny_handled ?_;rw[c];exact t9<|u9<|wpAny_throw<|h _ _ (λb o e=>A9 _<|A9 _ e) ⟨_,E1 _ rfl,rfl⟩
theorem mz{slot i next:Nat}{x:b9}{Q:Option b9->g8->Prop}(I:s.heap.get? it=a7 (dO (l7 slot) i es.size a ep))(S:SetAt s.heap a o es ep t)(f:∀(A:f9) (E:b9->g8->Prop) (Q:Option (b9×Nat)->g8->Prop),Q (a7 (x,next)) s->i7 (j2 prog w) A (setNext a slot i ep) Q E s)(b:∀h',h'.get? it=a7 (dO (l7 next) (i+1) es.size a ep)->NK it s.heap h'->Q (a7 x) { s with heap:=h' }):i7 (j2 prog w) A (k8<|.ref it) Q E s:=by
 have n:s.TypeIs (.ref it) "set_iterator":=⟨_,I,rfl⟩
 unfold k8;refine t9<|NX<|MY (name:=AA1 "__next__") n bn<|J2 bn n dR ?_<|fO _;unfold Builtin.«set_iterator.__next__»;refine t9<|u9<|t9<|Nw I rfl ?_;dsimp only[dO,l7];refine t9<|Qq S.ob S.dt S.ft ?_;rw[q9<|by simp];refine t9<|f _ _ _ ?_;dsimp only;refine t9<|Nx I rfl (by simp)<|t9<|Nx (MX _ I rfl) rfl (by simp)<|u9 ⟨x,rfl,u9<|b _ ?_<|(Nb ..).trans<|Nb ..⟩;refine(MX _ (MX _ I rfl) rfl).trans ?_;simp[dO,OR,l7]
theorem dL{slot i:Nat}{Q:Option b9->g8->Prop}(g:A.handled=a8)(I:s.heap.get? it=a7 (dO (l7 slot) i es.size a ep))(S:SetAt s.heap a o es ep t)(j:∀(A:f9) (E:b9->g8->Prop) (Q:Option (b9×Nat)->g8->Prop),Q a8 s->i7 (j2 prog w) A (setNext a slot i ep) Q E s)(h:∀h',(∀b o,b≠it->s.heap.get? b=a7 o->h'.get? b=a7 o)->Q a8 { s with heap:=h' }):i7 (j2 prog w) A (k8<|.ref it) Q E s:=by
 have n:s.TypeIs (.ref it) "set_iterator":=⟨_,I,rfl⟩
 unfold k8;refine t9<|NX<|MY (name:=AA1 "__next__") n bn<|J2 bn n dR ?_<|fO _;unfold Builtin.«set_iterator.__next__»;refine t9<|u9<|t9<|Nw I rfl ?_;dsimp only[dO,l7];refine t9<|Qq S.ob S.dt S.ft ?_;rw[q9<|by simp];refine t9<|j _ _ _ ?_;dsimp only;refine t9<|Nx I rfl (by simp) ?_;refine nP (by simp[g]) ?_;rintro h' e k ⟨y,c,f⟩;refine t9<|Oz (T:="StopIteration") (b:=a9) ⟨y,c,f⟩ P6<|u9<|h h' λb l d M=>k b l ?_;exact((Nb ..).2 b d).trans M
theorem xE{tt:d7}{ps:List Nat}{i j:Nat}{e:Int×b9}{Q:Option b9->g8->Prop}(I:s.heap.get? it=a7 (dO (.ref tt) i es.size a ep))(C:s.heap.IsTuple tt (ps.map λ(k:Nat)=>l7 k).toArray)(S:SetAt s.heap a o es ep t)(hj:ps[i]?=a7 j) (d:es[j]?=a7 e) (c:∀h',h'.get? it=a7 (dO (.ref tt) (i+1) es.size a ep)->NK it s.heap h'->Q (a7 e.2) { s with heap:=h' }):i7 (j2 prog w) A (k8<|.ref it) Q E s:=by
 have n:s.TypeIs (.ref it) "set_iterator":=⟨_,I,rfl⟩
 obtain⟨g,b,_,f,h⟩:=C;unfold k8;refine t9<|NX<|MY (name:=AA1 "__next__") n bn<|J2 bn n dR ?_<|fO _;unfold Builtin.«set_iterator.__next__»;refine t9<|u9<|t9<|Nw I rfl ?_;dsimp only[dO,l7];refine t9<|Qq S.ob S.dt S.ft ?_;rw[q9<|by simp];refine t9<|Na b h ?_;have x:(ps.map λ(k:Nat)=>l7 k).toArray[i]?=a7 (.int j 0):=by simp[hj,l7]
 simp only[N1,x];unfold setNextDrawn;refine t9<|t9<|Ny S.ob S.dt S.ft ?_;simp only[bne_self_eq_false,E3,t5,d];refine u9<|t9<|Nx I rfl (by simp)<|u9 ⟨_,rfl,u9<|c _ ?_<|Nb ..⟩;refine(MX _ I rfl).trans ?_;simp[dO,OR,l7]
theorem ng{tt:d7}{ps:List Nat}{i:Nat}{Q:Option b9->g8->Prop}(l:A.handled=a8)(I:s.heap.get? it=a7 (dO (.ref tt) i es.size a ep))(C:s.heap.IsTuple tt (ps.map λ(k:Nat)=>l7 k).toArray)(S:SetAt s.heap a o es ep t)(hj:ps[i]?=a8) (d:∀h',(∀b o,b≠it->s.heap.get? b=a7 o->h'.get? b=a7 o)->Q a8 { s with heap:=h' }):i7 (j2 prog w) A (k8<|.ref it) Q E s:=by
 have n:s.TypeIs (.ref it) "set_iterator":=⟨_,I,rfl⟩
 obtain⟨r,c,_,q,h⟩:=C;unfold k8;refine t9<|NX<|MY (name:=AA1 "__next__") n bn<|J2 bn n dR ?_<|fO _;unfold Builtin.«set_iterator.__next__»;refine t9<|u9<|t9<|Nw I rfl ?_;dsimp only[dO,l7];refine t9<|Qq S.ob S.dt S.ft ?_;rw[q9<|by simp];refine t9<|Na c h ?_;have x:(ps.map λ(k:Nat)=>l7 k).toArray[i]?=a8:=by simpa using hj
 simp only[N1,x];refine t9<|Nx I rfl (by simp)<|t9<|Nx (MX _ I rfl) rfl (by simp) ?_;refine nP (by simp[l]) ?_;rintro h' e m ⟨y,j,g⟩;refine t9<|Oz (T:="StopIteration") (b:=a9) ⟨y,j,g⟩ P6<|u9<|d h' λb p f M=>m b p ?_;exact(((Nb ..).trans<|Nb ..).2 b f).trans M
end L2
namespace L2
theorem nodup_le{α:Type}[DecidableEq α]:∀(l xs:List α),l.Nodup->(∀x∈l,x∈xs)->l.length<=xs.length
 | [],xs,_,_=>D4 _
 |a::l,xs,nd,h=>by have ha:a∈xs:=h a C7;have nd':=MR.mp nd;have ih:=nodup_le l (xs.erase a) nd'.2 λx hx=>(List.mem_erase_of_ne<|show x≠a from λz=>nd'.1<|by rw[<-z];exact hx).mpr<|h x<|C0 _ hx;rw[List.length_erase_of_mem ha]at ih;have:0<xs.length:=List.length_pos_of_mem ha;rw[C5];lia
end L2
namespace Ht
open PySem
noncomputable def PK(m:Nat)(p:Ow):Ow:=if p.more > 0 then { p with j:=p.j+1,more:=p.more-1 } else
 { p with j:=(Oe m p.i p.perturb).1,more:=L0 m (Oe m p.i p.perturb).1-(Oe m p.i p.perturb).1,i:=(Oe m p.i p.perturb).1,perturb:=(Oe m p.i p.perturb).2 }
noncomputable def iO(m i t:Nat):Ow:={ j:=i,more:=L0 m i-i,i,perturb:=t,dummy:=a8 }
noncomputable def lK(m:Nat)(p:Ow):Nat->Ow
 | 0=>p
 |n+1=>PK m<|lK m p n
noncomputable def sq(m:Nat)(h:Int)(n:Nat):Ow:=lK m (iO m (NL h % (m+1))<|NL h) n
theorem rC(m:Nat)(p:Ow)(a b:Nat):lK m p (a+b)=lK m (lK m p a) b:=by
 induction b with
 |zero=>rfl
 |succ b i=>rw[Nat.add_succ,lK,i];rfl
theorem Ju(m i:Nat):L0 m i-i<=9:=by unfold L0;split<;>lia
theorem Bl(m i pt:Nat):∀k,k<=L0 m i-i->lK m (iO m i pt) k={ j:=i+k,more:=L0 m i-i-k,i,perturb:=pt,dummy:=a8 }
 | 0,_=>by simp[lK,iO]
 |k+1,h=>by rw[lK,Bl m i pt k<|by lia];unfold PK;rw[p9<|show L0 m i-i-k > 0 by lia];simp only[SetTable.Probe.mk.injEq,true_and,and_true];lia
theorem Dg(m i t:Nat):lK m (iO m i t) (L0 m i-i+1)=iO m (Oe m i t).1 (Oe m i t).2:=by rw[lK,Bl m i t _<|z5 _];unfold PK;rw[q9<|show ¬L0 m i-i-(L0 m i-i) > 0 by lia];rfl
noncomputable def dE(m:Nat)(h:Int):Nat->Nat×Nat
 | 0=>(NL h % (m+1),NL h)
 |k+1=>Oe m (dE m h k).1 (dE m h k).2
noncomputable def dW(m:Nat)(h:Int):Nat->Nat
 | 0=>0
 |k+1=>dW m h k+(L0 m (dE m h k).1-(dE m h k).1+1)
theorem EF(m:Nat)(h:Int)(k:Nat):dW m h k<=10*k:=by
 induction k with
 |zero=>exact z5 _
 |succ k i=>have:=Ju m (dE m h k).1;unfold dW;lia
theorem ES(m:Nat)(h:Int)(k:Nat):sq m h (dW m h k)=iO m (dE m h k).1 (dE m h k).2:=by
 induction k with
 |zero=>rfl
 |succ k i=>unfold sq at i ⊢;unfold dW;rw[rC,i,Dg];rfl
theorem zv(m:Nat)(h:Int)(k r:Nat)(i:r<=L0 m (dE m h k).1-(dE m h k).1):(sq m h<|dW m h k+r).j=(dE m h k).1+r:=by have e:=ES m h k;unfold sq at e ⊢;rw[rC,e,Bl _ _ _ _ i]
theorem Iw(h:Int):NL h<2 ^ 64:=by unfold NL;have a:=Qb h (show (2 ^ 64:Int)≠0 by decide);have h1:=Ql h (show (0:Int)<2 ^ 64 by decide);lia
theorem nW(m:Nat)(h:Int):∀k,(dE m h k).2=NL h / 32 ^ k
 | 0=>by simp[dE]
 |k+1=>by show (dE m h k).2 / 32=_;rw[nW m h k,Nat.div_div_eq_div_mul,<-Nat.pow_succ]
theorem rQ(m:Nat)(h:Int)(k:Nat)(a:13<=k):(dE m h k).2=0:=by
 rw[nW];apply Nat.div_eq_of_lt;have h1:=Iw h;have h2:32 ^ 13<=32 ^ k:=Nat.pow_le_pow_right (by decide) a;have b:(2:Nat) ^ 64<32 ^ 13:=by decide
 lia
noncomputable def vj(m i:Nat):Nat:=(i*5+1) % (m+1)
noncomputable def bQ(m i:Nat):Nat->Nat
 | 0=>i
 |k+1=>vj m<|bQ m i k
theorem dA(m i a b:Nat):bQ m i (a+b)=bQ m (bQ m i a) b:=by
 induction b with
 |zero=>rfl
 |succ b h=>rw[Nat.add_succ,bQ,h];rfl
theorem tX(m:Nat)(h:Int)(r:Nat):(dE m h<|13+r).1=bQ m (dE m h 13).1 r:=by
 induction r with
 |zero=>rfl
 |succ r i=>show (Oe m (dE m h<|13+r).1 (dE m h<|13+r).2).1=vj m (bQ m (dE m h 13).1 r);rw[rQ m h _ (by lia),i];rfl
theorem tY(m:Nat)(h:Int):∀k,(dE m h k).1<=m
 | 0=>Nat.lt_succ_iff.mp<|Nat.mod_lt _<|Nat.succ_pos _
 |k+1=>Nat.lt_succ_iff.mp<|Nat.mod_lt _<|Nat.succ_pos _
def IR(m:Nat):Prop:=bQ m 0 (m+1)=0/\∀s,s<=m->∃k,k<=m/\bQ m 0 k=s
noncomputable def uk(m:Nat):Nat->Nat->List Nat
 | 0,_=>[]
 |n+1,i=>i::uk m n (vj m i)
theorem mw(m:Nat):∀(n i k:Nat),k<n->(uk m n i)[k]?=a7 (bQ m i k)
 | 0,_,_,h=>r9 h<|Og _
 |n+1,i,0,_=>rfl
 |n+1,i,k+1,h=>by rw[uk,On,mw m n (vj m i) k (by lia),<-show bQ m (bQ m i 1) k=bQ m i (k+1)from by rw[<-dA,Nat.add_comm]];rfl
theorem uV(m:Nat)(h:((uk m (m+2) 0)[m+1]?==a7 0&&(C3<|m+1).all λs=>(uk m (m+1) 0).contains s)=a9):IR m:=by
 rw[B8,t4,D7]at h;refine⟨?_,λs hs=>?_⟩;have:=mw m (m+2) 0 (m+1) (by lia);rw[h.1]at this;exact(F3 this).symm;have:=h.2 s (I9.mpr<|by lia);rw[List.contains_iff_mem]at this;obtain⟨k,a⟩:=NP this;have g:k<m+1:=by
  have:=(A3.mp a).1;have B:∀n i,(uk m n i).length=n:=by
   intro n;induction n with
   |zero=>intro i;rfl
   |succ n b=>intro i;simp[uk,b]
  rw[B]at this;exact this
 rw[mw m _ 0 k g]at a;exact⟨k,by lia,F3 a⟩
theorem full7:IR 7:=uV 7<|by decide +kernel
theorem LF:IR 31:=uV 31<|by decide +kernel
theorem HK:IR 127:=uV 127<|by decide +kernel
theorem Bu(F:IR m)(hi:i<=m)(hs:s<=m):∃k,k<=m/\bQ m i k=s:=by obtain⟨a,f,c⟩:=F.2 i hi;obtain⟨b,d,M⟩:=F.2 s hs;by_cases h:a<=b;refine⟨b-a,by lia,?_⟩;rw[<-c,<-dA,show a+(b-a)=b by lia];exact M;refine⟨m+1-a+b,by lia,?_⟩;rw[<-c,<-dA,show a+(m+1-a+b)=(m+1)+b by lia,dA,F.1];exact M
def nr(m:Nat):Prop:=m=7\/m=31\/m=127
theorem nr.full(h:nr m):IR m:=by rcases h with rfl|rfl|rfl;exact full7;exact LF;exact HK
theorem Fo(d:nr m)(h:Int)(hs:s<=m):∃k,k<=m+13/\(dE m h k).1=s:=by obtain⟨r,i,e⟩:=Bu d.full (tY m h 13) hs;exact⟨13+r,by lia,by rw[tX];exact e⟩
theorem FM(d:nr m)(h:Int)(hs:s<=m):∃n,n<10*(m+15)/\(sq m h n).j=s:=by obtain⟨k,a,e⟩:=Fo d h hs;refine⟨dW m h k,by have:=EF m h k;lia,?_⟩;rw[ES];exact e
theorem Jn(h:Int):∀n,∃k r,r<=L0 m (dE m h k).1-(dE m h k).1/\n=dW m h k+r
 | 0=>⟨0,0,D4 _,rfl⟩
 |n+1=>by obtain⟨k,r,hr,e⟩:=Jn (m:=m) h n;by_cases q:r<L0 m (dE m h k).1-(dE m h k).1;exact⟨k,r+1,q,by lia⟩;exact⟨k+1,0,D4 _,by rw[dW];lia⟩
theorem zu(h:Int)(n:Nat):(sq m h n).j<=m:=by obtain⟨k,r,i,e⟩:=Jn (m:=m) h n;rw[e,zv m h k r i];have:=tY m h k;unfold L0 at i;split at i<;>lia
theorem below_spec(xs:Array Nat)(v:xs.toList.Pairwise (· < ·))(j:Nat):G0 xs j<=xs.size/\(∀k (h:k<xs.size),k<G0 xs j->xs[k]<j)/\∀k (h:k<xs.size),G0 xs j<=k->j<=xs[k]:=by
 have m:∀a b (g:a<xs.size) (i:b<xs.size),a<b->xs[a]<xs[b]:=λa b g i h=>by have:=RU.mp v a b (by simpa using g) (by simpa using i) h;simpa using this
 have r:∀(l o hi:Nat),o<=hi->hi<=xs.size->hi-o<=l->(∀k (h:k<xs.size),k<o->xs[k]<j)->(∀k (h:k<xs.size),hi<=k->j<=xs[k]) -> OY xs j l o hi<=xs.size/\(∀k (h:k<xs.size),k<OY xs j l o hi->xs[k]<j)/\∀k (h:k<xs.size),OY xs j l o hi<=k->j<=xs[k]:=by
  intro l;induction l with
  |zero =>
   intro o hi h1 h2 s d c;have:o=hi:=by lia
   subst this;exact⟨h2,d,c⟩
  |succ l n =>
   intro o hi h1 h2 s d c;unfold OY;by_cases h:o<hi;rw[p9 h];have f:(o+hi) / 2<xs.size:=by lia
   have p:xs.getD ((o+hi) / 2) j=xs[(o+hi) / 2]:=by simp[Nf,f]
   simp only[p];by_cases q:xs[(o+hi) / 2]<j;rw[p9 q];refine n _ _ (by lia) h2 (by lia) (λk e u=>?_) c;rcases Nt k ((o+hi) / 2)with z|z;exact Nat.lt_trans (m k _ e f z) q;have:k=(o+hi) / 2:=by lia
   subst this;exact q;rw[q9 q];refine n _ _ (by lia) (by lia) (by lia) d λk e t=>?_;rcases Nt ((o+hi) / 2) k with z|z;exact MF (NT.mp q)<|P4<|m _ k f e z;have:k=(o+hi) / 2:=by lia
   subst this;exact NT.mp q;rw[q9 h];have:o=hi:=by lia
   subst this;exact⟨h2,d,c⟩
 exact r xs.size 0 xs.size (D4 _) (z5 _) (by lia) (λk _ h=>r9 h<|Og _) λk h h'=>r9 h<|NT.mpr h'
theorem below_at(r:xs.toList.Pairwise (· < ·))(h:xs[i]?=a7 j):G0 xs j=i:=by
 obtain⟨hi,e⟩:=N3.mp h;obtain⟨g,c,u⟩:=below_spec xs r j;have m:∀a b (f:a<xs.size) (d:b<xs.size),a<b->xs[a]<xs[b]:=λa b f d h=>by have:=RU.mp r a b (by simpa using f) (by simpa using d) h;simpa using this
 rcases Qh (G0 xs j) i with q|q|q;have d:G0 xs j<xs.size:=by lia
 have:=u _ d<|z5 _;have:=m _ i d hi q;lia;exact q;have:=c i hi q;lia
theorem slot_live{t:p8}(r:t.place.toList.Pairwise (· < ·)){i j:Nat}(h:t.place[i]?=a7 j):t.slot j=.live i:=by unfold SetTable.slot;simp only[below_at r h];rw[p9<|by rw[h];simp]
theorem xo{t:p8}(d:t.dummies = #[]){j:Nat}(h:j∉t.place.toList):t.slot j=.empty:=by
 unfold SetTable.slot;have e:¬(t.place[G0 t.place j]?==a7 j)=a9:=λz=>h (by rw[t4]at z;have:=Array.mem_of_getElem? z;simpa using this);have l:SetTable.has t.dummies j=b7:=by rw[d];rfl
 simp only[e,t5,l,E3]
theorem go_spec{t:p8}(r:t.place.toList.Pairwise (· < ·))(x:t.dummies = #[])(hashAt:Nat->Int)(h:Int):∀(fuel n N:Nat),n<=N->N<n+fuel->(sq t.mask h N).j∉t.place.toList->(∀k,n<=k->k<N->(sq t.mask h k).j∈t.place.toList) ->(∀k,(sq t.mask h k).dummy=a8) ->((∀k i,n<=k->k<N->t.place[i]?=a7 (sq t.mask h k).j->hashAt i≠h)/\RG t hashAt h fuel (sq t.mask h n)=a7 (.empty (sq t.mask h N).j a8)) \/∃n' i,n<=n'/\n' < N/\t.place[i]?=a7 (sq t.mask h n').j/\hashAt i=h/\(∀k i,n<=k->k<n'->t.place[i]?=a7 (sq t.mask h k).j->hashAt i≠h)/\RG t hashAt h fuel (sq t.mask h n)=a7 (.candidate (sq t.mask h n').j i<|sq t.mask h<|n'+1):=by
 intro fuel;induction fuel with
 |zero=>intro n N h1 h2;lia
 |succ fuel A =>
  intro n N h1 h2 g l m;unfold RG;by_cases e:n=N;subst e;rw[xo x g];exact .inl ⟨λk i a b=>by lia,by rw[m]⟩;have y:=l n (z5 _) (by lia);obtain⟨i,hi⟩:=NP y;have d:t.place[i]?=a7 (sq t.mask h n).j:=by rw[<-J3];exact hi
  rw[slot_live r d];dsimp only;have u:∀i',t.place[i']?=a7 (sq t.mask h n).j->i'=i:=λi' z=>by rw[<-below_at r z,below_at r d]
  by_cases q:hashAt i=h;simp only[t4,q,t6];exact .inr ⟨n,i,z5 _,by lia,d,q,λk i a b=>by lia,rfl⟩;simp only[t4,q,t5];rcases A (n+1) N (by lia) (by lia) g (λk a b=>l k (by lia) b) m with⟨B,C⟩|⟨n',i',E,o,p,s,v,w⟩
  refine .inl ⟨λk i' a b c=>?_,C⟩;rcases Nt n k with z|z;exact B k i' z b c;have:k=n:=by lia
  subst this;rw[u i' c];exact q;refine .inr ⟨n',i',by lia,o,p,s,λk f a b c=>?_,w⟩;rcases Nt n k with z|z;exact v k f z b c;have:k=n:=by lia
  subst this;rw[u f c];exact q
theorem sq_dummy(m:Nat)(h:Int):∀n,(sq m h n).dummy=a8
 | 0=>rfl
 |n+1=>by show (PK m<|sq m h n).dummy=a8;unfold PK;split;exact sq_dummy m h n;exact sq_dummy m h n
structure TOk(t:p8)(hs:List Int):Prop where
 msk:nr t.mask
 len:t.place.size=hs.length
 nod:t.dummies = #[]
 ris:t.place.toList.Pairwise (· < ·)
 rng:∀j∈t.place.toList,j<=t.mask
 few:t.place.size*5<t.mask*3
 path:∀(i:Nat) (h:Int) (j:Nat),hs[i]?=a7 h->t.place[i]?=a7 j->∃n,(sq t.mask h n).j=j/\∀n',n' < n->(sq t.mask h n').j∈t.place.toList
theorem Br{m:Nat}{l:List Nat}(n:l.Nodup)(i:∀j∈l,j<=m)(g:l.length<=m):∃j,j<=m/\j∉l:=by refine Oo λf=>?_;have a:∀j∈C3 (m+1),j∈l:=λj L=>Oo λh=>f ⟨j,by have:=I9.mp L;lia,h⟩;have:=L2.nodup_le (C3<|m+1) l List.nodup_range a;rw[Ps]at this;lia
theorem uX{m:Nat}(f:nr m){l:List Nat}(i:l.Nodup)(r:∀j∈l,j<=m)(g:l.length<=m)(h:Int):∃N,N<10*(m+15)/\(sq m h N).j∉l/\∀k,k<N->(sq m h k).j∈l:=by
 obtain⟨s,hs,u⟩:=Br i r g;obtain⟨n,L,t⟩:=FM f h hs;have:∀b n,n<b->(sq m h n).j∉l->∃N,N<=n/\(sq m h N).j∉l/\∀k,k<N->(sq m h k).j∈l:=by
  intro b;induction b with
  |zero=>intro n h;lia
  |succ b p=>intro n v o;by_cases q:∀k,k<n->(sq m h k).j∈l;exact⟨n,z5 _,o,q⟩;have:∃k,k<n/\(sq m h k).j∉l:=Oo λz=>q λk e=>Oo λG=>z ⟨k,e,G⟩;obtain⟨k,e,d⟩:=this;obtain⟨N,E,a,c⟩:=p k (by lia) d;exact⟨N,by lia,a,c⟩
 obtain⟨N,E,a,c⟩:=this (n+1) n (MW _) (by rw[t];exact u);exact⟨N,by lia,a,c⟩
theorem TOk.empty{t:p8}{hs:List Int}(T:TOk t hs)(h:Int):∃N,N<10*(t.mask+15)/\(sq t.mask h N).j∉t.place.toList/\∀k,k<N->(sq t.mask h k).j∈t.place.toList:=by refine uX T.msk (T.ris.imp λh=>D6 h) T.rng ?_ h;have:=T.few;rw[G3];rcases T.msk with e|e|e<;>lia
theorem zN{t:p8}(r:t.place.toList.Pairwise (· < ·)){j:Nat}(hj:j∉t.place.toList):(t.put j).1.place.toList=t.place.toList.take (G0 t.place j)++j::t.place.toList.drop (G0 t.place j)/\(t.put j).1.place.toList.Pairwise (· < ·):=by
 obtain⟨o,m,u⟩:=below_spec t.place r j;have e:(t.put j).1.place.toList=t.place.toList.take (G0 t.place j)++j::t.place.toList.drop (G0 t.place j):=by show (Q9 t.place (G0 t.place j) j).toList=_;rw[SetTable.toList_insertAt]
 refine⟨e,?_⟩;rw[e,List.pairwise_append];refine⟨r.sublist<|Qi ..,Nz.mpr ⟨λx c=>?_,r.sublist<|List.drop_sublist ..⟩,λx c y Q=>?_⟩;obtain⟨k,h⟩:=NP c;rw[Rf]at h;have d:t.place[G0 t.place j+k]?=a7 x:=by rw[<-J3];exact h
 obtain⟨g,f⟩:=N3.mp d;have:=u _ g<|Q7 _ _;rw[f]at this;rcases Nt j x with z|z;exact z;have:x=j:=by lia
 subst this;exact r9 (Rh c) hj;obtain⟨k,h⟩:=NP c;rw[List.getElem?_take]at h;split at h;rename_i l;have d:t.place[k]?=a7 x:=by rw[<-J3];exact h
 obtain⟨g,f⟩:=N3.mp d;have h1:=m k g l;rw[f]at h1;rcases A5.mp Q with rfl|Q;exact h1;obtain⟨C,a⟩:=NP Q;rw[Rf]at a;have b:t.place[G0 t.place j+C]?=a7 y:=by rw[<-J3];exact a
 obtain⟨i,n⟩:=N3.mp b;have:=u _ i<|Q7 _ _;rw[n]at this;lia;cases h
end Ht
namespace L2
open PySem PySem.Spec PyProof.Rows DL PySem.W
theorem eX:Slot "set_iterator" "__iter__" "set_iterator.__iter__":=.of (owner:="set_iterator") (n:="__iter__") (by rw[typeLookup_type,builtinLookup_eq_fast];kernel_rfl) (by decide +kernel) (by decide +kernel) (by decide +kernel) (by first|exact .inl (by decide +kernel)|exact .inr<|by decide +kernel)<|by rw[isSubtype_type];kernel_rfl
theorem jV:entryFor table "set_iterator.__iter__" = a7 Builtin.«dict_keyiterator.__iter__»:=entryFor_alias (id':="dict_keyiterator.__iter__") (by kernel_rfl) rfl (by decide +kernel)<|by kernel_rfl
theorem mR(a:b9):argsOk "set_iterator.__iter__" ⟨[a],[]⟩:=by unfold argsOk;rw[signature?_of (id:="set_iterator.__iter__") (n:=['_','_','r','e','t','i','_','_']) (o:=['r','o','t','a','r','e','t','i','_','t','e','s']) (by kernel_rfl) mv];kernel_rfl
theorem fH(I:s.heap.get? it=a7 (dO first i n a ep))(h:Q (.ref it) s):i7 (j2 prog w) A (l6<|.ref it) Q E s:=by
 have T:s.TypeIs (.ref it) "set_iterator":=⟨_,I,rfl⟩
 refine Q8 T eX<|J2 eX T jV (show i7 _ _ (ret<|.ref it) _ _ s from ?_)<|mR _;exact u9 ⟨_,rfl,"set_iterator",_,T,bn.lookup,h⟩
theorem SetAt.at(S:SetAt h a o es ep t)(k:∀o,h.get? a=a7 o->h'.get? a=a7 o):SetAt h' a o es ep t:=⟨k _ S.ob,S.dt,S.ft⟩
theorem jA(d:w.params.followText "set-order" = a9)(S:SetAt s.heap a o es ep t)(h:Q (((p7 (w.params.setOrder a ep) es)[i]?).map λe=>(e.2,0)) s):i7 (j2 prog w) A (setNext a 0 i ep) Q E s:=by unfold setNext;refine t9<|Ny S.ob S.dt S.ft ?_;unfold setsByText;refine t9<|t9<|OW<|u9 ?_;simp only[j2,d,t6,bne_self_eq_false,E3,t5];unfold setWalk;refine t9<|t9<|Ny S.ob S.dt S.ft ?_;unfold setsByText;refine t9<|t9<|OW<|u9 ?_;simp only[j2,d,t6];exact t9<|OW<|u9<|u9 h
theorem xc(d:w.params.followText "set-order" = a9)(n:A.handled=a8)(j:a≠it):Walks prog w A it [it,a] [it] es.size (λi v=>((p7 (w.params.setOrder a ep) es).toList.map (·.2))[i]?=a7 v) (λi h=>h.get? it=a7 (dO (l7 0) i es.size a ep)/\SetAt h a o es ep t) where
 sub:=λb d=>by simp at d;simp[d]
 frame:=λ_ _ _ c m=>⟨m it (by simp) _ c.1,c.2.at λo e=>m a (by simp) o e⟩
 item:=λi s Q E hi c f=>by
  have g:(p7 (w.params.setOrder a ep) es).size=es.size:=by have:=(lU (w.params.setOrder a ep) es).length_eq;simpa using this
  obtain⟨e,l⟩:∃e,(p7 (w.params.setOrder a ep) es)[i]?=a7 e:=⟨_,L1<|by rw[g];exact hi⟩
  refine mz (slot:=0) (next:=0) (x:=e.2) c.1 c.2 (λA E Q q=>jA d c.2<|by rw[l];exact q) λh' h1 U=>f _ h' s.toks (by simp[l]) ⟨h1,c.2.at λo e=>(U.2 a j).trans e⟩ λb o d e=>(U.2 b<|by simpa using d).trans e
 done:=λs Q E c f=>by
  have g:(p7 (w.params.setOrder a ep) es).size=es.size:=by have:=(lU (w.params.setOrder a ep) es).length_eq;simpa using this
  refine dL (slot:=0) n c.1 c.2 (λA E Q q=>jA d c.2 ?_) λh' k=>f h' s.toks λb o d e=>k b o (by simpa using d) e;rw[O3<|by rw[g];exact z5 _];exact q
 self:=λ_ _ _ _ c f=>fH c.1 f
theorem tH{tt:d7}{ps:List Nat}(p:ps.Perm (C3 es.size))(z:A.handled=a8)(n:a≠it)(q:tt≠it):Walks prog w A it [it,a,tt] [it] es.size (λi v=>(ps.filterMap λj=>(es[j]?).map (·.2))[i]?=a7 v) (λi h=>h.get? it=a7 (dO (.ref tt) i es.size a ep)/\SetAt h a o es ep t/\h.IsTuple tt (ps.map λ(k:Nat)=>l7 k).toArray) where
 sub:=λb g=>by simp at g;simp[g]
 frame:=λ_ _ _ c m=>⟨m it (by simp) _ c.1,c.2.1.at λo e=>m a (by simp) o e,let ⟨o,e,r⟩:=c.2.2;⟨o,m tt (by simp) _ e,r⟩⟩
 item:=λi s Q E hi c f=>by
  have x:ps.length=es.size:=by have:=p.length_eq;simpa using this
  have l:∀j∈ps,j<es.size:=λj L=>by have:=p.mem_iff.mp L;simpa using this
  have L:ps[i]?=a7 ps[i]:=C4 (by lia);have d:ps[i]<es.size:=l _<|G6 _;have u:es[ps[i]]?=a7 es[ps[i]]:=L1 d;have y:(ps.filterMap λj=>(es[j]?).map (·.2))=ps.map λj=>(es.getD j default).2:=by
   clear L x p hi c f u d;induction ps with
   |nil=>rfl
   |cons j r B=>have L:=l j C7;rw[O0,L1 L,B9,<-B λk m=>l k<|C0 _ m];simp[Nf,L]
  refine xE c.1 c.2.2 c.2.1 L u λh' h1 U=>f _ h' s.toks ?_ ⟨h1,c.2.1.at λo e=>(U.2 a n).trans e,let ⟨o,e,r⟩:=c.2.2;⟨o,(U.2 tt q).trans e,r⟩⟩ λb o g e=>(U.2 b<|by simpa using g).trans e;rw[y,G2,L];simp[Nf,d]
 done:=λs Q E c f=>by
  have x:ps.length=es.size:=by have:=p.length_eq;simpa using this
  exact ng z c.1 c.2.2 c.2.1 (O2<|by lia) λh' k=>f h' s.toks λb o g e=>k b o (by simpa using g) e
 self:=λ_ _ _ _ c f=>fH c.1 f
theorem jB(b:w.params.followText "set-order" = b7)(d:t.led=a9)(hsz:es.size<=1)(S:SetAt s.heap a o es ep t)(h:Q (match es[G0 t.place slot]?,t.place[G0 t.place slot]? with|some (_,x),a7 j=>a7 (x,j+1)|_,_=>a8) s):i7 (j2 prog w) A (setNext a slot i ep) Q E s:=by unfold setNext;refine t9<|Ny S.ob S.dt S.ft ?_;unfold setsByText;refine t9<|t9<|OW<|u9 ?_;simp only[j2,b,E3,t5];refine NY (λz=>?_) λ_=>?_;have G:(!t.plain&&decide (es.size > 1))=a9:=z;simp at G;lia;refine t9<|show i7 (j2 prog w) A (if (!t.led && !es.isEmpty)=a9 then unsupported _ else pure ()) _ _ s from ?_;rw[d];simp only[NW,J7,E3,t5];exact u9<|u9 h
theorem sX(j k:Nat):G0 #[j] k=if j<k then 1 else 0:=by unfold G0;simp only[C9,C5,Fn];unfold OY;simp only[Nat.zero_lt_succ,t6];by_cases h:j<k;simp[h,OY];simp[h,OY]
theorem xf(d:w.params.followText "set-order" = b7)(f:t.led=a9)(hsz:es.size<=1)(r:A.handled=a8)(l:a≠it):Walks prog w A it [it,a] [it] es.size (λi v=>(es.toList.map (·.2))[i]?=a7 v) (λi h=>h.get? it=a7 (dO (l7 (if i=0 then 0 else t.place.getD 0 0+1:Nat)) i es.size a ep)/\SetAt h a o es ep t) where
 sub:=λb d=>by simp at d;simp[d]
 frame:=λ_ _ _ c n=>⟨n it (by simp) _ c.1,c.2.at λo e=>n a (by simp) o e⟩
 item:=λi s Q E hi c g=>by
  obtain rfl:i=0:=by lia
  have ps:t.place.size=1:=by have:=c.2.ft;simp[Pk]at this;lia
  obtain⟨j,L⟩:∃j,t.place = #[j]:=⟨t.place[0],by apply Array.ext (by simpa using ps);intro i h1 h2;simp at h2;subst h2;rfl⟩
  have m:es[0]?=a7 es[0]:=L1 hi;refine mz (slot:=0) (next:=j+1) (x:=es[0].2) c.1 c.2 (λA E Q q=>jB d f hsz c.2 ?_) λh' h1 U=>g _ h' s.toks ?_ ⟨?_,c.2.at λo e=>(U.2 a l).trans e⟩ λb o d e=>(U.2 b<|by simpa using d).trans e;rw[L,sX,q9<|Og _,m];exact q;rw[G2,J3,m];rfl;simpa [L]using h1
 done:=λs Q E c g=>by
  refine dL (slot:=if es.size=0 then 0 else t.place.getD 0 0+1) r c.1 c.2 (λA E Q q=>jB d f hsz c.2 ?_) λh' k=>g h' s.toks λb o d e=>k b o (by simpa using d) e;have ps:t.place.size=es.size:=by have:=c.2.ft;simp[Pk]at this;lia
  by_cases z:es.size=0;have:es = #[]:=Array.eq_empty_of_size_eq_zero z;subst this;simpa using q;obtain⟨j,L⟩:∃j,t.place = #[j]:=⟨t.place[0],by apply Array.ext (by simp;lia);intro i h1 h2;simp at h2;subst h2;rfl⟩
  have p:G0 t.place (if es.size=0 then 0 else t.place.getD 0 0+1)=1:=by rw[q9 z,L,sX];simp
  rw[p,O3<|by lia];exact q
 self:=λ_ _ _ _ c g=>fH c.1 g
theorem jC(c:w.params.followText "set-order" = b7)(d:t.led=a9)(b:(!t.plain&&decide (es.size > 1))=b7)(S:SetAt s.heap a o es ep t)(h:Q (match es[G0 t.place slot]?,t.place[G0 t.place slot]? with|some (_,x),a7 j=>a7 (x,j+1)|_,_=>a8) s):i7 (j2 prog w) A (setNext a slot i ep) Q E s:=by unfold setNext;refine t9<|Ny S.ob S.dt S.ft ?_;unfold setsByText;refine t9<|t9<|OW<|u9 ?_;simp only[j2,c,E3,t5];refine NY (λz=>?_) λ_=>?_;have G:(!t.plain&&decide (es.size > 1))=a9:=z;rw[b]at G;cases G;refine t9<|show i7 (j2 prog w) A (if (!t.led && !es.isEmpty)=a9 then unsupported _ else pure ()) _ _ s from ?_;rw[d];simp only[NW,J7,E3,t5];exact u9<|u9 h
theorem xg(d:w.params.followText "set-order" = b7)(f:t.led=a9)(m:(!t.plain&&decide (es.size > 1))=b7)(H:t.place.toList.Pairwise (· < ·))(J:A.handled=a8)(y:a≠it):Walks prog w A it [it,a] [it] es.size (λi v=>(es.toList.map (·.2))[i]?=a7 v) (λi h=>h.get? it=a7 (dO (l7 (if i=0 then 0 else t.place.getD (i-1) 0+1:Nat)) i es.size a ep)/\SetAt h a o es ep t):=by
 have l:∀i,i<=t.place.size->G0 t.place (if i=0 then 0 else t.place.getD (i-1) 0+1)=i:=λi hi=>by
  obtain⟨p,g,u⟩:=Ht.below_spec t.place H<|if i=0 then 0 else t.place.getD (i-1) 0+1;have n:∀a b (C:a<t.place.size) (d:b<t.place.size),a<b->t.place[a]<t.place[b]:=λa b C d h=>by have:=RU.mp H a b (by simpa using C) (by simpa using d) h;simpa using this
  by_cases z:i=0;rw[p9 z]at p g u ⊢;rcases Nat.eq_zero_or_pos (G0 t.place 0)with q|q;rw[q,z];have:=g 0 (by lia) q;lia;rw[q9 z]at p g u ⊢;have r:i-1<t.place.size:=by lia
  have I:t.place.getD (i-1) 0=t.place[i-1]:=by simp[Nf,r]
  rw[I]at p g u ⊢;rcases Qh (G0 t.place<|t.place[i-1]+1) i with q|q|q;have:=u (i-1) r (by lia);lia;exact q;have:=g i (by lia) q;have:=n (i-1) i r (by lia) (by lia);lia
 exact {
  sub:=λb d=>by simp at d;simp[d]
  frame:=λ_ _ _ c F=>⟨F it (by simp) _ c.1,c.2.at λo e=>F a (by simp) o e⟩
  item:=λi s Q E hi c j=>by
   have ps:t.place.size=es.size:=by have:=c.2.ft;simp[Pk]at this;lia
   have G:i<t.place.size:=by lia
   have D:es[i]?=a7 es[i]:=L1 hi;have B:t.place[i]?=a7 t.place[i]:=L1 G;refine mz (next:=t.place[i]+1) (x:=es[i].2) c.1 c.2 (λA E Q q=>jC d f m c.2 ?_) λh' h1 U=>j _ h' s.toks ?_ ⟨?_,c.2.at λo e=>(U.2 a y).trans e⟩ λb o d e=>(U.2 b<|by simpa using d).trans e;rw[l i (by lia),D,B];exact q;rw[G2,J3,D];rfl;rw[q9<|Nat.succ_ne_zero i,Nat.add_sub_cancel,show t.place.getD i 0=t.place[i] by simp[Nf,G]];exact h1
  done:=λs Q E c j=>by
   have ps:t.place.size=es.size:=by have:=c.2.ft;simp[Pk]at this;lia
   refine dL J c.1 c.2 (λA E Q q=>jC d f m c.2 ?_) λh' k=>j h' s.toks λb o d e=>k b o (by simpa using d) e;rw[l es.size (by lia),O3<|z5 _];exact q
  self:=λ_ _ _ _ c j=>fH c.1 j }
theorem DP(S:SetAt s.heap a o es ep t)(B:o.cls=.type "set")(x:t.plain=a9->es.size<=1\/t.place.toList.Pairwise (· < ·))(g:t.led = !w.params.followText "set-order")(hz:es.size<=sizeLine)(h:∀(it:d7) (h':d9) (d:Drawn) (vs:List b9) (fp:List d7) (St:Nat->d9->Prop),(∀b o,s.heap.get? b=a7 o->h'.get? b=a7 o)->vs.Perm (es.toList.map (·.2))->s.heap.objs.size<=it->it<h'.objs.size->(∀b∈fp,b=a\/s.heap.objs.size<=b/\b<h'.objs.size) -> (∀A':f9,A'.handled=a8->Walks prog w A' it fp [it] es.size (λi v=>vs[i]?=a7 v) St)->St 0 h'->Q (.ref it) { s with heap:=h',drawn:=d }):i7 (j2 prog w) A (l6<|.ref a) Q E s:=by
 have T:s.TypeIs (.ref a) "set":=⟨o,S.ob,B⟩
 have r:a<s.heap.objs.size:=C2 S.ob;refine Q8 T F.slot_set_iter<|J2 F.slot_set_iter T pK ?_<|F.args_set_iter_1 _;unfold Builtin.«frozenset.__iter__»;refine t9<|show i7 (j2 prog w) _ (pure a) _ _ s from u9 ?_;unfold Builtin.Frozenset.sizeOf;refine t9<|t9<|Qq S.ob S.dt S.ft<|u9 ?_;unfold setDrawn;refine t9<|t9<|Ny S.ob S.dt S.ft ?_;unfold setsByText;refine t9<|t9<|OW<|u9<|u9 ?_;by_cases p:(!w.params.followText "set-order" && (!t.plain&&decide (es.size > 1)))=a9;refine NY (λ_=>?_) λz=>r9 p z;refine t9<|sL _ _ _ _ (by simp) λps d u=>?_;refine t9<|show i7 (j2 prog w) _ (newObj (.type "tuple")<|.seq (ps.map λ(i:Nat)=>l7 i).toArray) _ _ _ from K5 ?_ (by have e:=u.length_eq;rw[Ps]at e;show (ps.map λ(i:Nat)=>l7 i).toArray.size<=sizeLine;rw[C9,x6,e];exact hz);have S1:=S.at (h':=s.heap.push { cls:=.type "tuple",data:=.seq (ps.map λ(i:Nat)=>l7 i).toArray }) λo e=>A9 _ e;refine t9<|wpAny_setEpoch_of (s:={ s with heap:=_,drawn:=d }) S1.ob S1.dt S1.ft ?_;refine t9 (show i7 (j2 prog w) _ (newObj (.type "set_iterator")<|.fields #[.ref s.heap.objs.size,l7 0,.ref a,l7 es.size,l7 ep]) _ _ _ from K5 ?_<|by size_fits);refine u9 ⟨_,rfl,"set_iterator",_,⟨_,E1 _ rfl,rfl⟩,bn.lookup,?_⟩;have n:(s.heap.push { cls:=.type "tuple",data:=.seq (ps.map λ(i:Nat)=>l7 i).toArray }).objs.size=s.heap.objs.size+1:=MH ..;refine h _ _ d (ps.filterMap λj=>(es[j]?).map (·.2)) _ _ (λb o e=>A9 _<|A9 _ e) ?_ (by show s.heap.objs.size<=(s.heap.push _).objs.size;rw[n];exact OQ _) (by show _<((s.heap.push _).push _).objs.size;rw[MH (h:=s.heap.push _)];exact MW _) ?_ (λA' k=>tH (o:=o) (t:=t) (ep:=ep) u k (D6<|by rw[n];exact OZ r)<|D6<|by rw[n];exact MW _) ⟨E1 _ rfl,S1.at λo e=>A9 _ e,⟨_,A9 _<|E1 _ rfl,rfl,_,rfl⟩⟩;refine(u.filterMap _).trans ?_;have y:(C3 es.size).filterMap (λj=>(es[j]?).map (·.2))=((C3 es.size).filterMap λj=>es[j]?).map (·.2):=by rw[List.map_filterMap]
 rw[y,filterMap_getElem?_range];intro b c;rw[MH,n];rcases A5.mp c with rfl|c;exact .inr ⟨by rw[n];exact OQ _,by rw[n];exact MW _⟩;rcases A5.mp c with rfl|c;exact .inl rfl;rw[G1.mp c];exact .inr ⟨z5 _,OZ<|MW _⟩;refine NY (λz=>r9 z p) λ_=>?_;refine t9<|u9<|t9<|wpAny_setEpoch_of S.ob S.dt S.ft ?_;refine t9 (show i7 (j2 prog w) _ (newObj (.type "set_iterator")<|.fields #[l7 0,l7 0,.ref a,l7 es.size,l7 ep]) _ _ _ from K5 ?_<|by size_fits);refine u9 ⟨_,rfl,"set_iterator",_,⟨_,E1 _ rfl,rfl⟩,bn.lookup,?_⟩;have S1:=S.at (h':=s.heap.push<|dO (l7 0) 0 es.size a ep) λo e=>A9 _ e;have l:∀b∈[s.heap.objs.size,a],b=a\/s.heap.objs.size<=b/\b<(s.heap.push<|dO (l7 0) 0 es.size a ep).objs.size:=λb c=>by rcases A5.mp c with rfl|c;exact .inr ⟨z5 _,by rw[MH];exact MW _⟩;exact .inl<|G1.mp c
 by_cases c:w.params.followText "set-order" = a9;refine h _ _ s.drawn ((p7 (w.params.setOrder a ep) es).toList.map (·.2)) _ _ (λb o e=>A9 _ e) ((lU _ es).map _) (z5 _) (by rw[MH];exact MW _) l (λA' k=>xc (o:=o) (t:=t) (ep:=ep) c k<|D6 r) ⟨E1 _ rfl,S1⟩;have f:w.params.followText "set-order" = b7:=by simpa using c
 have m:(!t.plain&&decide (es.size > 1))=b7:=by rw[f]at p;simpa using p
 have aq:es.size<=1\/t.place.toList.Pairwise (· < ·):=by by_cases q:t.plain=a9;exact x q;simp[q]at m;exact .inl m
 rcases aq with h1|C;refine h _ _ s.drawn (es.toList.map (·.2)) _ _ (λb o e=>A9 _ e) (Pm _) (z5 _) (by rw[MH];exact MW _) l (λA' k=>xf (o:=o) (t:=t) (ep:=ep) f (by rw[g,f];rfl) h1 k<|D6 r) ⟨?_,S1⟩;rw[p9 rfl];exact E1 _ rfl;refine h _ _ s.drawn (es.toList.map (·.2)) _ _ (λb o e=>A9 _ e) (Pm _) (z5 _) (by rw[MH];exact MW _) l (λA' k=>xg (o:=o) (t:=t) (ep:=ep) f (by rw[g,f];rfl) m C k<|D6 r) ⟨?_,S1⟩;rw[p9 rfl];exact E1 _ rfl
end L2
namespace L2
open PySem PySem.Spec PyProof.Rows DL PySem.W PySem.Calls PyProof.V
theorem DZ(n:s.TypeIs (.ref a) "set")(h:Q b7 s):i7 (j2 prog w) A (R7<|.ref a) Q E s:=by
 unfold R7;refine t9<|Of n F.slot_set_len.lookup ?_;generalize hi:("set.__len__":String)=t
 wp_delta
 rw[show splitId t=a7 ("set","__len__") by rw[<-hi];decide +kernel];rw[<-hi];refine t9<|Oz (T:="set") (b:=a9) n sub_set_self<|NY (λz=>r9 z<|by decide) λ_=>NY (λ_=>t9<|Pi n<|u9 h) λz=>r9 (by decide +kernel) z
theorem xT{R:Result->g8->Prop}(N:A.handled=a8)(S:SetAt s.heap a o es ep t)(B:o.cls=.type "set")(G:t.plain=a9->es.size<=1\/t.place.toList.Pairwise (· < ·))(v:t.led = !w.params.followText "set-order")(hz:es.size<=sizeLine){D:d7}{c₀:Nat} (p:D≠a) (L:s.heap.get? D=a7 { cls:=.type "list",data:=.seq #[] c₀ }) (res:b9)(Z:∀h' tk d vs c,(∀b u,b≠D->s.heap.get? b=a7 u->h'.get? b=a7 u)->h'.get? D=a7 { cls:=.type "list",data:=.seq vs c }->vs.toList.Perm (es.toList.map (·.2))->R (.ok<|.ret res) { s with heap:=h',toks:=tk,drawn:=d }):i7 (j2 prog w) A.in1 (R6 (.ref D) (.ref a) res)
   (λfin s'=>match fin with|.done f=>R (.ok f) s'|.again c'=>c'.quiet=a9/\n3 (j2 prog w) A c' R s') (λe s'=>R (.error e) s') s:=by
 have ld:D<s.heap.objs.size:=C2 L;have hT:s.TypeIs (.ref a) "set":=⟨o,S.ob,B⟩
 unfold R6;refine t9<|Pi hT ?_;have T:Builtin.List.listSameRef (.ref D) (.ref a)=b7:=by simp[Builtin.List.listSameRef,p]
 have U:(OP "set" == OP "list")=b7:=by decide
 have V:(OP "set" == OP "tuple")=b7:=by decide
 simp only[T,U,V,Bool.or_false,E3,t5];refine t9<|DP S B G v hz λit h1 d vs Y St H pv I ab C W P=>?_;have M:D∉Y:=λz=>by
  rcases C D z with e|⟨e,_⟩
  exact p e;exact r9 ld<|NT.mpr e
 have lv:vs.length=es.size:=by have:=pv.length_eq;simpa using this
 have K:∀(h:d9) (g:Nat),St 0 h->(∀b u,b≠D->h1.get? b=a7 u->h.get? b=a7 u)->h.get? D=a7 { cls:=.type "list",data:=.seq #[] g } -> n3 (j2 prog w) A (.builtin "list.extend.loop" ⟨[.ref D,.ref it,res],[]⟩) R { s with heap:=h,drawn:=d }:=λh g J kk y=>by
  refine codeAny_extend_loopS (W A.in1<|by simp[N]).toS hz D M res es.size 0 _ #[] g rfl (D4 _) J y (ItemsOf.nil _) λs' acc c' O m j=>?_;rw[Moved.eq_with O];have X:acc.toList=vs:=by
   apply Ra;intro i;by_cases hi:i<es.size;have E:i<acc.size:=by rw[j.1];exact hi
   have h1:acc[i]?=a7 acc[i]:=L1 E;rw[J3,h1];exact(j.2 i _ h1).symm;rw[O2 (by rw[G3,j.1];lia),O2<|by lia]
  refine Z s'.heap s'.toks d acc c' (λb u k e=>O.heap b u (λz=>?_)<|kk b u k<|H b u e) m (by rw[X];exact pv);rcases A5.mp z with Q|z;exact k Q;rw[G1.mp z]at e;exact r9 (C2 e)<|NT.mpr I
 have l:=H _ _ L;refine t9<|K8<|DZ (s:={ s with heap:=h1,drawn:=d }) ⟨o,H _ _ S.ob,B⟩ ?_;refine NY (λz=>?_) λ_=>u9 ⟨P5 F.plain_extend_loop _,K h1 c₀ P (λ_ _ _ e=>e) l⟩;refine t9 (Oa (t9 (show i7 (j2 prog w) _ (updateSeq D (·.push .none) >>= λ_=>updateSeq D (·.pop)) _ _ _ from t9<|wpAny_updateSeq l rfl ?_)));have n:=MX (MM (·.push K4)) l rfl;refine wpAny_updateSeq (hz:=by seq_fits) n rfl ?_;have x:=MX (MM (·.pop)) n rfl;have r:∀b,b≠D->((h1.update D (MM (·.push K4))).update D (MM (·.pop))).get? b=h1.get? b:=λb k=>by rw[Py _ _<|D3 k,Py _ _<|D3 k]
 refine u9 ⟨P5 F.plain_extend_loop _,K _ _ ((W A N).frame 0 _ _ P λb k u e=>(r b λq=>M<|q ▸ k).trans e) (λb u k e=>(r b k).trans e) x⟩
theorem xm{Q:b9->g8->Prop}(H:A.handled=a8)(S:SetAt s.heap a o es ep t)(G:o.cls=.type "set")(B:t.plain=a9->es.size<=1\/t.place.toList.Pairwise (· < ·))(y:t.led = !w.params.followText "set-order")(hz:es.size<=sizeLine)(h:∀h' tk d D (vs:List b9),(∀b u,s.heap.get? b=a7 u->h'.get? b=a7 u)->s.heap.get? D=a8->h'.get? D=a7 { cls:=.type "list",data:=.seq vs.toArray }->vs.Perm (es.toList.map (·.2)) -> i7 (j2 prog w) A.in1 (call (.builtin "list.sort") [.ref D]) (λ_ s'=>Q (.ref D) s') E { s with heap:=h',toks:=tk,drawn:=d }):i7 (j2 prog w) A (call (.builtin "sorted") [.ref a]) Q E s:=by
 have I:a<s.heap.objs.size:=C2 S.ob;refine call_function_entry kind_sorted plain_sorted entry_sorted (args_sorted1 _) ?_;unfold Builtin.«sorted»;refine t9 (m:=checkCount "sorted" 1 1 _)<|u9 ?_;unfold collect;refine t9<|t9<|wpAny_runValue<|Pp F.entry_proto_collect ?_;rw[Qu F.plain_proto_collect _];refine(show i7 (j2 prog w) _ (newList [] >>= λl=>again<|.builtin "list.__iadd__" ⟨[l,.ref a],[]⟩) _ _ s from t9<|K5<|u9 ⟨P5 F.plain_list_iadd _,Pp F.entry_list_iadd ?_⟩);rw[Qu F.plain_list_iadd _];have S1:=S.at (h':=s.heap.push { cls:=.type "list",data:=.seq ([]:List b9).toArray }) λo e=>A9 _ e;have C:=xT (prog:=prog) (A:=A.in1) (s:={ s with heap:=s.heap.push { cls:=.type "list",data:=.seq ([]:List b9).toArray } }) (D:=s.heap.objs.size) (c₀:=0) (res:=.ref s.heap.objs.size) (R:=λr s'=>∃h' tk d vs c,r=.ok (.ret<|.ref s.heap.objs.size)/\s'={ s with heap:=h',toks:=tk,drawn:=d }/\(∀b u,s.heap.get? b=a7 u->h'.get? b=a7 u)/\h'.get? s.heap.objs.size=a7 { cls:=.type "list",data:=.seq vs c }/\vs.toList.Perm (es.toList.map (·.2))) (by simp[H]) S1 G B y hz (Nat.ne_of_gt I) (E1 _ rfl) λh' tk d vs c k g p=>⟨h',tk,d,vs,c,rfl,rfl,λb u e=>k b u (D6<|C2 e)<|A9 _ e,g,p⟩
 have i:∀h' tk d (vs:Array b9) c,(∀b u,s.heap.get? b=a7 u->h'.get? b=a7 u)->h'.get? s.heap.objs.size=a7 { cls:=.type "list",data:=.seq vs c }->vs.toList.Perm (es.toList.map (·.2)) -> i7 (j2 prog w) A.in1 (do let ob <-load s.heap.objs.size;match ob.data with|.seq xs _=>pure xs.toList|_=>unsupported "internal:collect":Sem (List b9)) (λxs s'=>i7 (j2 prog w) A.in1 (do let l <-newList xs;let _ <-j8 [l] (call (.builtin "list.sort") [l] []);ret l) (λn s'=>∃v,n=Fin.done (Flow.ret v)/\Q v s') E s') E { s with heap:=h',toks:=tk,drawn:=d }:=λh' tk d vs c j g p=>by
  refine t9 (wpAny_load g<|u9<|t9<|wpAny_newList ?_<|by rw[p.length_eq];simpa using hz);have J:s.heap.objs.size<h'.objs.size:=C2 g;refine t9<|K8<|L6 (h (h'.push { cls:=.type "list",data:=.seq vs.toList.toArray }) tk d h'.objs.size vs.toList (λb u e=>A9 _<|j b u e) ?_ (E1 _ rfl) p) (λ_ s' q=>u9 ⟨_,rfl,q⟩) λ_ _ z=>z;cases q:s.heap.get? h'.objs.size with
  |none=>rfl
  |some o'=>exact r9 (C2<|j _ _ q)<|K9 _
 refine L6 C (λn s' x=>?_) λe s' ⟨_,_,_,_,_,z,_⟩=>by cases z
 cases n with
 |done f=>obtain⟨h',tk,d,vs,c,z,rfl,j,g,p⟩:=x;cases z;exact i h' tk d vs c j g p
 |again c'=>refine⟨x.1,Pj x.2 ?_⟩;rintro r K ⟨h',tk,d,vs,c,z,e,j,g,p⟩;subst z e;exact i h' tk d vs c j g p
end L2
namespace L2
open PySem PySem.Spec PyProof.Rows DL PySem.W
theorem u6.drew(I:u6 X pins σ H s):u6 X pins σ H { s with drawn:=d }:=⟨I.ok,I.os,I.bare,I.base,I.loc,I.cell,I.free,I.freeC,I.pin,I.hok,I.len⟩
end L2
namespace L2
open PySem PySem.Spec PyProof.Rows DL PySem.Builtin PySem.Builtin.Str PySem.StrLaws
theorem BL(a b B:Nat):strSliceIndices (a7 (a:Int)) (a7 (b:Int)) 1 B=strSliceIndices (a7 ((min a B:Nat):Int)) (a7 ((min b B:Nat):Int)) 1 B:=by
 have e:∀i:Nat,max (0:Int) (min (i:Int) (B:Int))=max (0:Int) (min ((min i B:Nat):Int) (B:Int)):=λi=>by lia
 have n:∀i:Nat,¬((i:Int)<0):=λi=>by lia
 simp only[strSliceIndices,n,t5,show ((1:Int) > 0)=True by simp,t6];rw[e a,e b]
theorem dD(x:c9)(l u:Option Int):(J6 x l u).cps.toList=if (strSliceIndices l u 1 x.length).length=x.length then x.cps.toList else(strSliceIndices l u 1 x.length).filterMap (x.cps[·]?):=by unfold J6;by_cases h:(strSliceIndices l u 1 x.length).length=x.length;rw[p9 (by simp[h]),p9 h];rw[q9 (by simp[h]),q9 h]
theorem rG(x:c9){a b:Nat}(S:a<=b):(J6 x (a7 (a:Int))<|a7 (b:Int)).cps.toList=(x.cps.toList.drop a).take (b-a):=by
 have d:min a x.length<=min b x.length:=by lia
 have l:(strSliceIndices (a7 ((min a x.length:Nat):Int)) (a7 ((min b x.length:Nat):Int)) 1 x.length).filterMap (x.cps[·]?)=(x.cps.toList.drop<|min a x.length).take (min b x.length-min a x.length):=sliced_plain x d<|Nat.min_le_right ..;have Q:=aA (a:=x);have n:(x.cps.toList.drop<|min a x.length).take (min b x.length-min a x.length)=(x.cps.toList.drop a).take (b-a):=by by_cases f:a<=x.length;rw[Qa f];by_cases c:b<=x.length;rw[Qa c];rw[Nat.min_eq_right (by lia),Qw (by rw[N0];lia),Qw<|by rw[N0];lia];rw[RO (i:=a) (by lia),RO (i:=min a x.length)<|by lia];simp
 rw[dD,BL,l,n];split;rename_i h;rw[strSliceIndices_plain d<|Nat.min_le_right ..]at h;simp only[x6,Ps]at h;have e:min a x.length=0:=by lia
 by_cases g:x.length=0;have:x.cps.toList=[]:=List.eq_nil_of_length_eq_zero (by lia);rw[this];simp;have:a=0:=by lia
 subst this;rw[List.drop_zero,Qw<|by lia];rfl
end L2
namespace L2
open PySem PySem.Spec PyProof.Rows DL PySem.W
def FP:G8:=λx y M Q=>match x,y with
 |.int i,.int j=>MB i j/\Q (.int<|i ^ j.toNat) M
 |_,_=>False
theorem Km:G7 X (m3 .Pow) FP:=by refine E4.imp Kd ?_;rintro g l H R ⟨x,y,M,ρ,Q,s,r,m,q,k⟩;unfold FP at q;split at q;cases r;cases m;exact⟨_,_,rfl,rfl,q.1,k _ H<|VQ.now s (.int _) q.2⟩;exact q.elim
theorem Li:G9 X (m3 .Pow) FP:=⟨Km⟩
def tZ(z:c9):E9:=λds M Q=>match ds with
 | [.ref n]=>∃xs:List c9,ao M n (xs.map .str)/\(xs.map (·.length)).sum+xs.length*z.length<=16777216/\Q (.str<|Ot z xs) M
 |_=>False
theorem rA:∀{xs:List c9}{us:List b9},ax (xs.map V.str) us->StrsAre us xs
 | [],_,h=>by cases h;exact .nil
 |x::xs,_,h=>by
  cases h with
  |cons a t=>obtain⟨t',rfl⟩:=a;exact .cons x t'<|rA t
theorem nU{K:v9}{ρ:List d7}{H:Hp}:∀{xs:List c9}{vs:List V},Reps K ρ H (xs.map D.str) vs->vs=xs.map V.str
 | [],_,h=>by cases h;rfl
 |x::xs,_,h=>by
  cases h with
  |cons a t=>cases a;rw[B9,nU t]
theorem GC:Nd X "str.join" (Dp X.K tZ):=by
 rintro b s σ H x xs v us R I j i ⟨z,ds,M,ρ,Q,c,m,f,q,k⟩;subst c;obtain⟨t,rfl⟩:=j;unfold tZ at q;split at q;obtain⟨ys,L,a,q⟩:=q
 first|have h:=Reps.inv_cons f|have h:=ax.inv_cons f
 clear f;obtain⟨_,_,rfl,e,f⟩:=h;cases f;obtain⟨_,rfl,n⟩:=w5.inv_ref e;obtain⟨u,rfl,rfl⟩:=ax.one i;obtain⟨vs,hs,r⟩:=L.seq m n;obtain rfl:=nU r;obtain⟨its,g,p,_⟩:=I.list hs;exact join_list p.isList (by simpa using rA g) a λt' d=>⟨.str _,H,I.tok d,⟨t',rfl⟩,k _ H<|VQ.now m (.str _) q⟩
 exact q.elim
theorem Hv:RD X "join" tZ:=⟨_,PySem.F.slot_str_join,PySem.F.type_str_join,GC⟩
def lQ(z:c9):E9:=λds M Q=>match ds with
 | [.str y]=>∃i aX,Qy z y 0 z.length 1=i::aX/\Q (.int (i:Nat)) M
 |_=>False
theorem Dl:Nd X "str.index" (Dp X.K lQ):=by
 rintro p s σ H x xs v us R I g a ⟨z,ds,M,ρ,Q,c,m,f,q,k⟩;subst c;obtain⟨t,rfl⟩:=g;unfold lQ at q;split at q;obtain⟨i,aX,B,q⟩:=q
 first|have h:=Reps.inv_cons f|have h:=ax.inv_cons f
 clear f;obtain⟨_,_,rfl,r,f⟩:=h;cases f;cases r;obtain⟨u,rfl,t',rfl⟩:=ax.one a;exact call_gives F.slot_str_index (typeIs_str _ _ _) F.entry_str_index (F.args_str_index_2 _ _) (gives_str_index _ _ _ _ i aX B) ⟨.int _,H,I.tok _,⟨_,rfl⟩,k _ H<|VQ.now m (.int _) q⟩;exact q.elim
theorem DY:RD X "index" lQ:=⟨_,PySem.F.slot_str_index,PySem.F.type_str_index,Dl⟩
def sO(i:Nat)(b:Bool):A2:=λS M Q=>match S[i]? with
 |some (a7<|.str z)=>Q (.ref M.length)<|M++[.dct [(z,.bl b)]]
 |_=>False
theorem Ij(g:PE X (.Name x p) (tVar i)):DE X (.Dict [a7<|.Name x p] [.Constant (.bool b) j p'] pos) (sO i b):=by
 refine PE.imp (Gf (CN g JX Ga) rfl rfl (by simp)<|Nat.succ_le_succ<|D4 _) ?_;rintro σ H R ⟨S,M,ρ,Q,m,s,q,k⟩;unfold sO at q;split at q;rename_i z d;obtain⟨v,l,r⟩:=s.get i _ d;cases r;intro a h;refine⟨_,l,bi,[(ACE z,.bl b)],rfl,Nat.succ_le_succ<|D4 _,k _ _ ?_⟩;have e:A0 (A0 H a<|.dK []) a (.dK<|og [] [(ACE z,V.bl b)])=A0 H a (.dK<|pe [z] [V.bl b]):=by funext c;by_cases f:c=a;subst f;rw[bi,bi];rfl;rw[az f,az f,az f]
 rw[e];exact⟨.ref M.length,M++[.dct [(z,.bl b)]],ρ++[a],m.laidM (mo:=.dct [(z,.bl b)]) h ⟨[.bl b],bi,.cons (.bl b) .nil⟩,Grow.laidR h,.ref m.last,q⟩;exact q.elim
theorem Hf(h:X.N[i]?=a7 x:=by kernel_rfl)(c:visB X.env.scope x=a9:=by kernel_rfl)(a:(x==("__debug__":c9))=b7:=by kernel_rfl)(d:(x==("__classdict__":c9))=b7:=by kernel_rfl):HE X (.Dict [a7<|.Name x p] [.Constant (.bool b) j p'] pos) (sO i b):=⟨Ij<|zW h (EI c) a d⟩
end L2
namespace Ht
open PySem
def Np(ow:Array (Option Nat))(s:Nat):Prop:=∃i,ow[s]?=a7 (a7 i)
theorem getD_none(hs:s<ow.size):(ow.getD s<|a7 0).isNone=a9↔¬Np ow s:=by
 have e:ow[s]?=a7 ow[s]:=L1 hs;have l:ow.getD s (a7 0)=ow[s]:=by simp[Nf,hs]
 rw[l];unfold Np;rw[e];cases ow[s]<;>simp
theorem Bv(hz:ow.size=m+1)(h:Int):∀(fuel k0 k:Nat),k0<=k->k<k0+fuel->¬Np ow (dE m h k).1->(∀n,n<dW m h k0->Np ow (sq m h n).j) ->∃N,Rk m ow fuel (dE m h k0).1 (dE m h k0).2=a7 (sq m h N).j/\¬Np ow (sq m h N).j/\∀n,n<N->Np ow (sq m h n).j:=by
 intro fuel;induction fuel with
 |zero=>intro k0 k h1 h2;lia
 |succ fuel l =>
  intro k0 k h1 h2 c d;have p:=tY m h k0;have u:L0 m (dE m h k0).1<=m/\(dE m h k0).1<=L0 m (dE m h k0).1:=by unfold L0;split<;>lia
  unfold Rk;cases f:(C3<|L0 m (dE m h k0).1+1-(dE m h k0).1).find? λk=>(ow.getD ((dE m h k0).1+k)<|a7 0).isNone with
  |some r =>
   have i:=P9 f;have b:=Rp f;rw[I9]at b;refine⟨dW m h k0+r,by rw[zv m h k0 r<|by lia],?_,λn g=>?_⟩;rw[zv m h k0 r<|by lia];exact(getD_none<|by lia).mp i;rcases Nt n (dW m h k0)with q|q;exact d n q;obtain⟨r',rfl⟩:∃r',n=dW m h k0+r':=⟨n-dW m h k0,by lia⟩
   rw[zv m h k0 r'<|by lia];refine Oo λo=>?_;have t:r' < r:=by lia
   have z:=(getD_none (ow:=ow) (s:=(dE m h k0).1+r')<|by lia).mpr o;have:=List.find?_range_eq_some.mp f;have:=this.2.2 r' t;rw[z]at this;exact r9 this<|by simp
  |none =>
   have a:∀r,r<=L0 m (dE m h k0).1-(dE m h k0).1->Np ow ((dE m h k0).1+r):=λr i=>by refine Oo λo=>?_;have z:=(getD_none (ow:=ow) (s:=(dE m h k0).1+r)<|by lia).mpr o;have:=List.find?_eq_none.mp f r (I9.mpr<|by lia);exact this z
   have v:k0≠k:=λe=>by subst e;exact c<|a 0<|D4 _
   refine l (k0+1) k (by lia) (by lia) c λn g=>?_;unfold dW at g;rcases Nt n (dW m h k0)with q|q;exact d n q;obtain⟨r',rfl⟩:∃r',n=dW m h k0+r':=⟨n-dW m h k0,by lia⟩
   rw[zv m h k0 r'<|by lia];exact a r'<|by lia
structure Laid(m:Nat)(hs:List Int)(ow:Array (Option Nat))(k:Nat):Prop where
 sz:ow.size=m+1
 lt:∀s i:Nat,ow[s]?=a7 (a7 i)->i<k
 inj:∀s s' i:Nat,ow[s]?=a7 (a7 i)->ow[s']?=a7 (a7 i)->s=s'
 all:∀i:Nat,i<k->∃s:Nat,ow[s]?=a7 (a7 i)
 path:∀(s i:Nat) (h:Int),ow[s]?=a7 (a7 i)->hs[i]?=a7 h->∃n,(sq m h n).j=s/\∀n',n' < n->Np ow (sq m h n').j
theorem Laid.room(L:Laid m hs ow k)(q:k<=m):∃s,s<=m/\¬Np ow s:=by
 refine Oo λo=>?_;have c:∀s,s<=m->Np ow s:=λs hs=>Oo λz=>o ⟨s,hs,z⟩;have d:∀s,s∈C3 (m+1)->((ow.getD s a8).getD 0)∈C3 k:=λs u=>by
  obtain⟨i,e⟩:=c s (by have:=I9.mp u;lia);have:ow.getD s a8=a7 i:=by obtain⟨g,z⟩:=N3.mp e;simp[Nf,g,z]
  rw[this];exact I9.mpr<|L.lt s i e
 have X:((C3<|m+1).map λs=>(ow.getD s a8).getD 0).Nodup:=by
  rw[Pz,NN];have base:=List.nodup_range (n:=m+1);rw[Pz]at base;refine base.imp_of_mem λ{a b} ha hb hne e=>hne ?_;obtain⟨i,f⟩:=c a (by have:=I9.mp ha;lia);obtain⟨j,h⟩:=c b (by have:=I9.mp hb;lia);have t:ow.getD a a8=a7 i:=by obtain⟨g,z⟩:=N3.mp f;simp[Nf,g,z]
  have l:ow.getD b a8=a7 j:=by obtain⟨g,z⟩:=N3.mp h;simp[Nf,g,z]
  rw[t,l]at e;have:i=j:=e;subst this;exact L.inj a b i f h
 have:=L2.nodup_le _ (C3 k) X λx p=>by obtain⟨s,u,rfl⟩:=A8.mp p;exact d s u
 rw[x6,Ps,Ps]at this;lia
theorem Laid.step(D:nr m)(L:Laid m hs ow k)(B:k<=m)(A:hs[k]?=a7 h):∃j,Rk m ow (Pl m) (NL h % (m+1)) (NL h)=a7 j/\Laid m hs (ow.setIfInBounds j<|a7 k) (k+1):=by
 obtain⟨s,g,l⟩:=L.room B;obtain⟨I,C,e⟩:=Fo D h g;obtain⟨N,v,x,y⟩:=Bv L.sz h (Pl m) 0 I (D4 _) (by unfold Pl;lia) (by rw[e];exact l) λn F=>r9 F<|Og _;refine⟨(sq m h N).j,v,?_⟩;have H:(sq m h N).j<ow.size:=by have:=zu (m:=m) h N;rw[L.sz];lia
 have a:(ow.setIfInBounds (sq m h N).j<|a7 k)[(sq m h N).j]?=a7 (a7 k):=by rw[Array.getElem?_setIfInBounds_self_of_lt H]
 have r:∀s,s≠(sq m h N).j->(ow.setIfInBounds (sq m h N).j<|a7 k)[s]?=ow[s]?:=λs f=>Array.getElem?_setIfInBounds_ne<|D3 f;have w:∀s,Np ow s->Np (ow.setIfInBounds (sq m h N).j<|a7 k) s:=λs ⟨i,z⟩=>by by_cases q:s=(sq m h N).j;subst q;exact⟨k,a⟩;exact⟨i,by rw[r s q];exact z⟩
 have d:∀s i,(ow.setIfInBounds (sq m h N).j<|a7 k)[s]?=a7 (a7 i)->(s=(sq m h N).j/\i=k)\/(s≠(sq m h N).j/\ow[s]?=a7 (a7 i)):=λs i z=>by by_cases q:s=(sq m h N).j;subst q;rw[a]at z;cases z;exact .inl ⟨rfl,rfl⟩;rw[r s q]at z;exact .inr ⟨q,z⟩
 refine⟨by rw[Array.size_setIfInBounds];exact L.sz,λs i z=>?_,λs s' i z G=>?_,λi hi=>?_,λs i h' z b=>?_⟩;rcases d s i z with⟨_,e⟩|⟨_,z⟩
 lia;have:=L.lt s i z;lia;rcases d s i z with⟨t,p⟩|⟨_,z⟩
 rcases d s' i G with⟨R,_⟩|⟨_,G⟩
 rw[t,R];have:=L.lt s' i G;lia;rcases d s' i G with⟨_,J⟩|⟨_,G⟩
 have:=L.lt s i z;lia;exact L.inj s s' i z G;by_cases q:i=k;subst q;exact⟨_,a⟩;obtain⟨s,z⟩:=L.all i (by lia);refine⟨s,?_⟩;rw[r s λe=>x ⟨i,by rw[<-e];exact z⟩];exact z;rcases d s i z with⟨t,p⟩|⟨_,z⟩
 subst t p;rw[A]at b;cases b;exact⟨N,rfl,λo c=>w _<|y o c⟩;obtain⟨n,E,u⟩:=L.path s i h' z b;exact⟨n,E,λo c=>w _<|u o c⟩
theorem GJ(l:nr m)(hs:List Int)(q:hs.length<=m):∃ow,SetTable.layClean m hs.toArray=a7 ow/\Laid m hs ow hs.length:=by
 have start:Laid m hs (Array.replicate (m+1) a8) 0:=by
  have n:∀s i:Nat,(Array.replicate (m+1) (a8:Option Nat))[s]?≠a7 (a7 i):=λs i z=>by rw[Array.getElem?_replicate]at z;split at z<;>cases z
  exact⟨by simp,λs i z=>r9 z<|n s i,λs _ i z=>r9 z<|n s i,λi hi=>r9 hi<|Og _,λs i _ z=>r9 z<|n s i⟩
 have c:∀(aX:List Int) (k:Nat) (ow:Array (Option Nat)),hs.drop k=aX->k+aX.length=hs.length->Laid m hs ow k -> ∃o,aX.foldl (init:=a7 (ow,k)) (λacc h=>do
    let (owner,k) <-acc
    let j <-Rk m owner (Pl m) (NL h % (m+1)) (NL h)
    pure (owner.setIfInBounds j<|a7 k,k+1))=a7 (o,hs.length)/\Laid m hs o hs.length:=by
  intro aX;induction aX with
  |nil =>
   intro k ow e a L;have:k=hs.length:=by simpa using a
   subst this;exact⟨ow,rfl,L⟩
  |cons h aX p =>
   intro k ow e a L;have d:hs[k]?=a7 h:=by
    have:(hs.drop k)[0]?=a7 h:=by rw[e];rfl
    rw[Rf]at this;simpa using this
   rw[C5]at a;obtain⟨j,f,b⟩:=L.step l (by lia) d;obtain⟨o,g1,g⟩:=p (k+1) (ow.setIfInBounds j<|a7 k) (by
    have:hs.drop (k+1)=(hs.drop k).drop 1:=by rw[List.drop_drop]
    rw[this,e];rfl) (by lia) b
   refine⟨o,?_,g⟩;rw[List.foldl_cons];simp only[Option.bind_eq_bind,Option.bind_some,f,Option.pure_def];exact g1
 obtain⟨ow,g1,g⟩:=c hs 0 _ rfl (by simp) start;refine⟨ow,?_,g⟩;unfold SetTable.layClean;rw[<-Array.foldl_toList];have:hs.toArray.toList=hs:=by simp
 rw[this,g1];rfl
theorem lV{α:Type}[DecidableEq α]:∀{l l':List α},l.Nodup->l'.Nodup->(∀x,x∈l↔x∈l')->l.Perm l'
 | [],l',_,_,h=>by have:l'=[]:=List.eq_nil_iff_forall_not_mem.mpr λx hx=>r9 ((h x).mpr hx) (by simp);rw[this]
 |x::l,l',n,n',h=>by have hx:x∈l':=(h x).mp C7;have n1:=MR.mp n;refine(QW x<|lV n1.2 (n'.erase x) λy=>?_).trans (List.perm_cons_erase hx).symm;by_cases e:y=x;subst e;constructor;intro z;exact r9 z n1.1;intro z;exact r9 z<|List.Nodup.not_mem_erase n';rw[List.mem_erase_of_ne e,<-h y,A5];exact⟨.inr,λz=>z.resolve_left e⟩
noncomputable def bA(m:Nat)(ow:Array (Option Nat)):List (Nat×Nat):=(C3<|m+1).filterMap λj=>(ow.getD j a8).map (j,·)
theorem dN(L:Laid m hs ow k):(s,i)∈bA m ow↔ow[s]?=a7 (a7 i):=by
 unfold bA;rw[List.mem_filterMap];constructor;rintro⟨j,hj,e⟩;have h:j<ow.size:=by rw[L.sz];exact I9.mp hj
 have l:ow.getD j a8=ow[j]:=by simp[Nf,h]
 rw[l]at e;cases q:ow[j] with
 |none=>rw[q]at e;cases e
 |some i'=>rw[q]at e;have:=F3 e;cases this;rw[L1 h,q]
 intro e;obtain⟨g,z⟩:=N3.mp e;refine⟨s,I9.mpr (by rw[<-L.sz];exact g),?_⟩;have l:ow.getD s a8=ow[s]:=by simp[Nf,g]
 rw[l,z];rfl
theorem sk(m:Nat)(ow:Array (Option Nat)):((bA m ow).map (·.1)).Pairwise (· < ·):=by unfold bA;rw[NN];refine List.Pairwise.filterMap (R:=(· < ·)) _ (λa c h b d e f=>?_)<|List.pairwise_lt_range;obtain⟨x,_,rfl⟩:=O4.mp d;obtain⟨y,_,rfl⟩:=O4.mp f;exact h
theorem sn(L:Laid m hs ow hs.length):((bA m ow).map (·.2)).Perm (C3 hs.length):=by
 have n:(bA m ow).Nodup:=by have:=sk m ow;rw[NN]at this;exact this.imp λh e=>by rw[e]at h;exact K9 _ h
 have X:((bA m ow).map (·.2)).Nodup:=by rw[Pz,NN];rw[Pz]at n;refine n.imp_of_mem λ{a b} ha hb hne e=>hne ?_;obtain⟨s,i⟩:=a;obtain⟨s',i'⟩:=b;have c:i=i':=e;subst c;rw[L.inj s s' i ((dN L).mp ha)<|(dN L).mp hb]
 refine lV X List.nodup_range λi=>?_;rw[I9,A8];constructor;rintro⟨⟨s,i'⟩,hm,rfl⟩;exact L.lt s i'<|(dN L).mp hm;intro hi;obtain⟨s,e⟩:=L.all i hi;exact⟨(s,i),(dN L).mpr e,rfl⟩
theorem pI{α:Type}{l:List α}{p:Nat}{x y:α}(b:p<=l.length){i:Nat}(h:(l.take p++x::l.drop p)[i]?=a7 y):(i<p/\l[i]?=a7 y)\/(i=p/\y=x)\/(p<i/\l[i-1]?=a7 y):=by
 have lt:(l.take p).length=p:=by rw[H9];lia
 rcases Qh i p with q|q|q;rw[J0 (by lia),List.getElem?_take,p9 q]at h;exact .inl ⟨q,h⟩;subst q;rw[ND (by lia),lt,Nu]at h;exact .inr<|.inl ⟨rfl,(F3 h).symm⟩;rw[ND (by lia),lt]at h;obtain⟨r,a⟩:∃r,i-p=r+1:=⟨i-p-1,by lia⟩
 rw[a,On,Rf]at h;exact .inr<|.inr ⟨q,by rw[show i-1=p+r by lia];exact h⟩
structure TPre(t:p8)(hs:List Int):Prop where
 msk:nr t.mask
 len:t.place.size=hs.length
 nod:t.dummies = #[]
 ris:t.place.toList.Pairwise (· < ·)
 rng:∀j∈t.place.toList,j<=t.mask
 path:∀(i:Nat) (h:Int) (j:Nat),hs[i]?=a7 h->t.place[i]?=a7 j->∃n,(sq t.mask h n).j=j/\∀n',n' < n->(sq t.mask h n').j∈t.place.toList
theorem put_pre(T:TOk t hs)(h2:(sq t.mask h N).j∉t.place.toList)(u:∀k,k<N->(sq t.mask h k).j∈t.place.toList)(v:Bool):(t.put (sq t.mask h N).j).2<=hs.length/\TPre { (t.put (sq t.mask h N).j).1 with plain:=v } (hs.take (t.put (sq t.mask h N).j).2++h::hs.drop (t.put (sq t.mask h N).j).2):=by
 obtain⟨e,r⟩:=zN T.ris h2;obtain⟨g,_,_⟩:=below_spec t.place T.ris (sq t.mask h N).j;have l:G0 t.place (sq t.mask h N).j<=hs.length:=by rw[<-T.len];exact g
 refine⟨l,⟨T.msk,?_,?_,r,λj L=>?_,λi h' j d L=>?_⟩⟩;have:=t7 Ob e;rw[G3,A7,C5,H9,N0,G3]at this;show (t.put (sq t.mask h N).j).1.place.size=(hs.take (G0 t.place (sq t.mask h N).j)++h::hs.drop (G0 t.place (sq t.mask h N).j)).length;rw[this,A7,C5,H9,N0,T.len];show (if SetTable.has t.dummies (sq t.mask h N).j then SetTable.eraseAt t.dummies (G0 t.dummies (sq t.mask h N).j)else t.dummies) = #[];rw[T.nod];rfl;have a:j∈(t.put (sq t.mask h N).j).1.place.toList:=L;rw[e]at a;rcases F6.mp a with q|q;exact T.rng j<|Qt q;rcases A5.mp q with q|q;rw[q];exact zu h N;exact T.rng j<|Rh q;have s:∀x,x∈t.place.toList->x∈(t.put (sq t.mask h N).j).1.place.toList:=λx m=>by rw[e];rw[<-List.take_append_drop (G0 t.place (sq t.mask h N).j) t.place.toList]at m;rcases F6.mp m with q|q;exact Qv _ q;exact MJ _<|C0 _ q
 have a:(t.put (sq t.mask h N).j).1.place.toList[i]?=a7 j:=by rw[J3];exact L
 rw[e]at a;have o:∀k,hs[k]?=a7 h'->t.place[k]?=a7 j->∃n,(sq t.mask h' n).j=j/\∀f,f < n->(sq t.mask h' f).j∈(t.put (sq t.mask h N).j).1.place.toList:=λk w y=>by obtain⟨n,E,p⟩:=T.path k h' j w y;exact⟨n,E,λf c=>s _<|p f c⟩
 rcases pI (by rw[G3];exact g) a with⟨q,z⟩|⟨q,z⟩|⟨q,z⟩
 rcases pI l d with⟨b,G⟩|⟨b,G⟩|⟨b,G⟩
 exact o i G (by rw[<-J3];exact z);lia;lia;rcases pI l d with⟨b,G⟩|⟨b,G⟩|⟨b,G⟩
 lia;subst z G;exact⟨N,rfl,λf c=>s _<|u f c⟩;lia;rcases pI l d with⟨b,G⟩|⟨b,G⟩|⟨b,G⟩
 lia;lia;exact o (i-1) G<|by rw[<-J3];exact z
theorem TPre.ok(T:TPre t hs)(h:t.tooFull=b7):TOk t hs:=by refine⟨T.msk,T.len,T.nod,T.ris,T.rng,?_,T.path⟩;unfold SetTable.tooFull QT at h;rw[T.nod]at h;simp at h;simpa using h
theorem TPre.anew(T:TPre t hs)(h:t.tooFull=a9)(M:(hs.length-1)*5<t.mask*3)(D:hs.length<=64):RI (OS hs.length)<=sizeLine/\∃t2 ord,t.relaid hs.toArray (OS hs.length)=a7 (t2,ord)/\ord.toList.Perm (C3 hs.length)/\TOk t2 (ord.toList.map λi=>hs.getD i 0)/\t2.led=t.led:=by
 have u:hs.length*5 ≥ t.mask*3:=by unfold SetTable.tooFull QT at h;rw[T.nod,T.len]at h;simpa using h
 have C:∃m,RI (OS hs.length)=m+1/\nr m/\hs.length<=m/\hs.length*5<m*3:=by
  rcases T.msk with e|e|e;have:hs.length=5:=by lia
  rw[this];exact⟨31,by decide +kernel,.inr<|.inl rfl,by decide,by decide⟩;have:hs.length=19:=by lia
  rw[this];exact⟨127,by decide +kernel,.inr<|.inr rfl,by decide,by decide⟩;lia
 obtain⟨m,e,g,H,f⟩:=C;refine⟨by rw[e,M8];rcases g with rfl|rfl|rfl<;>lia,?_⟩;obtain⟨ow,B,L⟩:=GJ g hs H;unfold SetTable.relaid;rw[e,Nat.add_sub_cancel];unfold SetTable.laid;rw[B];refine⟨_,_,rfl,?_,?_,rfl⟩;show ((bA m ow).map (·.2)).toArray.toList.Perm _;simpa using sn L;have l:((bA m ow).map (·.1)).toArray.toList=(bA m ow).map (·.1):=by simp
 have K:((bA m ow).map (·.2)).toArray.toList=(bA m ow).map (·.2):=by simp
 have J:(bA m ow).length=hs.length:=by have:=(sn L).length_eq;simpa using this
 refine⟨g,?_,rfl,?_,λj d=>?_,?_,λi h' j F d=>?_⟩;show ((bA m ow).map (·.1)).toArray.size=(((bA m ow).map (·.2)).toArray.toList.map λi=>hs.getD i 0).length;simp;show ((bA m ow).map (·.1)).toArray.toList.Pairwise _;rw[l];exact sk m ow;have a:j∈((bA m ow).map (·.1)).toArray.toList:=d;rw[l]at a;obtain⟨⟨s,i⟩,o,rfl⟩:=A8.mp a;have:=(N3.mp<|(dN L).mp o).1;rw[L.sz]at this;show s<=m;lia;show ((bA m ow).map (·.1)).toArray.size*5<m*3;rw[C9,x6,J];exact f;have b:(((bA m ow).map (·.2)).map λi=>hs.getD i 0)[i]?=a7 h':=by rw[<-K];exact F
 have a:((bA m ow).map (·.1))[i]?=a7 j:=by rw[<-l,J3];exact d
 rw[F9,G2]at b;rw[G2]at a;cases q:(bA m ow)[i]? with
 |none=>rw[q]at a;cases a
 |some p =>
  obtain⟨s,k⟩:=p;rw[q]at b a;have y:s=j:=F3 a;have A:hs.getD k 0=h':=F3 b;subst y;have c:=(dN L).mp<|NA q;have v:=L.lt s k c;have G:hs[k]?=a7 h':=by rw[C4 v];rw[<-A];simp[OO,v]
  obtain⟨n,E,x⟩:=L.path s k h' c G;refine⟨n,E,λw r=>?_⟩;obtain⟨I,z⟩:=x w r;show (sq m h' w).j∈((bA m ow).map (·.1)).toArray.toList;rw[l];exact A8.mpr ⟨(_,I),(dN L).mpr z,rfl⟩
end Ht
namespace L2
open PySem PySem.Spec PyProof.Rows DL PySem.W
theorem uL:∀(n:Nat) (d:D),dh n d=a9->x3 M n d=a9
 | 0,d,h=>by cases d<;>first|rfl|cases h
 |n+1,d,h=>by
  cases d with
  |tup ds=>have h':ds.all (dh n)=a9:=h;show ds.all (x3 M n)=a9;rw[D7]at h' ⊢;exact λx hx=>uL n x<|h' x hx
  |str x=>rfl
  |int i=>rfl
  |_=>cases h
theorem ja:∀(n:Nat) (x y:D),dh n x=a9->dh n y=a9->(v7 M n x y=a9↔x=y):=by
 intro n;induction n with
 |zero =>
  intro x y h1 h2;cases x with
  |str a =>
   cases y with
   |str b=>simp[v7]
   |int b=>simp[v7]
   |_=>cases h2
  |int a =>
   cases y with
   |str b=>simp[v7]
   |int b=>simp[v7]
   |_=>cases h2
  |_=>cases h1
 |succ n h =>
  have o:∀xs ys:List D,xs.all (dh n)=a9->ys.all (dh n)=a9->(D8 (v7 M n) xs ys=a9↔xs=ys):=by
   intro xs;induction xs with
   |nil=>intro ys _ _;cases ys<;>simp[D8]
   |cons x xs i =>
    intro ys E c;cases ys with
    |nil=>simp[D8]
    |cons y ys=>rw[MG,B8]at E c;show (v7 M n x y&&D8 (v7 M n) xs ys)=a9↔_;rw[B8,h x y E.1 c.1,i ys E.2 c.2,Q1]
  intro x y h1 h2;cases x with
  |str a =>
   cases y with
   |str b=>simp[v7]
   |int b=>simp[v7]
   |tup ys=>simp[v7]
   |_=>cases h2
  |int a =>
   cases y with
   |str b=>simp[v7]
   |int b=>simp[v7]
   |tup ys=>simp[v7]
   |_=>cases h2
  |tup xs =>
   cases y with
   |str b=>simp[v7]
   |int b=>simp[v7]
   |tup ys=>rw[D.tup.injEq];exact o _ _ h1 h2
   |_=>cases h2
  |_=>cases h1
theorem Ly(sm:x8 X.K ρ M H):∀(n:Nat) (A:f9) (s:g8) (d:D) (v:V) (u:b9) (E:b9->g8->Prop) (Q:Int->g8->Prop),A.units+n<m9->u6 X pins σ H s->w5 X.K ρ H d v->aQ v u->dh n d=a9 ->(∀tk,Q (C8 X.w n d) { s with toks:=tk })->i7 (j2 X.prog X.w) A (pyHash u) Q E s:=by
 intro n;induction n with
 |zero =>
  intro A s d v u E Q O I r f m h;cases r with
  |str x=>obtain⟨t,rfl⟩:=f;exact Qf<|h _
  |int x=>obtain⟨t,rfl⟩:=f;exact Qg<|h _
  |_=>cases m
 |succ n P =>
  intro A s d v u E Q O I r f m h;cases r with
  |str x=>obtain⟨t,rfl⟩:=f;exact Qf<|h _
  |int x=>obtain⟨t,rfl⟩:=f;exact Qg<|h _
  |@tup a vs ds N W =>
   cases f;obtain⟨its,U,p,_⟩:=I.tuple N;obtain⟨o,B,J,Z,L⟩:=id p;have T:s.TypeIs (.ref a) "tuple":=⟨o,B,J⟩
   have q:ds.all (dh n)=a9:=m;unfold pyHash
   first|unfold pyHashByItsType|skip
   first|refine t9 (wpAny_cRoomFor_or (.inr<|by lia) ?_)|skip
   refine t9<|Of T F.slot_tuple_hash.lookup ?_;refine(show i7 (j2 X.prog X.w) _ (if (a7 (Value.builtin "tuple.__hash__")==a7 K4)=a9 then _ else _) Q E s from ?_);rw[q9<|by rw[beq_builtin_none];exact K0];refine t9<|Of T F.slot_tuple_hash.lookup ?_;refine(show i7 (j2 X.prog X.w) _ (callSpecialIfBoundUnlessNone? (.ref a) "__hash__" _ >>= _) Q E s from t9<|Sa T F.slot_tuple_hash<|J2 F.slot_tuple_hash T F.entry_tuple_hash ?_<|F.args_tuple_hash_1 _);refine(show i7 (j2 X.prog X.w) _ (Rr (.ref a) >>= _) _ _ s from t9<|wpAny_tupleItemsOf B L<|t9 ?_);rw[<-Pt];refine OA _ (λaX (b:Array Int) s'=>∃done left ws,ds=done++left/\Reps X.K ρ H left ws/\ax ws aX/\b.toList=done.map (C8 X.w n)/\∃tk,s'={ s with toks:=tk }) _ ?_ ?_ _ _ ⟨[],ds,vs,rfl,W,by simpa using U,rfl,s.toks,rfl⟩;rintro x aX b s' ⟨done,left,ws,e,h1,h2,k,tk,rfl⟩;cases h2 with
   |@cons Y _ i _ R C =>
    cases h1 with
    |@cons j _ c _ S G =>
     refine t9<|P _ _ j Y x _ _ (by show A.units+1+n<m9;lia) (I.tok tk) S R ?_ λg=>?_;have:=D7.mp q j (by rw[e];simp);exact this
     first
      |exact u9 ⟨done++[j],c,i,by rw[e];simp,G,C,by simp[k],g,rfl⟩
      |exact t9 (u9 (u9 ⟨done++[j],c,i,by rw[e];simp,G,C,by simp[k],g,rfl⟩))
   rintro b s' ⟨done,left,ws,e,h1,h2,k,tk,rfl⟩;cases h2;cases h1;rw[NZ]at e;subst e;refine(show i7 (j2 X.prog X.w) _ (retInt<|O7 b.toList) _ _ _ from ?_);rw[k];refine wpAny_ret_mkInt ?_;have l:C8 X.w (n+1) (.tup ds)=o8 (O7<|ds.map<|C8 X.w n):=rfl;generalize O7 (ds.map<|C8 X.w n)=z at l;refine(show i7 (j2 X.prog X.w) _ (if (decide (-(2:Int) ^ 63<=z)&&decide (z<2 ^ 63))=a9 then _ else _) Q E _ from ?_);unfold o8 at l;by_cases y:(decide (-(2:Int) ^ 63<=z)&&decide (z<2 ^ 63))=a9;rw[p9 y]at l ⊢;exact u9 (by rw[<-l];exact h _);rw[q9 y]at l ⊢;exact t9<|Oa<|u9<|by rw[<-l];exact h _
  |_=>cases m
theorem hbv_D(R:x8 X.K ρ M H):∀(n k:Nat) (A:f9) (s:g8) (d:D) (v:V) (u:b9) (E:b9->g8->Prop) (Q:Bool->g8->Prop),n<=k->u6 X pins σ H s->w5 X.K ρ H d v->aQ v u->dh n d=a9->(∀b,Q b s)->i7 (j2 X.prog X.w) A (hashByValue k u) Q E s:=by
 intro n;induction n with
 |zero =>
  intro k A s d v u E Q l I r c e h;cases r with
  |str x=>obtain⟨t,rfl⟩:=c;cases k<;>exact u9<|h _
  |int x=>obtain⟨t,rfl⟩:=c;cases k<;>exact u9<|h _
  |_=>cases e
 |succ n C =>
  intro k A s d v u E Q l I r c e h;cases r with
  |str x=>obtain⟨t,rfl⟩:=c;cases k<;>exact u9<|h _
  |int x=>obtain⟨t,rfl⟩:=c;cases k<;>exact u9<|h _
  |@tup a vs ds y O =>
   cases c;obtain⟨k,rfl⟩:∃G,k=G+1:=⟨k-1,by lia⟩
   obtain⟨its,m,p,_⟩:=I.tuple y;obtain⟨o,B,f,Z,j⟩:=id p;have T:s.TypeIs (.ref a) "tuple":=⟨o,B,f⟩
   have q:ds.all (dh n)=a9:=e;unfold hashByValue;refine t9<|Of T F.slot_tuple_hash.lookup ?_;dsimp only;refine t9<|Na B j ?_;simp only[Option.getD_some];rw[<-Pt];refine t9 ?_;refine OA _ (λaX r s'=>s'=s/\r.1=a8/\∃left ws,(∀x∈left,dh n x=a9)/\Reps X.K ρ H left ws/\ax ws aX) _ ?_ ?_ _ _ ⟨rfl,rfl,ds,vs,D7.mp q,O,by simpa using m⟩;rintro x aX r s' ⟨rfl,i,left,ws,g,h1,h2⟩;cases h2 with
   |cons J L =>
    cases h1 with
    |cons N P =>
     refine t9<|C k _ _ _ _ x _ _ (by lia) I N J (g _ C7) λb=>?_;cases b with
     |false=>exact u9<|u9<|h _
     |true=>exact u9 ⟨rfl,rfl,_,_,λx z=>g x<|C0 _ z,P,L⟩
   rintro⟨r1,m⟩ s' ⟨rfl,i,_⟩;simp only at i;subst i;exact u9<|h _
  |_=>cases e
theorem zH(P:x8 X.K ρ M H):∀(n k:Nat) (A:f9) (s:g8) (d:D) (v:V) (u:b9) (E:b9->g8->Prop) (Q:Bool->g8->Prop),n<=k->u6 X pins σ H s->w5 X.K ρ H d v->aQ v u->dh n d=a9->Q a9 s->i7 (j2 X.prog X.w) A (eqIsQuiet k u) Q E s:=by
 intro n;induction n with
 |zero =>
  intro k A s d v u E Q j I r b e h;cases r with
  |str x=>obtain⟨t,rfl⟩:=b;rw[OB k (v:=.str x t) rfl];exact u9 h
  |int x=>obtain⟨t,rfl⟩:=b;rw[OB k (v:=.int x t) rfl];exact u9 h
  |_=>cases e
 |succ n z =>
  intro k A s d v u E Q j I r b e h;cases r with
  |str x=>obtain⟨t,rfl⟩:=b;rw[OB k (v:=.str x t) rfl];exact u9 h
  |int x=>obtain⟨t,rfl⟩:=b;rw[OB k (v:=.int x t) rfl];exact u9 h
  |@tup a vs ds l N =>
   cases b;obtain⟨k,rfl⟩:∃C,k=C+1:=⟨k-1,by lia⟩
   obtain⟨its,m,p,_⟩:=I.tuple l;obtain⟨o,B,f,Z,c⟩:=id p;have T:s.TypeIs (.ref a) "tuple":=⟨o,B,f⟩
   have q:ds.all (dh n)=a9:=e;unfold eqIsQuiet;refine t9<|Of T F.slot_tuple_eq.lookup ?_;refine(show i7 (j2 X.prog X.w) A (isInstance (.ref a) (.type "tuple") >>= _) _ _ s from t9<|Oz T isSubtype_tuple_tuple ?_);simp only[NW,E3,t5];refine t9<|Na B c ?_;simp only[Option.getD_some];refine t9 ?_;rw[<-Pt];refine OA _ (λaX r s'=>s'=s/\r.1=a8/\∃left ws,(∀x∈left,dh n x=a9)/\Reps X.K ρ H left ws/\ax ws aX) _ ?_ ?_ _ _ ⟨rfl,rfl,ds,vs,D7.mp q,N,by simpa using m⟩;rintro x aX r s' ⟨rfl,i,left,ws,g,h1,h2⟩;cases h2 with
   |cons G J =>
    cases h1 with
    |cons L O=>refine t9<|z k _ _ _ _ x _ _ (by lia) I L G (g _ C7) ?_;simp only[NW,E3,t5];exact u9 ⟨rfl,rfl,_,_,λx y=>g x<|C0 _ y,O,J⟩
   rintro⟨r1,m⟩ s' ⟨rfl,i,_⟩;simp only at i;subst i;exact u9 h
  |_=>cases e
theorem Mi(O:x8 X.K ρ M H):∀(n k:Nat) (A:f9) (s:g8) (d:D) (v:V) (u:b9) (E:b9->g8->Prop) (Q:Bool->g8->Prop),n<=k->u6 X pins σ H s->w5 X.K ρ H d v->aQ v u->dh n d=a9->Q b7 s->i7 (j2 X.prog X.w) A (ofAClassStatement k u) Q E s:=by
 intro n;induction n with
 |zero =>
  intro k A s d v u E Q j I r b e h;cases r with
  |str x=>obtain⟨t,rfl⟩:=b;cases k<;>exact u9 h
  |int x=>obtain⟨t,rfl⟩:=b;cases k<;>exact u9 h
  |_=>cases e
 |succ n z =>
  intro k A s d v u E Q j I r b e h;cases r with
  |str x=>obtain⟨t,rfl⟩:=b;cases k<;>exact u9 h
  |int x=>obtain⟨t,rfl⟩:=b;cases k<;>exact u9 h
  |@tup a vs ds l L =>
   cases b;obtain⟨k,rfl⟩:∃C,k=C+1:=⟨k-1,by lia⟩
   obtain⟨its,m,p,_⟩:=I.tuple l;obtain⟨o,B,f,Z,c⟩:=id p;have T:s.TypeIs (.ref a) "tuple":=⟨o,B,f⟩
   have q:ds.all (dh n)=a9:=e;unfold ofAClassStatement;refine t9<|Pi T ?_;dsimp only;simp only[t8,t6];refine t9<|u9 ?_;simp only[NW,E3,t5];refine t9<|Na B c ?_;dsimp only;refine t9 ?_;rw[<-Pt];refine OA _ (λaX r s'=>s'=s/\r.1=a8/\∃left ws,(∀x∈left,dh n x=a9)/\Reps X.K ρ H left ws/\ax ws aX) _ ?_ ?_ _ _ ⟨rfl,rfl,ds,vs,D7.mp q,L,by simpa using m⟩;rintro x aX r s' ⟨rfl,i,left,ws,g,h1,h2⟩;cases h2 with
   |cons F G =>
    cases h1 with
    |cons J N=>refine t9<|z k _ _ _ _ x _ _ (by lia) I J F (g _ C7) ?_;simp only[E3,t5];exact u9 ⟨rfl,rfl,_,_,λx y=>g x<|C0 _ y,N,G⟩
   rintro⟨r1,m⟩ s' ⟨rfl,i,_⟩;simp only at i;subst i;exact u9 h
  |_=>cases e
noncomputable def oo:D->Bool
 |.tup _=>a9
 |_=>b7
def F8(X:Cx)(ρ:List d7)(H:Hp)(n:Nat)(d:D)(e:Int×b9):Prop:=(∃v,w5 X.K ρ H d v/\aQ v e.2)/\e.1=C8 X.w n d/\dh n d=a9/\oo d=a9
structure KSet(X:Cx)(ρ:List d7)(H:Hp)(h:d9)(a:d7)(n:Nat)(ds:List D)(o:d8)(es:Array (Int×b9))(ep:Nat)(t:p8):Prop where
 ob:h.get? a=a7 o
 ex:o.ExactSet
 dt:o.data=.set es ep t
 en:Paired (F8 X ρ H n) ds es.toList
 nd:ds.Nodup
 tk:Ht.TOk t (es.toList.map (·.1))
 ld:t.led = !X.w.params.followText "set-order"
theorem iR{α β:Type}{R:α->β->Prop}:∀{xs:List α}{ys:List β}{i:Nat}{y:β},Paired R xs ys->ys[i]?=a7 y->∃x,xs[i]?=a7 x/\R x y
 |_,_,i,y,.nil,e=>by simp at e
 |_,_,0,y,.cons r _,e=>by simp at e;subst e;exact⟨_,rfl,r⟩
 |_,_,i+1,y,.cons _ t,e=>by obtain⟨x,h1,h2⟩:=iR (i:=i) t (by simpa using e);exact⟨x,by simpa using h1,h2⟩
theorem iq{α β:Type}{R:α->β->Prop}:∀{xs:List α}{ys:List β}{i:Nat}{x:α},Paired R xs ys->xs[i]?=a7 x->∃y,ys[i]?=a7 y/\R x y
 |_,_,i,y,.nil,e=>by simp at e
 |_,_,0,y,.cons r _,e=>by simp at e;subst e;exact⟨_,rfl,r⟩
 |_,_,i+1,y,.cons _ t,e=>by obtain⟨x,h1,h2⟩:=iq (i:=i) t (by simpa using e);exact⟨x,by simpa using h1,h2⟩
theorem KSet.fits(S:KSet X ρ H h a n ds o es ep t):t.fits es.size=a9:=by
 have h1:=S.tk.len;have h2:=S.tk.few;rw[x6,G3]at h1;unfold Pk;have b:t.fill=t.place.size:=by unfold QT;rw[S.tk.nod];rfl
 rw[b];simp only[B8,t4,s9];lia
theorem Cr(m:x8 X.K ρ M H)(I:u6 X pins σ H s)(f:n<=8)(r:w5 X.K ρ H d v)(g:aQ v u)(e:dh n d=a9)(h:Q b7 s):∀(l:List b9),(∀y∈l,∃d' v',w5 X.K ρ H d' v'/\aQ v' y/\dh n d'=a9)->i7 (j2 X.prog X.w) A (searchCouldBeSeen u l) Q E s:=by intro l j;unfold searchCouldBeSeen;refine t9 ?_;refine OA _ (λaX r s'=>s'=s/\r.1=a8/\∀y∈aX,∃d' v',w5 X.K ρ H d' v'/\aQ v' y/\dh n d'=a9) _ ?_ ?_ _ _ ⟨rfl,rfl,j⟩;rintro y aX r' s' ⟨rfl,i,c⟩;have t:∀z∈aX,∃d' v',w5 X.K ρ H d' v'/\aQ v' z/\dh n d'=a9:=λz o=>c z<|C0 _ o;obtain⟨d',v',a,b,k⟩:=c y C7;dsimp only;refine NY (λ_=>u9 ⟨rfl,rfl,t⟩) λ_=>?_;refine t9<|zH m n 8 A _ d v u _ _ f I r g e ?_;simp only[NW,E3,t5];refine t9<|zH m n 8 A _ d' v' y _ _ f I a b k ?_;simp only[NW,E3,t5];refine t9<|Mi m n 8 A _ d v u _ _ f I r g e ?_;simp only[E3,t5];refine t9<|Mi m n 8 A _ d' v' y _ _ f I a b k ?_;simp only[E3,t5];exact u9 ⟨rfl,rfl,t⟩;rintro⟨a,b⟩ s' ⟨rfl,i,_⟩;simp only at i;subst i;exact u9 h
theorem CC(sm:x8 X.K ρ M H)(I:u6 X pins σ H s)(hn:n<=8)(hu:A.units+n<m9)(S:KSet X ρ H s.heap a n ds o es ep t)(r:w5 X.K ρ H d v)(rv:aQ v u)(G:dh n d=a9)(c:d∈ds->Q (.there a8) s) (ba:N<10*(t.mask+15)) (J:(Ht.sq t.mask (C8 X.w n d) N).j∉t.place.toList) (ai:∀k,k<N->(Ht.sq t.mask (C8 X.w n d) k).j∈t.place.toList)(L:d∉ds->Q (.free (Ht.sq t.mask (C8 X.w n d) N).j b7) s):∀(fuel m:Nat) (stand:Option Ow),m<=N->N<m+fuel->stand.getD (t.probeStart<|C8 X.w n d)=Ht.sq t.mask (C8 X.w n d) m->(∀k i:Nat,k<m->t.place[i]?=a7 (Ht.sq t.mask (C8 X.w n d) k).j->ds[i]?≠a7 d) ->i7 (j2 X.prog X.w) A (setSearchFrom a u (C8 X.w n d) a9 fuel stand) Q E s:=by
 intro fuel;induction fuel with
 |zero=>intro m stand h1 h2;lia
 |succ fuel ih =>
  intro m stand h1 h2 hs hb;unfold setSearchFrom;refine t9<|Ny S.ob S.dt S.fits ?_;dsimp only;have gw:t.gaveWay=b7:=by unfold SetTable.gaveWay;rcases S.tk.msk with e|e|e<;>rw[e]<;>rfl
  rw[gw];simp only[E3,t5];rw[hs];rcases Ht.go_spec S.tk.ris S.tk.nod (λi=>(es[i]?.map (·.1)).getD 0) (C8 X.w n d) (10*Pl t.mask) m N h1 (by unfold Pl;lia) J (λk _ hk=>ai k hk) (Ht.sq_dummy _ _)with⟨z1,z2⟩|⟨m',i,a1,a2,a3,a4,a5,a6⟩
  generalize O:SetTable.probe t _ (C8 X.w n d) (Ht.sq t.mask (C8 X.w n d) m)=pr;obtain rfl:pr=_:=O.symm.trans z2;dsimp only;refine u9<|L λhd=>?_;obtain⟨i,hi⟩:=NP hd;obtain⟨e,F,_,V,_⟩:=iq S.en hi;have g:es[i]?=a7 e:=by rw[<-J3];exact F
  have hh:(es.toList.map (·.1))[i]?=a7 (C8 X.w n d):=by rw[G2,F];exact t7 a7 V
  have hl:i<t.place.size:=by rw[S.tk.len];exact(A3.mp hh).1
  obtain⟨R,b1,b2⟩:=S.tk.path i _ t.place[i] hh<|L1 hl;have ap:R<N:=by rcases Qh R N with q|q|q;exact q;subst q;exact r9 (show (Ht.sq t.mask (C8 X.w n d) R).j∈t.place.toList by rw[b1];simp) J;exact r9 (b2 N q) J
  have p:t.place[i]?=a7 (Ht.sq t.mask (C8 X.w n d) R).j:=by rw[b1];exact L1 hl
  rcases Nt R m with q|q;exact hb R i q p hi;refine z1 R i q ap p ?_;rw[g];exact V;generalize O:SetTable.probe t _ (C8 X.w n d) (Ht.sq t.mask (C8 X.w n d) m)=pr;obtain rfl:pr=_:=O.symm.trans a6;dsimp only;have an:i<es.size:=by have:=(N3.mp a3).1;rw[S.tk.len,x6,G3]at this;exact this
  have l:es[i]?=a7 es[i]:=L1 an;obtain⟨x,C,⟨v0,r0,Z⟩,aT,P,as⟩:=iR S.en (i:=i) (y:=es[i]) (by rw[J3];exact l);have ab:∀(f:Bool->Sem SetFound),i7 (j2 X.prog X.w) A (f b7) Q E s->i7 (j2 X.prog X.w) A (searchCouldBeSeen u ((es.filter (·.1==C8 X.w n d)).toList.map (·.2)) >>= f) Q E s:=λf hf=>by
   refine t9<|Cr sm I hn r rv G hf _ λy hy=>?_;obtain⟨e,F,rfl⟩:=A8.mp hy;have aj:e∈es.toList:=by
    have:e∈es.filter (·.1==C8 X.w n d):=by simpa using F
    simpa using(Array.mem_filter.mp this).1
   obtain⟨j,hj⟩:=NP aj;obtain⟨d1,_,⟨v1,r1,aS⟩,_,aD,_⟩:=iR S.en hj;exact⟨d1,v1,r1,aS,aD⟩
  have B:∃b,es[i].2=I0 b:=by
   cases r0 with
   |tup _ _=>exact⟨_,Z⟩
   |_=>cases as
  obtain⟨b,B⟩:=B;have W:Ng A s es[i].2 u (v7 M n x d):=(mN I sm n A x d v0 v es[i].2 u hu r0 Z r rv (uL n x P)<|uL n d G).1;refine NY (λ_=>ab _ ?_) λ_=>?_;simp only[E3,t5];rw[l];dsimp only;refine t9<|K8<|W _ _ _ _<|t9<|Ny S.ob S.dt S.fits ?_;dsimp only;by_cases D:v7 M n x d=a9;rw[D];simp only[Bool.and_self,t6];have:x=d:=(ja n x d P G).mp D;subst this;exact u9<|c<|NA C;rw[OC.mpr D];simp only[Pn,E3,t5];have U:t.sameMemory t.moves t.mask=a7 a9:=by unfold SetTable.sameMemory;simp
  rw[U];dsimp only;simp only[t6];rw[Ht.slot_live S.tk.ris a3];dsimp only;rw[l];have T:i7 (j2 X.prog X.w) A (isSame es[i].2 es[i].2) (λb s'=>b=a9/\s'=s) E s:=by unfold isSame;rw[B];simp only[t8,t6];exact u9<|And.intro rfl rfl
  refine t9<|L6 T (λb s' ⟨e1,e2⟩=>?_) λ_ _ z=>z;subst e1 e2;refine t9<|u9 ?_;simp only[t6];refine ih (m'+1) _ (by lia) (by lia) rfl λk i' hk p h=>?_;rcases Nt k m with q|q;exact hb k i' q p h;rcases Nt k m' with Y|Y;refine a5 k i' q Y p ?_;obtain⟨e,F,_,V,_⟩:=iq S.en h;have g:es[i']?=a7 e:=by rw[<-J3];exact F
  rw[g];exact V;have:k=m':=by lia
  subst this;have:i'=i:=by rw[<-Ht.below_at S.tk.ris p,Ht.below_at S.tk.ris a3]
  subst this;rw[C]at h;cases h;exact D<|(ja n d d G G).mpr rfl;rw[l];dsimp only;refine t9<|K8<|W _ _ _ _<|t9<|Ny S.ob S.dt S.fits ?_;dsimp only;by_cases D:v7 M n x d=a9;rw[D];simp only[Bool.and_self,t6];have:x=d:=(ja n x d P G).mp D;subst this;exact u9<|c<|NA C;rw[OC.mpr D];simp only[Pn,E3,t5];have U:t.sameMemory t.moves t.mask=a7 a9:=by unfold SetTable.sameMemory;simp
  rw[U];dsimp only;simp only[t6];rw[Ht.slot_live S.tk.ris a3];dsimp only;rw[l];have T:i7 (j2 X.prog X.w) A (isSame es[i].2 es[i].2) (λb s'=>b=a9/\s'=s) E s:=by unfold isSame;rw[B];simp only[t8,t6];exact u9<|And.intro rfl rfl
  refine t9<|L6 T (λb s' ⟨e1,e2⟩=>?_) λ_ _ z=>z;subst e1 e2;refine t9<|u9 ?_;simp only[t6];refine ih (m'+1) _ (by lia) (by lia) rfl λk i' hk p h=>?_;rcases Nt k m with q|q;exact hb k i' q p h;rcases Nt k m' with Y|Y;refine a5 k i' q Y p ?_;obtain⟨e,F,_,V,_⟩:=iq S.en h;have g:es[i']?=a7 e:=by rw[<-J3];exact F
  rw[g];exact V;have:k=m':=by lia
  subst this;have:i'=i:=by rw[<-Ht.below_at S.tk.ris p,Ht.below_at S.tk.ris a3]
  subst this;rw[C]at h;cases h;exact D<|(ja n d d G G).mpr rfl
theorem Paired.ins{α β:Type}{R:α->β->Prop}{x:α}{y:β}(r:R x y):∀{xs:List α}{ys:List β} (p:Nat),Paired R xs ys->Paired R (xs.take p++x::xs.drop p) (ys.take p++y::ys.drop p)
 |_,_,0,h=>by simpa using .cons r h
 |_,_,p+1,.nil=>.cons r .nil
 |_,_,p+1,.cons h t=>.cons h<|Paired.ins r p t
theorem Paired.pick{α β:Type}{R:α->β->Prop}:∀{xs:List α}{ys:List β} (is:List Nat),Paired R xs ys->(∀i∈is,i<xs.length)->Paired R (is.filterMap (xs[·]?)) (is.filterMap (ys[·]?))
 |_,_,[],_,_=>.nil
 |xs,ys,i::is,h,hi=>by have hl:=hi i C7;have e:xs[i]?=a7 xs[i]:=C4 hl;obtain⟨y,hy,r⟩:=iq h e;rw[O0,O0,e,hy];exact .cons r<|Paired.pick is h λj hj=>hi j<|C0 _ hj
theorem nV{α:Type}{l:List α}{is:List Nat}(h:is.Perm (C3 l.length)):(is.filterMap (l[·]?)).Perm l:=by
 have:=h.filterMap (l[·]?)
 rwa [List.filterMap_getElem?_range_length]at this
section
variable{X:Cx}{pins:List (d7×d8)}{σ:St}{H:Hp}{ρ:List d7}{M:u8}{A:f9}{E:b9->g8->Prop}{s:g8}{a:d7}{n:Nat}{ds:List D}{o:d8}{es:Array (Int×b9)}{ep:Nat}{t:p8}
def KS(X:Cx)(ρ:List d7)(H:Hp)(h:d9)(a:d7)(n:Nat)(ds:List D):Prop:=∃o es i t,KSet X ρ H h a n ds o es i t
set_option maxHeartbeats 1000000 in
theorem add_D(sm:x8 X.K ρ M H)(I:u6 X pins σ H s)(hn:n<=8)(hu:A.units+n+1<m9)(S:KS X ρ H s.heap a n ds)(ba:ds.length+1<=64)(r:w5 X.K ρ H d v)(rv:aQ v u)(kd:dh n d=a9)(it:oo d=a9)(h:∀b h' tk ds',(∀c u,c≠a->s.heap.get? c=a7 u->h'.get? c=a7 u)->KS X ρ H h' a n ds'->(∀x,x∈ds'↔x∈ds\/x=d)->ds'.length<=ds.length+1->Q b { s with heap:=h',toks:=tk }):i7 (j2 X.prog X.w) A (setAdd a u) Q E s:=by
 obtain⟨o,es,ep,t,S⟩:=S;obtain⟨R,rfl⟩:∃R,u=I0 R:=by
  cases r with
  |tup _ _=>exact⟨_,rv⟩
  |_=>cases it
 unfold setAdd;refine K8<|t9<|Ly sm n A s d v _ _ _ (by lia) I r rv kd λtk=>?_;unfold setAddHashed setAddHashedIn;refine K8<|t9<|Ny (s:={ s with toks:=tk }) S.ob S.dt S.fits ?_;dsimp only;have bs:byScan (.ref R) es=b7:=rfl;rw[bs];simp only[E3,t5];obtain⟨N,ab,ai,aj⟩:=S.tk.empty<|C8 X.w n d;have I1:u6 X pins σ H { s with toks:=tk }:=I.tok tk;unfold setSearch;refine t9<|CC (s:={ s with toks:=tk }) sm I1 hn (by lia) S r rv kd (λhd=>?_) ab ai aj (λhd=>?_) 100000 0 a8 (D4 _) ?_ rfl λk i hk=>r9 hk<|Og _;exact u9<|h _ s.heap tk ds (λ_ _ _ e=>e) ⟨o,es,ep,t,S⟩ (λx=>⟨.inl,λz=>z.elim id λe=>e ▸ hd⟩)<|OQ _;dsimp only;refine t9<|Ny (s:={ s with toks:=tk }) S.ob S.dt S.fits ?_;dsimp only;have J:=S.tk.len;rw[x6,G3]at J;have dl:ds.length=es.size:=by have:=QV S.en;simpa using this
 have F:∀O:Bool,i7 (j2 X.prog X.w) A (do
   storeSet a (Q9 es (t.put (Ht.sq t.mask (C8 X.w n d) N).j).2 (C8 X.w n d,I0 R)) { (t.put (Ht.sq t.mask (C8 X.w n d) N).j).1 with plain:=O }
   if (!b7&&({ (t.put (Ht.sq t.mask (C8 X.w n d) N).j).1 with plain:=O }:p8).tooFull)=a9 then do
     setRelay a (OS<|es.size+1)
     pure a9
    else pure a9) Q E { s with toks:=tk }:=λO=>by
  obtain⟨pb,T⟩:=Ht.put_pre S.tk ai aj O;have G:({ (t.put (Ht.sq t.mask (C8 X.w n d) N).j).1 with plain:=O }:p8).led=t.led:=rfl;have L:({ (t.put (Ht.sq t.mask (C8 X.w n d) N).j).1 with plain:=O }:p8).mask=t.mask:=rfl;generalize ({ (t.put (Ht.sq t.mask (C8 X.w n d) N).j).1 with plain:=O }:p8)=D at T G L;generalize (t.put (Ht.sq t.mask (C8 X.w n d) N).j).2=p at pb T;rw[x6,G3]at pb;have e1:(Q9 es p (C8 X.w n d,I0 R)).toList=es.toList.take p++(C8 X.w n d,I0 R)::es.toList.drop p:=SetTable.toList_insertAt ..;generalize Q9 es p (C8 X.w n d,I0 R)=f at e1;have aD:f.toList.map (·.1)=(es.toList.map (·.1)).take p++C8 X.w n d::(es.toList.map (·.1)).drop p:=by rw[e1,MI,B9,List.map_take,List.map_drop]
  rw[<-aD]at T;have C:f.size=es.size+1:=by have:=t7 Ob e1;rw[G3,A7,C5,H9,N0,G3]at this;lia
  have Y:Paired (F8 X ρ H n) (ds.take p++d::ds.drop p) f.toList:=by rw[e1];exact Paired.ins ⟨⟨v,r,rv⟩,rfl,kd,it⟩ p S.en
  have U:(ds.take p++d::ds.drop p).Perm (d::ds):=by refine List.perm_middle.trans<|QW d ?_;rw[List.take_append_drop]
  have an:(ds.take p++d::ds.drop p).Nodup:=U.nodup_iff.mpr<|MR.mpr ⟨hd,S.nd⟩;have Z:D.fits f.size=a9:=by
   have l1:=T.len;rw[x6,G3]at l1;have h3:D.fill=D.place.size:=by unfold QT;rw[T.nod];rfl
   have fw:=S.tk.few;unfold Pk;rw[h3];simp only[B8,t4,s9];rw[J]at fw;rcases S.tk.msk with e|e|e<;>rw[L,e]<;>rw[e]at fw<;>lia
  have zz:f.size<=sizeLine:=by rw[M8];lia
  refine t9<|wpAny_storeSet_of (s:={ s with toks:=tk }) S.ob S.dt ?_ zz;have B:(s.heap.update a<|Pf f D).get? a=a7 { o with data:=.set f (ep+1) D }:=by
   have q:=MX (Pf f D) S.ob<|by rw[putSet_of f D S.dt];rfl
   rwa [putSet_of f D S.dt]at q
  have ap:∀c u,c≠a->s.heap.get? c=a7 u->(s.heap.update a<|Pf f D).get? c=a7 u:=λc u hc e=>(Py _ _<|D3 hc).trans e;by_cases tf:D.tooFull=a9;rw[tf];simp only[Bool.not_false,Bool.and_self,t6];have as:((f.toList.map (·.1)).length-1)*5<D.mask*3:=by have fw:=S.tk.few;rw[J]at fw;rw[x6,G3,C,L];simpa using fw
  obtain⟨zl,W,m,g1,g2,T2,aS⟩:=T.anew tf as (by rw[x6,G3];lia);rw[x6,G3]at g2 zl;have eg:OS (es.size+1)=OS (f.toList.map (·.1)).length:=by rw[x6,G3,C]
  unfold setRelay;refine t9<|t9<|Ny (s:={ s with heap:=_,toks:=tk }) B rfl Z ?_;dsimp only;rw[eg];have nz:¬RI (OS (f.toList.map (·.1)).length) > sizeLine:=by rw[x6,G3];lia
  simp only[nz,t5];have ea:f.map (·.1)=(f.toList.map (·.1)).toArray:=by apply Array.ext';simp
  rw[ea,g1];have y:(m.filterMap (f[·]?)).toList=m.toList.filterMap (f.toList[·]?):=by rw[Array.toList_filterMap];congr 1;funext i;rw[J3]
  have V:(m.filterMap (f[·]?)).size=f.size:=by have:=(nV (l:=f.toList) (is:=m.toList)<|by rw[G3];exact g2).length_eq;rw[<-y,G3,G3]at this;exact this
  refine t9 (show i7 (j2 X.prog X.w) A (if ((m.filterMap (f[·]?)).size != f.size)=a9 then _ else pure (m.filterMap (f[·]?),W)) _ _ _ from ?_);rw[q9<|by rw[V];simp];refine u9 ?_;generalize m.filterMap (f[·]?)=g at y V;have P:(m.toList.filterMap ((ds.take p++d::ds.drop p)[·]?)).Perm (ds.take p++d::ds.drop p):=nV (by
   have:(ds.take p++d::ds.drop p).length=f.size:=by rw[U.length_eq,C5,dl,C]
   rw[this];exact g2)
  refine wpAny_storeSet_of (s:={ s with heap:=_,toks:=tk }) B rfl ?_ (by rw[V];exact zz);have aT:((s.heap.update a<|Pf f D).update a<|Pf g W).get? a=a7 { o with data:=.set g (ep+1+1) W }:=by
   have q:=MX (Pf g W) B<|by rw[putSet_of g W (es:=f) (ep:=ep+1) (t:=D) rfl];rfl
   rwa [putSet_of g W (es:=f) (ep:=ep+1) (t:=D) rfl]at q
  refine u9 (h _ _ tk (m.toList.filterMap ((ds.take p++d::ds.drop p)[·]?)) (λc u hc e=>(Py _ _<|D3 hc).trans<|ap c u hc e) ⟨_,g,_,W,aT,S.ex,rfl,?_,P.nodup_iff.mpr an,?_,aS.trans<|G.trans S.ld⟩ (λx=>?_) ?_);rw[y];refine Paired.pick _ Y λi hi=>?_;have:=g2.mem_iff.mp hi;rw[I9]at this;rw[U.length_eq,C5,dl,<-C];exact this;have e2:g.toList.map (·.1)=m.toList.map λi=>(f.toList.map (·.1)).getD i 0:=by
   rw[y];have:∀(is:List Nat),(∀i∈is,i<f.toList.length)->(is.filterMap (f.toList[·]?)).map (·.1)=is.map λi=>(f.toList.map (·.1)).getD i 0:=by
    intro is;induction is with
    |nil=>intro _;rfl
    |cons i is ih=>intro hi;have hl:=hi i C7;rw[O0,C4 hl,B9,B9,ih λj hj=>hi j<|C0 _ hj];congr 1;rw[L3,G2,C4 hl];rfl
   refine this _ λi hi=>?_;have:=g2.mem_iff.mp hi;rw[I9]at this;rw[G3];exact this
  rw[e2];exact T2;rw[P.mem_iff,U.mem_iff,A5];exact⟨λz=>z.symm,λz=>z.symm⟩;rw[P.length_eq,U.length_eq];exact z5 _;rw[OC.mpr tf];simp only[Pn,E3,t5];refine u9<|h _ _ tk _ ap ⟨_,f,_,D,B,S.ex,rfl,Y,an,T.ok<|OC.mpr tf,G.trans S.ld⟩ (λx=>?_) ?_;rw[U.mem_iff,A5];exact⟨λz=>z.symm,λz=>z.symm⟩;rw[U.length_eq];exact z5 _
 refine NY (λ_=>t9<|hbv_D sm n 8 A _ d v _ _ _ hn I1 r rv kd λb=>?_) λ_=>?_;cases b with
 |true=>exact F (t.put (Ht.sq t.mask (C8 X.w n d) N).j).1.plain
 |false=>exact F b7
 exact F (t.put (Ht.sq t.mask (C8 X.w n d) N).j).1.plain;have:=ab;rcases S.tk.msk with e|e|e<;>rw[e]at this<;>lia
end
theorem KS.at(x:KS X ρ H h a n ds)(k:∀o,h.get? a=a7 o->h'.get? a=a7 o):KS X ρ H h' a n ds:=by obtain⟨o,es,i,t,S⟩:=x;exact⟨o,es,i,t,k _ S.ob,S.ex,S.dt,S.en,S.nd,S.tk,S.ld⟩
theorem GT(sm:x8 X.K ρ M H)(I:u6 X pins σ H s)(hn:n<=8)(hu:A.units+n+2<m9)(W:Walks X.prog X.w A.in1 J fp wr m P Sx)(S:d7)(f:S∉fp)(G:s.heap.get? S=a8) (B:∀b∈wr,s.heap.get? b=a8) (l:Nat->D) (y:∀i v,P i v->∃vv,w5 X.K ρ H (l i) vv/\aQ vv v/\dh n (l i)=a9/\oo (l i)=a9) (hb:m<=63):∀(k i:Nat) (h:d9) (tk:Nat) (ds:List D),m-i=k->i<=m->Sx i h->KS X ρ H h S n ds->(∀x,x∈ds↔∃j,j<i/\l j=x)->ds.length<=i->(∀b u,s.heap.get? b=a7 u->h.get? b=a7 u) ->(∀h' tk ds',(∀b u,s.heap.get? b=a7 u->h'.get? b=a7 u)->KS X ρ H h' S n ds'->(∀x,x∈ds'↔∃j,j<m/\l j=x)->ds'.length<=m->R (.ok<|.ret .none) { s with heap:=h',toks:=tk }) ->n3 (j2 X.prog X.w) A (.builtin "set.update.loop" ⟨[.ref S,.ref J],[]⟩) R { s with heap:=h,toks:=tk }:=by
 have g:S∉wr:=λh=>f<|W.sub _ h;intro k;induction k with
 |zero =>
  intro i h tk ds hk hi t E O U a Z;obtain rfl:i=m:=by lia
  refine Pp F.entry_set_update_loop ?_;rw[Qu F.plain_set_update_loop _];refine(show i7 (j2 X.prog X.w) A.in1 (k8 (.ref J) >>= _) _ _ _ from t9<|W.done _ _ _ t λh' tk d=>?_);refine u9<|Z h' tk ds (λb u e=>d b u (λz=>by rw[B b z]at e;cases e)<|a b u e) (E.at λo e=>d S o g e) O U
 |succ k ih=>intro i h tk ds hk hi t E O U a Z;refine Pp F.entry_set_update_loop ?_;rw[Qu F.plain_set_update_loop _];refine(show i7 (j2 X.prog X.w) A.in1 (k8 (.ref J) >>= _) _ _ _ from t9<|W.item i _ _ _ (by lia) t λv h' tk hP p d=>?_);obtain⟨vv,r,rv,kd,it⟩:=y i v hP;have c:∀b u,s.heap.get? b=a7 u->h'.get? b=a7 u:=λb u e=>d b u (λz=>by rw[B b z]at e;cases e)<|a b u e;have Y:u6 X pins σ H { s with heap:=h',toks:=tk }:=I.kept c;refine t9<|K8<|add_D (s:={ s with heap:=h',toks:=tk }) sm Y hn (by show A.units+1+n+1<m9;lia) (E.at λo e=>d S o g e) (by lia) r rv kd it λb h2 T C V L Q ab=>?_;refine u9 ⟨P5 F.plain_set_update_loop _,ih (i+1) h2 T C (by lia) (by lia) (W.frame _ h' h2 p λb' N o e=>V b' o (λz=>f<|z ▸ N) e) L (λx=>?_) (by lia) (λb u e=>V b u (λz=>by rw[z,G]at e;cases e)<|c b u e) Z⟩;rw[Q,O];constructor;rintro(⟨j,hj,e⟩|rfl);exact⟨j,by lia,e⟩;exact⟨i,by lia,rfl⟩;rintro⟨j,hj,rfl⟩;by_cases q:j=i;subst q;exact .inr rfl;exact .inl ⟨j,by lia,rfl⟩
theorem DF(e:h.get? a=a7 (bj X.w)):KS X ρ H h a n []:=⟨_,#[],0,_,e,⟨rfl,rfl,rfl⟩,rfl,.nil,List.nodup_nil,⟨.inl rfl,rfl,rfl,Re,λj L=>by simp[SetTable.fresh]at L,(by show 0*5<7*3;decide),λi h j b=>by simp at b⟩,rfl⟩
section
theorem Hq(Z:x8 X.K ρ M H)(I:u6 X pins σ H s)(B:m<=8)(hu:A.units+m+3<m9){l:d7}{T:String}{n:Nat}{P:Nat->b9->Prop}{G:g8->Prop}(O:A.handled=a8)(K:TxSrc X.prog X.w s.heap l T n P)(a:Nat->D)(y:∀i v,P i v->∃vv,w5 X.K ρ H (a i) vv/\aQ vv v/\dh m (a i)=a9/\oo (a i)=a9)(N:n<=63)(h:∀h' tk ds,(∀b o,s.heap.get? b=a7 o->h'.get? b=a7 o)->KS X ρ H h' s.heap.objs.size m ds->(∀x,x∈ds↔∃j,j<n/\a j=x)->ds.length<=n->G { s with heap:=h',toks:=tk }):i7 (j2 X.prog X.w) A (Builtin.«set.__init__» ⟨[.ref s.heap.objs.size,.ref l],[]⟩) (λfin s'=>fin=.done (.ret .none)/\G s') E { s with heap:=s.heap.push (bj X.w) }:=by
 have S:(s.heap.push<|bj X.w).get? s.heap.objs.size=a7 (bj X.w):=E1 _ rfl;have hT:Shared.TypeIs { s with heap:=s.heap.push (bj X.w) } (.ref s.heap.objs.size) "set":=⟨_,S,rfl⟩
 obtain⟨F,g,r⟩:=K.obj;have c:(s.heap.push<|bj X.w).get? l=a7 F:=A9 _ g;have L:Shared.TypeIs { s with heap:=s.heap.push (bj X.w) } (.ref l) T:=⟨F,c,r⟩
 have Y:l<s.heap.objs.size:=C2 g;have J:(s.heap.push<|bj X.w).objs.size=s.heap.objs.size+1:=MH ..;obtain⟨oI,St,t,W,st⟩:=K.iter A.in1 { s with heap:=s.heap.push (bj X.w) } O λo e=>A9 _ e;have ns:=K.ns;have nf:=K.nf;have nd:=K.nd;unfold Builtin.«set.__init__» noKeywords Builtin.Frozenset.updateFrom;generalize d:l6=PI
 wp_walk
 subst d;refine wpAny_of_in1<|t _ _ ?_;have k:s.heap.objs.size∉[(s.heap.push<|bj X.w).objs.size,l]:=by rw[J];simp only[A5,MV,or_false,not_or];exact⟨D6<|MW _,Nat.ne_of_gt Y⟩
 have f:s.heap.get? s.heap.objs.size=a8:=by
  cases q:s.heap.get? s.heap.objs.size with
  |none=>rfl
  |some o=>exact r9 (C2 q)<|K9 _
 have C:∀b∈[(s.heap.push<|bj X.w).objs.size],s.heap.get? b=a8:=λb p=>by
  rw[G1.mp p,J];cases q:s.heap.get? (s.heap.objs.size+1) with
  |none=>rfl
  |some o=>exact r9 (C2 q)<|NT.mpr<|OQ _
 refine t9<|wpAny_runValue<|GT (s:=s) Z I B (by first|exact(show A.units+m+2<m9 by lia)|exact(show A.units+1+m+2<m9 by lia)) W s.heap.objs.size k f C a y N n 0 _ _ [] rfl (D4 _) st (DF<|A9 _ S) (λx=>by simp) (z5 _) (λb u e=>A9 _<|A9 _ e) λh' tk V Q z U R=>?_;exact u9<|u9 ⟨rfl,h h' tk V Q z U R⟩
set_option maxHeartbeats 1000000 in
theorem Iu(C:x8 X.K ρ M H)(I:u6 X pins σ H s)(B:m<=8)(Z:A.units+m+20<m9){l:d7}{T:String}{n:Nat}{P:Nat->b9->Prop}{Q:b9->g8->Prop}(t:A.handled=a8)(K:TxSrc X.prog X.w s.heap l T n P)(a:Nat->D)(y:∀i v,P i v->∃vv,w5 X.K ρ H (a i) vv/\aQ vv v/\dh m (a i)=a9/\oo (a i)=a9)(p:n<=63)(h:∀h' tk ds,(∀b o,s.heap.get? b=a7 o->h'.get? b=a7 o)->KS X ρ H h' s.heap.objs.size m ds->(∀x,x∈ds↔∃j,j<n/\a j=x)->ds.length<=n->Q (.ref s.heap.objs.size) { s with heap:=h',toks:=tk }):i7 (j2 X.prog X.w) A (call (.type "set") [.ref l]) Q E s:=by
 have O:=F.called_set.made;have W:=F.called_set.sub;have U:=F.called_set.notType;have L:=F.called_set.canCreate;have Y:=F.typeCall_set_1<|.ref l;obtain⟨c,tl,V⟩:=F.called_set.mro;refine wpAny_call<|codeAny_of_tree<|show i7 _ _ (callAny (.type "set") _) _ _ _ from u9 ⟨Code.quiet_builtin _ (by decide +kernel),Pp F.entry_type_call ?_⟩;rw[Around.under_plain (weight_type_call_type "set" [.ref l] []) rfl]
 repeat (any_goals (first|assumption|wp_step))
 refine Pj (vc (.ref l) (E:=E) (Q₁:=λobj s₁=>obj=.ref s.heap.objs.size/\s₁={ s with heap:=s.heap.push (bj X.w) }) ⟨rfl,rfl⟩) λr s₁ hr=>?_
 match r,hr with
 |.error e,hr=>exact hr
 |.ok (.ret obj),⟨e1,e2⟩ =>
  subst e1 e2;have S:(s.heap.push<|bj X.w).get? s.heap.objs.size=a7 (bj X.w):=E1 _ rfl;have k:Shared.TypeIs { s with heap:=s.heap.push (bj X.w) } (.ref s.heap.objs.size) "set":=⟨_,S,rfl⟩
  have N:=F.called_set.init.lookup;have J:=F.called_set.init.bind<|.ref s.heap.objs.size
  repeat (any_goals (first|assumption|wp_step))
  refine Pj (codeAny_call_builtin (R:=wants (λr s₂=>r=.none/\Q (.ref s.heap.objs.size) s₂) E) F.called_set.init.plain F.entry_set_init<|check_set_init_1 k ?_) λd s₂ hr₂=>?_;refine L6 (Hq (G:=λu=>Q (.ref s.heap.objs.size) u) C I B (by first|(show A.units+1+1+1+m+3<m9;lia)|(show A.units+1+1+m+3<m9;lia)|(show A.units+1+m+3<m9;lia)) (by simp[t]) K a y p h) (λf s' ⟨e,g⟩=>?_) λ_ _ z=>z;subst e;exact⟨rfl,g⟩
  ·match d,hr₂ with
   |.error e,hr₂=>exact hr₂
   |.ok (.ret r),⟨e,q⟩ =>
    subst e
    repeat (any_goals (first|assumption|wp_step))
end
def IN(M:u8)(d:D)(xs:List D):Prop:=(∃n,d=.ref n/\ao M n xs)\/d=.tup xs
theorem SrtOk.sub(h:SrtOk M xs)(s:∀y∈ys,y∈xs)(l:ys.length<64):SrtOk M ys:=by refine⟨l,λx a=>h.ok x<|s x a,λx a y Q=>h.cm x (s x a) y<|s y Q,?_⟩;rcases h.kd with k|k|k|k|k;exact .inl λx a=>k x<|s x a;exact .inr<|.inl λx a=>k x<|s x a;exact .inr<|.inr<|.inl λx a=>k x<|s x a;exact .inr<|.inr<|.inr<|.inl λx a=>k x<|s x a;exact .inr<|.inr<|.inr<|.inr λx a=>k x<|s x a
theorem Jl(I:u6 X pins σ H s)(e:x8 X.K ρ M H)(r:w5 X.K ρ H d v)(b:aQ v u)(t:IN M d xs):∃(a:d7) (T:String) (its:Array b9) (vs:List V),u=.ref a/\TxSrc X.prog X.w s.heap a T its.size (λi v=>its[i]?=a7 v)/\Reps X.K ρ H xs vs/\ax vs its.toList:=by
 rcases t with⟨n,rfl,h⟩|rfl;cases r with
 |@ref _ a c=>cases b;obtain⟨vs,hs,f⟩:=h.seq e c;obtain⟨its,m,p,_⟩:=I.list hs;exact⟨a,_,its.toArray,vs,rfl,TxSrc.list p.isList,f,by simpa using m⟩
 cases r with
 |@tup a vs _ hs f=>cases b;obtain⟨its,m,p,_⟩:=I.tuple hs;exact⟨a,_,its.toArray,vs,rfl,TxSrc.tuple p,f,by simpa using m⟩
theorem yy{X:Cx}:∀{ds:List D}{vs:List V}{its:List b9}{i:Nat}{u:b9}{ρ:List d7}{H:Hp},Reps X.K ρ H ds vs->ax vs its->its[i]?=a7 u->∃d v,ds[i]?=a7 d/\w5 X.K ρ H d v/\aQ v u
 |_,_,_,i,u,_,_,.nil,h,e=>by cases h;simp at e
 |_,_,_,0,u,_,_,.cons r _,h,e=>by
  cases h with
  |cons a _=>simp at e;subst e;exact⟨_,_,rfl,r,a⟩
 |_,_,_,i+1,u,_,_,.cons _ t,h,e=>by
  cases h with
  |cons _ b=>obtain⟨d,v,e1,r,rv⟩:=yy (i:=i) t b (by simpa using e);exact⟨d,v,by simpa using e1,r,rv⟩
theorem ents:∀{ds:List D}{es:List (Int×b9)},Paired (F8 X ρ H n) ds es->∃vs,Reps X.K ρ H ds vs/\ax vs (es.map (·.2))
 |_,_,.nil=>⟨[],.nil,.nil⟩
 |_,_,.cons ⟨⟨v,r,rv⟩,_⟩ t=>by obtain⟨vs,a,b⟩:=ents t;exact⟨v::vs,.cons r a,.cons rv b⟩
theorem zV{X:Cx}(p:us'.Perm us):∀{ds:List D}{vs:List V},Reps X.K ρ H ds vs->ax vs us->∃ds' vs',ds'.Perm ds/\Reps X.K ρ H ds' vs'/\ax vs' us':=by
 induction p with
 |nil=>intro ds vs r h;exact⟨ds,vs,.refl _,r,h⟩
 |cons x _ o =>
  intro ds vs r h;cases h with
  |cons a b =>
   cases r with
   |cons c d=>obtain⟨ds',vs',h1,h2,e⟩:=o d b;exact⟨_,_,h1.cons _,.cons c h2,.cons a e⟩
 |swap x y l =>
  intro ds vs r h;cases h with
  |cons a b =>
   cases b with
   |cons g j =>
    cases r with
    |cons c d =>
     cases d with
     |cons k m=>exact⟨_,_,.swap _ _ _,.cons k<|.cons c m,.cons g<|.cons a j⟩
 |trans _ _ i f=>intro ds vs r h;obtain⟨ds',vs',h1,h2,e⟩:=f r h;obtain⟨C,v,g1,n,g3⟩:=i h2 e;exact⟨C,v,g1.trans h1,n,g3⟩
def fB(te:A2):A2:=λS M Q=>te S M λd a=>∃n xs,n<=8/\IN a d xs/\xs.length<64/\(∀x∈xs,dh n x=a9/\oo x=a9)/\SrtOk a xs/\∀ys:List D,ys.Nodup->(∀x,x∈ys↔x∈xs)->yi a ys->Q (.ref a.length) (a++[.lst ys])
section
set_option maxHeartbeats 1000000 in
theorem xX(hr:Room k X.A)(hc:X.calm=a9)(he:DE X e te)(Y:X.mg "sorted" = a8)(Z:X.mg "set" = a8)(U:X.env.kindOf "sorted" = a7 .globalImplicit)(V:X.env.kindOf "set" = a7 .globalImplicit)(h1:j6 [e] X.env=[(b7,eval e X.env)]) (h2:j6 [NS (.Name "set" p') [e] [] pos'] X.env=[(b7,eval (NS (.Name "set" p') [e] [] pos') X.env)]):DE X (.Call (.Name "sorted" p) [.Call (.Name "set" p') [e] [] pos'] [] pos) (fB te):=by
 rintro pins s σ H R I ⟨S,M,ρ,Q,sm,sr,q,kk⟩;refine OD<|fv I U Y (by rfl) ?_;refine callWith_builtin1 ?_ (by rw[h2];rfl) rfl;rw[h2];refine Qn ?_;refine OD<|fv I V Z (by rfl) ?_;refine callWith_type1 ?_ (by rw[h1];rfl) rfl;rw[h1];refine Qn<|z6 (he pins s σ H _ I ⟨S,M,ρ,_,sm,sr,q,λv H' z=>z⟩) ?_;rintro u s1 ⟨v,H1,w,rv,d,M1,bk,c,g1,r1,cases⟩;refine Qj ?_;obtain⟨n,xs,n8,sq,hl,hk,so,G⟩:=cases;obtain⟨a,T,its,ws,rfl,src,P,vx⟩:=Jl w c r1 rv sq;have li:its.size=xs.length:=by have h1:=vx.length;have h2:=P.length;simp at h1;lia
 have un:=hr.un;refine Iu c w n8 (by lia) (w.ok.hd hc) src (λi=>xs.getD i .non) (λi v e=>?_) (by lia) λh2 f ds k2 l W aS=>?_;obtain⟨d,vv,e1,r,rv⟩:=yy P vx (by rw[J3];exact e);have F:xs.getD i .non=d:=by rw[L3,e1];rfl
 have:=hk d<|NA e1;exact⟨vv,by rw[F];exact r,rv,by rw[F];exact this.1,by rw[F];exact this.2⟩;refine Qj ?_;have C:=w.kept (t':=f) k2;obtain⟨o,es,ep,t,K⟩:=l;have aT:ds.length=es.size:=by have:=K.en.length;simpa using this
 have hz:es.size<=sizeLine:=by rw[M8];lia
 refine xm (s:={ s1 with heap:=h2,toks:=f }) (C.ok.hd hc) ⟨K.ob,K.dt,K.fits⟩ K.ex.1 (λz=>.inr K.tk.ris) K.ld hz λh3 ba dr D vs k3 J N pv=>?_;have h:∀x,x∈ds↔x∈xs:=λx=>by
  rw[W x,li];constructor;rintro⟨j,L,rfl⟩;have e:xs.getD j .non=xs[j]:=by simp[OO,L]
  rw[e];exact G6 L;intro hx;obtain⟨j,L,e⟩:=List.getElem_of_mem hx;exact⟨j,L,by rw[show xs.getD j .non=xs[j] by simp[OO,L]];exact e⟩
 obtain⟨be,aj,ap⟩:=ents K.en;obtain⟨ds',bd,B,an,as⟩:=zV pv aj ap;obtain⟨m,hn,_⟩:=C.loc;have O:D≠X.env.locals:=λz=>by obtain⟨oL,_,_,hL,_⟩:=hn;rw[z]at J;rw[J]at hL;cases hL
 have ab:h3.Ns X.env.locals m:=hn.at' λo e=>k3 _ _ e;refine tW (X:=X) (pins:=pins) (σ:=σ) (s:={ s1 with heap:=h2,toks:=f,drawn:=dr }) (n:=0) hr (by show X.A.units+1<=X.A.units+4;lia) C.drew c (so.sub (ys:=ds') (λy hy=>(h y).mp<|B.mem_iff.mp hy)<|by rw[B.length_eq];lia).g an as hn ab (λb u _ e=>k3 b u e) J O N λv H' x=>?_;refine kk v H' ?_;have:=x (λd E=>Q d E) λys hp ai=>?_;obtain⟨d,E,aD,a1,a2,a3,a4⟩:=this;exact⟨d,E,aD,a1,g1.trans a2,a3,a4⟩;exact G ys ((hp.trans B).nodup_iff.mpr K.nd) (λx=>((hp.trans B).mem_iff).trans<|h x) ai
theorem xP(r:Room k X.A)(i:HE X e te)(Y:X.mg "sorted" = a8)(Q:X.mg "set" = a8)(f:X.calm=a9:=by kernel_rfl)(U:X.env.kindOf "sorted" = a7 .globalImplicit:=by kernel_rfl)(V:X.env.kindOf "set" = a7 .globalImplicit:=by kernel_rfl)(h1:j6 [e] X.env=[(b7,eval e X.env)]:=by kernel_rfl) (h2:j6 [NS (.Name "set" p') [e] [] pos'] X.env=[(b7,eval (NS (.Name "set" p') [e] [] pos') X.env)]:=by kernel_rfl):HE X (.Call (.Name "sorted" p) [.Call (.Name "set" p') [e] [] pos'] [] pos) (fB te):=⟨xX r f i.ok Y Q U V h1 h2⟩
end
def fG(h:d9):Nat->D->b9->Prop
 |_,.str x,v=>∃t,v=.str x t
 |_,.int i,v=>∃t,v=.int i t
 |n+1,.tup ds,v=>∃a its,v=.ref a/\h.IsTuple a its/\Paired (fG h n) ds its.toList
 |_,_,_=>False
noncomputable def PH:Nat->D->Nat
 |n+1,.tup ds=>(ds.map<|PH n).sum+1
 |_,_=>1
theorem iA:∀(n:Nat) (d:D) (v:b9),fG h n d v->dh n d=a9:=by
 intro n;induction n with
 |zero=>intro d v k;cases d<;>first|rfl|exact k.elim
 |succ n b =>
  intro d v k;cases d with
  |str x=>rfl
  |int x=>rfl
  |tup ds =>
   obtain⟨a,its,_,_,p⟩:=k;show ds.all (dh n)=a9;generalize its.toList=l at p;induction p with
   |nil=>rfl
   |cons r _ i=>rw[MG,b _ _ r,i];rfl
  |_=>exact k.elim
theorem uP{h:d9}{a:d7}{xs ys:Array b9}(h1:h.IsTuple a xs)(h2:h.IsTuple a ys):xs=ys:=by obtain⟨o,t,_,n,d⟩:=h1;obtain⟨o',l,_,f,b⟩:=h2;obtain rfl:o=o':=F3<|t.symm.trans l;rw[d]at b;injection b
theorem sD{h:d9}:∀(n:Nat) (x y:D) (v:b9),fG h n x v->fG h n y v->x=y:=by
 intro n;induction n with
 |zero =>
  intro x y v k C;cases x with
  |str a =>
   obtain⟨t,rfl⟩:=k;cases y with
   |str b=>obtain⟨t',e⟩:=C;injection e with e;rw[e]
   |int b=>obtain⟨t',e⟩:=C;cases e
   |_=>exact C.elim
  |int a =>
   obtain⟨t,rfl⟩:=k;cases y with
   |str b=>obtain⟨t',e⟩:=C;cases e
   |int b=>obtain⟨t',e⟩:=C;injection e with e;rw[e]
   |_=>exact C.elim
  |_=>exact k.elim
 |succ n c =>
  intro x y v k C;cases x with
  |str a =>
   obtain⟨t,rfl⟩:=k;cases y with
   |str b=>obtain⟨t',e⟩:=C;injection e with e;rw[e]
   |int b=>obtain⟨t',e⟩:=C;cases e
   |tup b=>obtain⟨_,_,e,_⟩:=C;cases e
   |_=>exact C.elim
  |int a =>
   obtain⟨t,rfl⟩:=k;cases y with
   |str b=>obtain⟨t',e⟩:=C;cases e
   |int b=>obtain⟨t',e⟩:=C;injection e with e;rw[e]
   |tup b=>obtain⟨_,_,e,_⟩:=C;cases e
   |_=>exact C.elim
  |tup xs =>
   obtain⟨a,its,rfl,f,g⟩:=k;cases y with
   |str b=>obtain⟨t',e⟩:=C;cases e
   |int b=>obtain⟨t',e⟩:=C;cases e
   |tup ys =>
    obtain⟨_,i,e,E,j⟩:=C;cases e;obtain rfl:=uP f E;congr 1;generalize its.toList=l at g j;induction g generalizing ys with
    |nil=>cases j;rfl
    |cons r _ d=>cases j with
     |cons r' t'=>rw[c _ _ _ r r',d _ t']
   |_=>exact C.elim
  |_=>exact k.elim
theorem xN(k:∀a its,h.IsTuple a its->h'.IsTuple a its):∀(n:Nat) (d:D) (v:b9),fG h n d v->fG h' n d v:=by
 intro n;induction n with
 |zero=>intro d v q;cases d<;>first|exact q|exact q.elim
 |succ n i =>
  intro d v q;cases d with
  |str x=>exact q
  |int x=>exact q
  |tup ds=>obtain⟨a,its,e,t,p⟩:=q;exact⟨a,its,e,k _ _ t,Paired.mapP p λx y r=>i x y r⟩
  |_=>exact q.elim
theorem uN{es ep}(q:fG h n k v)(B:h.get? d=a7 o)(f:o.data=.dict es ep)(hs:NK d h h'):fG h' n k v:=by
 refine xN (λa its ⟨o',e,c,m,t⟩=>?_) n k v q;have b:a≠d:=by rintro rfl;obtain rfl:o'=o:=F3<|e.symm.trans B;rw[f]at t;cases t
 exact⟨o',(hs.2 a b).trans e,c,m,t⟩
theorem xO:∀(n:Nat) (A:f9) (s:g8) (d:D) (u:b9) (E:b9->g8->Prop) (Q:Int->g8->Prop),A.units+n<m9->fG s.heap n d u ->Q (C8 w n d) { s with toks:=s.toks+PH n d }->i7 (j2 prog w) A (pyHash u) Q E s:=by
 intro n;induction n with
 |zero =>
  intro A s d u E Q q k h;cases d with
  |str x=>obtain⟨t,rfl⟩:=k;exact Qf h
  |int x=>obtain⟨t,rfl⟩:=k;exact Qg h
  |_=>exact k.elim
 |succ n r =>
  intro A s d u E Q q k h;cases d with
  |str x=>obtain⟨t,rfl⟩:=k;exact Qf h
  |int x=>obtain⟨t,rfl⟩:=k;exact Qg h
  |tup ds =>
   obtain⟨a,its,rfl,⟨o,B,j,Z,m⟩,p⟩:=k;have T:s.TypeIs (.ref a) "tuple":=⟨o,B,j⟩
   unfold pyHash
   first|unfold pyHashByItsType|skip
   first|refine t9 (wpAny_cRoomFor_or (.inr<|by lia) ?_)|skip
   refine t9<|Of T F.slot_tuple_hash.lookup ?_;refine(show i7 (j2 prog w) _ (if (a7 (Value.builtin "tuple.__hash__")==a7 K4)=a9 then _ else _) Q E s from ?_);rw[q9<|by rw[beq_builtin_none];exact K0];refine t9<|Of T F.slot_tuple_hash.lookup ?_;refine(show i7 (j2 prog w) _ (callSpecialIfBoundUnlessNone? (.ref a) "__hash__" _ >>= _) Q E s from t9<|Sa T F.slot_tuple_hash<|J2 F.slot_tuple_hash T F.entry_tuple_hash ?_<|F.args_tuple_hash_1 _);refine(show i7 (j2 prog w) _ (Rr (.ref a) >>= _) _ _ s from t9<|wpAny_tupleItemsOf B m<|t9 ?_);rw[<-Pt];refine OA _ (λaX (b:Array Int) s'=>∃done left,ds=done++left/\Paired (fG s.heap n) left aX/\b.toList=done.map (C8 w n)/\s'={ s with toks:=s.toks+(done.map<|PH n).sum }) _ ?_ ?_ _ _ ⟨[],ds,rfl,p,rfl,rfl⟩;rintro x aX b s' ⟨done,left,e,h1,f,rfl⟩;cases h1 with
   |@cons g _ c _ v G =>
    refine t9<|r _ _ g x _ _ (by show A.units+1+n<m9;lia) v ?_
    first
     |exact u9 ⟨done++[g],c,by rw[e];simp,G,by simp[f],by simp[Nat.add_assoc]⟩
     |exact t9 (u9 (u9 ⟨done++[g],c,by rw[e];simp,G,by simp[f],by simp[Nat.add_assoc]⟩))
   rintro b s' ⟨done,left,e,h1,f,rfl⟩;cases h1;rw[NZ]at e;subst e;refine(show i7 (j2 prog w) _ (retInt<|O7 b.toList) _ _ _ from ?_);rw[f];refine wpAny_ret_mkInt ?_;have l:C8 w (n+1) (.tup ds)=o8 (O7<|ds.map<|C8 w n):=rfl;have h':Q (C8 w (n+1)<|.tup ds) { s with toks:=s.toks+(ds.map<|PH n).sum+1 }:=h;generalize O7 (ds.map<|C8 w n)=z at l;refine(show i7 (j2 prog w) _ (if (decide (-(2:Int) ^ 63<=z)&&decide (z<2 ^ 63))=a9 then _ else _) Q E _ from ?_);unfold o8 at l;by_cases i:(decide (-(2:Int) ^ 63<=z)&&decide (z<2 ^ 63))=a9;rw[p9 i]at l ⊢;exact u9 (by rw[<-l];exact h');rw[q9 i]at l ⊢;exact t9<|Oa<|u9<|by rw[<-l];exact h'
  |_=>exact k.elim
theorem uM:∀(n k:Nat) (A:f9) (s:g8) (d:D) (u:b9) (E:b9->g8->Prop) (Q:Bool->g8->Prop),n<=k->fG s.heap n d u->Q a9 s->i7 (j2 prog w) A (eqIsQuiet k u) Q E s:=by
 intro n;induction n with
 |zero =>
  intro k A s d u E Q c q h;cases d with
  |str x=>obtain⟨t,rfl⟩:=q;rw[OB k (v:=.str x t) rfl];exact u9 h
  |int x=>obtain⟨t,rfl⟩:=q;rw[OB k (v:=.int x t) rfl];exact u9 h
  |_=>exact q.elim
 |succ n e =>
  intro k A s d u E Q c q h;cases d with
  |str x=>obtain⟨t,rfl⟩:=q;rw[OB k (v:=.str x t) rfl];exact u9 h
  |int x=>obtain⟨t,rfl⟩:=q;rw[OB k (v:=.int x t) rfl];exact u9 h
  |tup ds =>
   obtain⟨a,its,rfl,⟨o,B,f,Z,b⟩,p⟩:=q;obtain⟨k,rfl⟩:∃g,k=g+1:=⟨k-1,by lia⟩
   have T:s.TypeIs (.ref a) "tuple":=⟨o,B,f⟩
   unfold eqIsQuiet;refine t9<|Of T F.slot_tuple_eq.lookup ?_;refine(show i7 (j2 prog w) A (isInstance (.ref a) (.type "tuple") >>= _) _ _ s from t9<|Oz T isSubtype_tuple_tuple ?_);simp only[NW,E3,t5];refine t9<|Na B b ?_;simp only[Option.getD_some];refine t9 ?_;refine(show i7 (j2 prog w) A (forIn its _ _) _ _ s from ?_);rw[<-Pt];refine OA _ (λaX r s'=>r.1=a8/\s'=s/\∃left,Paired (fG s.heap n) left aX) _ ?_ ?_ _ _ ⟨rfl,rfl,ds,p⟩;rintro x aX r s' ⟨i,rfl,left,h1⟩;cases h1 with
   |cons j G=>refine t9<|e k _ _ _ x _ _ (by lia) j ?_;simp only[NW,E3,t5];exact u9 ⟨rfl,rfl,_,G⟩
   rintro⟨r1,r2⟩ s' ⟨i,rfl,_⟩;simp only at i;subst i;exact u9 h
  |_=>exact q.elim
theorem jL{h:d9}{n:Nat}{ds:List D}{its:Array b9}(p:Paired (fG h n) ds its.toList):ds.length=its.size:=by
 rw[<-G3];generalize its.toList=l at p;induction p with
 |nil=>rfl
 |cons _ _ i=>rw[C5,C5,i]
theorem DM:∀(n:Nat) (A:f9) (s:g8) (x y:D) (u v:b9),A.units+n<m9->fG s.heap n x u->fG s.heap n y v->Ng A s u v (v7 [] n x y):=by
 intro n;induction n with
 |zero =>
  intro A s x y u v E k C;cases x with
  |str a =>
   obtain⟨t,rfl⟩:=k;cases y with
   |str b=>obtain⟨t',rfl⟩:=C;exact Rg _ _ _ _
   |int b=>obtain⟨t',rfl⟩:=C;exact Qo _ _ _ _
   |_=>exact C.elim
  |int a =>
   obtain⟨t,rfl⟩:=k;cases y with
   |str b=>obtain⟨t',rfl⟩:=C;exact Qp _ _ _ _
   |int b=>obtain⟨t',rfl⟩:=C;exact Qm _ _ _ _
   |_=>exact C.elim
  |_=>exact k.elim
 |succ n G =>
  intro A s x y u v E k C;have c:A.units<m9:=by lia
  have h:A.in1.units+n<m9:=by show A.units+1+n<m9;lia
  cases x with
  |str a =>
   obtain⟨t,rfl⟩:=k;cases y with
   |str b=>obtain⟨t',rfl⟩:=C;exact Rg _ _ _ _
   |int b=>obtain⟨t',rfl⟩:=C;exact Qo _ _ _ _
   |tup b=>obtain⟨_,_,rfl,p,_⟩:=C;exact SeqAt.EqAt.str_tuple _ _ p c
   |_=>exact C.elim
  |int a =>
   obtain⟨t,rfl⟩:=k;cases y with
   |str b=>obtain⟨t',rfl⟩:=C;exact Qp _ _ _ _
   |int b=>obtain⟨t',rfl⟩:=C;exact Qm _ _ _ _
   |tup b=>obtain⟨_,_,rfl,p,_⟩:=C;exact SeqAt.EqAt.int_tuple _ _ p c
   |_=>exact C.elim
  |tup xs =>
   obtain⟨a,its,rfl,p,o⟩:=id k;cases y with
   |str b=>obtain⟨t',rfl⟩:=C;exact SeqAt.EqAt.tuple_str _ _ p c
   |int b=>obtain⟨t',rfl⟩:=C;exact SeqAt.EqAt.tuple_int _ _ p c
   |tup ys =>
    obtain⟨b,d,rfl,F,q⟩:=id C;by_cases S:a=b;subst S;have e:=sD (n+1) _ _ _ k C;rw[e,(ja (M:=[]) (n+1) _ _ (iA _ _ _ C)<|iA _ _ _ C).mpr rfl];exact Q2 _;have Q:=jL o;have l:=jL q;have f:∀(j:Nat) (h1:j<its.size) (h2:j<d.size),Ng A.in1 s its[j] d[j] (v7 [] n (xs.getD j .non)<|ys.getD j .non):=λj h1 h2=>by
     obtain⟨r,z,H⟩:=iR o (i:=j) (y:=its[j]) (by rw[J3];exact L1 h1);obtain⟨w,B,I⟩:=iR q (i:=j) (y:=d[j]) (by rw[J3];exact L1 h2);have J:xs.getD j .non=r:=by rw[L3,z];rfl
     have K:ys.getD j .non=w:=by rw[L3,B];rfl
     rw[J,K];exact G A.in1 s r w _ _ h H I
    have m:((C3<|min its.size d.size).all (λj=>v7 [] n (xs.getD j .non)<|ys.getD j .non)&&its.size==d.size)=D8 (v7 [] n) xs ys:=by
     by_cases g:xs.length=ys.length;have W:(C3 xs.length).all (λj=>v7 [] n (xs.getD j .non)<|ys.getD j .non)=D8 (v7 [] n) xs ys:=mM g λj x y h1 h2=>by simp[OO,h1,h2]
     rw[<-Q,<-l,<-g,Nat.min_self,W];simp;rw[wA g,<-Q,<-l];simp[g]
    have h1:=SeqAt.RcAt.tuples p F c f;rw[m]at h1;exact SeqAt.EqAt.of_refs S h1
   |_=>exact C.elim
  |_=>exact k.elim
noncomputable instance decD:DecidableEq D:=λa b=>Classical.propDecidable<|a=b
noncomputable def gO(prog:d6)(w:d5):HeapKind prog w D where
 is:=λh d a=>fG h 8 d<|.ref a
 hash:=C8 w 8
 draws:=PH 8
 room:=λA=>A.units+8<m9
 inj:=λx y=>sD 8 _ _ _ x y
 keeps:=λx B c hs=>uN x B c hs
 pyHash:=λg k h=>xO 8 _ _ _ _ _ _ g k h
 eqBool:=λ{A E s x y a b Q} g k1 k2 h=>by
  refine DM 8 A s x y _ _ g k1 k2 _ _ _ _ ?_;have e:v7 [] 8 x y=decide (x=y):=by rw[Ni,ja 8 x y (iA _ _ _ k1)<|iA _ _ _ k2,s9]
  rw[e];exact h
 quiet:=λk h=>uM 8 8 _ _ _ _ _ _ (z5 _) k h
noncomputable def gK(kvs:List (D×D))(k:D):Option D:=(kvs.find? λp=>decide<|p.1=k).map (·.2)
noncomputable def mW(kvs:List (D×D))(k d:D):List (D×D):=if (gK kvs k).isSome then kvs.map (λp=>if p.1=k then(p.1,d)else p)else kvs++[(k,d)]
section
variable{K:v9}{ρ:List d7}{H:Hp}{M:u8}{kvs:List (D×D)}{xs:List (D×d7×b9)}
theorem AU(r:Paired (tw K ρ H) kvs xs)(k:D):(gK kvs k=a8/\atKey xs k=a8)\/∃d p v,gK kvs k=a7 d/\atKey xs k=a7 p/\w5 K ρ H d v/\aQ v p.2:=by
 unfold gK atKey;induction r with
 |nil=>exact .inl ⟨rfl,rfl⟩
 |@cons p q ps qs h t i=>obtain⟨h1,_,_,v,a,b⟩:=h;rw[MQ,MQ];by_cases e:p.1=k;rw[dT_ e,dT_<|h1.symm.trans e];exact .inr ⟨_,_,v,rfl,rfl,a,b⟩;rw[dF_ e,dF_<|λz=>e<|h1.trans z];exact i
theorem KB(r:Paired (tw K ρ H) kvs xs)(n:dh 8 k=a9)(A:w5 K ρ H k (.ref b))(f:w5 K ρ H d v)(g:aQ v u):Paired (tw K ρ H) (mW kvs k d) (storedH xs k b u):=by
 unfold mW storedH;have s:(gK kvs k).isSome=(atKey xs k).isSome:=by rcases AU r k with⟨a,l⟩|⟨_,_,_,a,l,_⟩<;>rw[a,l]<;>rfl
 rw[s];by_cases q:(atKey xs k).isSome=a9;rw[p9 q,p9 q];clear s q;induction r with
 |nil=>exact .nil
 |@cons p q ps qs h t i=>rw[B9,B9];refine .cons ?_ i;obtain⟨h1,h2,c,w,j,m⟩:=h;by_cases e:p.1=k;rw[p9 e,putAt,p9<|h1.symm.trans e];exact⟨h1,h2,c,v,f,g⟩;rw[q9 e,putAt,q9<|λz=>e<|h1.trans z];exact⟨h1,h2,c,w,j,m⟩
 rw[q9 q,q9 q];clear s q;induction r with
 |nil=>exact .cons ⟨rfl,n,A,v,f,g⟩ .nil
 |cons h t i=>exact .cons h i
theorem GQ(r:Paired (tw K ρ H) kvs xs):xs.map (·.1)=kvs.map (·.1):=by
 induction r with
 |nil=>rfl
 |cons h t i=>rw[B9,B9,i,h.1]
theorem jZ:(mW kvs k d).length<=kvs.length+1:=by unfold mW;split;rw[x6];lia;rw[A7];exact z5 _
theorem x8.writeT(S:x8 K ρ M H)(t:ρ[n]?=a7 a)(b:M[n]?=a7 (.dkt kvs))(h:H a=a7 (.ext<|dX a xs))(l:kvs'.length<=sizeLine)(hs:(a==f6)=b7)(X:(kvs'.map (·.1)).Nodup)(r:Paired (tw K ρ H) kvs' xs'):x8 K ρ (M.set n<|.dkt kvs') (A0 H a<|.ext<|dX a xs')/\Grow K ρ H ρ (A0 H a<|.ext<|dX a xs'):=S.writeG t (λ⟨_,z⟩=>by rw[b]at z;cases z) h rfl λg=>⟨l,hs,X,xs',bi,Paired.mapP r λ_ _ ⟨c,j,k,v,u,O⟩=>⟨c,j,k.grow g,v,u.grow g,O⟩⟩
end
theorem oR(I:u6 X pins σ H s):∀(n:Nat) (d:D) (v:V) (u:b9),w5 X.K ρ H d v->aQ v u->dh n d=a9->fG s.heap n d u:=by
 intro n;induction n with
 |zero =>
  intro d v u r b k;cases r with
  |str x=>exact b
  |int x=>exact b
  |_=>cases k
 |succ n e =>
  intro d v u r b k;cases r with
  |str x=>exact b
  |int x=>exact b
  |@tup a vs ds q f =>
   cases b;obtain⟨its,m,p,z⟩:=I.tuple q;have h:∀x∈ds,dh n x=a9:=D7.mp<|show ds.all (dh n)=a9 from k;refine⟨a,its.toArray,rfl,p,?_⟩;rw[List.toList_toArray];clear p q k z;induction m generalizing ds with
   |nil=>cases f;exact .nil
   |cons g j i =>
    cases f with
    |cons h1 t=>exact .cons (e _ _ _ h1 g<|h _ C7)<|i t λx c=>h x<|C0 _ c
  |_=>cases k
theorem ou{X:Cx}{pins:List (d7×d8)}{σ:St}{H:Hp}{s:g8}{ρ:List d7}{M:u8}(I:u6 X pins σ H s)(m:x8 X.K ρ M H){n:Nat}{a:d7}{kvs:List (D×D)}(e:ρ[n]?=a7 a)(c:M[n]?=a7 (.dkt kvs)):∃xs,H a=a7 (.ext<|dX a xs)/\Paired (tw X.K ρ H) kvs xs/\s.heap.DictOfH (gO X.prog X.w) a xs/\(a==f6)=b7/\kvs.length<=sizeLine/\xs.length=kvs.length/\(kvs.map (·.1)).Nodup:=by
 obtain⟨h1,h2,h,xs,b,r⟩:=m.obj _ _ _ e c;obtain⟨⟨o,es,t,l,R,J⟩,_⟩:=(show bX X.prog X.w H s.heap a (.ext<|dX a xs)from I.hok a _ b)
 have Y:=GQ r;refine⟨xs,b,r,⟨o,es,_,t,l,R,J,λx d=>?_,by rw[Y];exact h⟩,h2,h1,?_,h⟩;obtain⟨i,hi⟩:=NP d;obtain⟨p,_,q,j,k,_⟩:=iR r hi;rw[<-q];exact oR I 8 _ _ _ k rfl j;have:=t7 Ob Y
 rwa [x6,x6]at this
theorem Bx(d:dX a xs P w h'):bX P w H' h' a (.ext<|dX a xs):=by obtain⟨o,es,t,l,R,J⟩:=d;refine⟨⟨o,es,t,l,R,J⟩,⟨o,t⟩,?_⟩;rintro h1 h2 ⟨o,es,t,l,R,J⟩ k;exact⟨o,es,k _ t,l,R,J⟩
theorem Fj(I:u6 X pins σ H s)(h:H a=a7 (.ext<|dX a xs)):dX a xs X.prog X.w s.heap:=(show bX X.prog X.w H s.heap a (.ext<|dX a xs)from I.hok a _ h).1
theorem setE(x:(gO prog w).room A.in1)(t:(gO prog w).is s.heap k b)(u:s.heap.DictOfH (gO prog w) d xs) (y:dX d xs prog w s.heap) (hz:xs.length<=sizeLine)(m:∀h',dX d (storedH xs k b v) prog w h'->NK d s.heap h'->Q () { s with heap:=h',toks:=s.toks+(gO prog w).draws k }):i7 (j2 prog w) A (setItem (.ref d) (.ref b) v) Q E s:=by
 have n:=u.typeIs;obtain⟨_,_,_,_,_,_,_,g,f⟩:=u;obtain⟨o,es,B,r,h,c⟩:=y;have i:es.toList=xs.map (entryOfKey<|gO prog w):=c;unfold setItem
 try with_reducible refine K8 ?_
 refine t9<|wpAny_sequenceKey n (by decide)<|t9<|MY (name:=AA1 "__setitem__") n slot_dict_setitem<|J2 slot_dict_setitem n entry_dict_setitem ?_<|args_dict_setitem _ _ _;refine(show i7 (j2 prog w) _ (Builtin.Dict.notOrdered "__setitem__" ⟨[.ref d,.ref b,v],[]⟩ >>= _) _ _ s from t9<|RL n ?_);refine(show i7 (j2 prog w) _ (dictSet d (.ref b) v >>= _) _ _ s from t9 ?_);unfold dictSet
 try with_reducible refine K8 ?_
 refine t9<|(gO prog w).pyHash x t ?_;unfold dictSetHashed
 try with_reducible refine K8 ?_
 have C:es.size=xs.length:=size_of_entries i;refine t9<|wpAny_dictFind_heap (s:={ s with toks:=s.toks+(gO prog w).draws k }) x t B h i g f (λa=>?_) λj p L=>?_;refine t9<|Oa<|wpAny_updateDictKeys (hz:=by lia) (s:={ s with toks:=s.toks+(gO prog w).draws k }) B h<|u9 ⟨.none,rfl,u9<|m _ ⟨_,es.push ⟨(gO prog w).hash k,.ref b,v⟩,MX _ B<|Obj.isFreed_of_dict<|Obj.data_mapDictKeys h _,r.mapDictKeys _,?_,?_⟩<|Nb ..⟩;rw[Obj.data_mapDictKeys h,storedH_new<|atKey_none_of_get a,A7];rfl;rw[storedH_new<|atKey_none_of_get a];rw[Array.toList_push,i,MI];rfl;refine t9<|Oa<|t9<|wpAny_updateDict (s:={ s with toks:=s.toks+(gO prog w).draws k }) B h<|wpAny_point<|u9 ⟨.none,rfl,u9<|m _ ⟨_,es.modify j λe=>{ e with val:=v },MX _ B<|Obj.isFreed_of_dict<|Obj.data_mapDict h _,r.mapDict _,?_,?_⟩<|Nb ..⟩;rw[Obj.data_mapDict h,storedH_old<|atKey_of_get f L,x6];rw[storedH_old<|atKey_of_get f L];have q:=modify_map_putAt (entryOfKey<|gO prog w) (λe:o7=>{ e with val:=v }) k v (λ_ _=>rfl) f L;rw[<-i]at q;obtain⟨l⟩:=es;have z:(Array.modify ⟨l⟩ j λe:o7=>{ e with val:=v }).toList=(xs.map<|putAt k v).map (entryOfKey<|gO prog w):=by simpa using q
 exact z
section
variable{X:Cx}{o i value:i9}{td ty tv:A2}{pos pos':Pos}{k:Nat}
def vb:A2:=λ_ M Q=>Q (.ref M.length)<|M++[.dkt []]
theorem Md:DE X (.Dict [] [] pos) vb:=by rintro p s σ H R I ⟨S,M,ρ,Q,m,e,q,D⟩;have f:H s.heap.objs.size=a8:=I.hok.fresh<|z5 _;have d:(s.heap.objs.size==f6)=b7:=beq_eq_false_iff_ne.mpr<|D3<|D6 I.big;refine wpAny_Dict_empty ⟨.ref s.heap.objs.size,_,I.laid (a:=s.heap.objs.size) (o:=.ext<|dX s.heap.objs.size []) (t':=s.toks) (λ_ _ q=>A9 _ q) (z5 _)<|Bx ⟨_,#[],E1 _ rfl,⟨rfl,rfl,rfl⟩,rfl,rfl⟩,rfl,?_⟩;exact D _ _ ⟨.ref M.length,M++[.dkt []],ρ++[s.heap.objs.size],m.laidM (mo:=.dkt []) f ⟨D4 _,d,List.nodup_nil,[],bi,.nil⟩,Grow.laidR f,.ref m.last,(show Q (.ref M.length) (M++[.dkt []])from q)⟩
def Eu(t c:A2):A2:=λS M Q=>t S M λx a=>c S a λy b=>match x,y with
 |.ref n,.tup ks=>∃kvs d,b[n]?=a7 (.dkt kvs)/\dh 8 (.tup ks)=a9/\gK kvs (.tup ks)=a7 d/\Q d b
 |_,_=>False
theorem Me(U:Room k X.A)(T:DE X o td)(hi:DE X i ty)(hs:NoSl i):DE X (.Subscript o i pos) (Eu td ty):=by
 rintro c s σ H R I ⟨S,M,ρ,Q,sm,E,q,Z⟩;have un:=U.un;refine FG PySem.F.slot_dict_getitem.lookup hs<|z6 (T c s σ H _ I ⟨S,M,ρ,_,sm,E,q,λv H' z=>z⟩) ?_;rintro u s1 ⟨v,G,K,rv,x,L,l,h,g1,r1,q1⟩;refine z6 (hi c s1 σ G _ K ⟨S,L,l,_,h,E.grow g1,q1,λv H' z=>z⟩) ?_;rintro iv s2 ⟨w,J,f,g,y,N,m,e,C,r2,j⟩;cases x with
 |ref n =>
  cases y with
  |tup V =>
   obtain⟨kvs,d,O,Y,D,q3⟩:=j;obtain⟨a,rfl,P⟩:=w5.inv_ref r1;obtain rfl:u=I0 a:=rv;obtain⟨xs,hH,r,B,W,hl,hx,_⟩:=ou f e (aO C.pre P) O;have t:=oR f 8 _ _ _ r2 g Y;rcases AU r (.tup V)with⟨z,_⟩|⟨d',p,v',e1,e2,e3,e4⟩
   rw[D]at z;cases z;rw[D]at e1;cases e1;obtain⟨b,_,rfl,_⟩:=id t;refine⟨B.typeIs,wpAny_getItem_heap (knd:=gO X.prog X.w) (k:=.tup V) (by show X.A.units+1+8<m9;lia) t B e2 ⟨v',J,f.tok _,e4,Z _ _ ⟨d,N,m,e,g1.trans C,e3,q3⟩⟩⟩
  |_=>exact j.elim
 |_=>exact j.elim
def va(t d f:A2):u7:=λE S M=>f S M λv b=>t S b λx c=>d S c λy a=>match x,y with
 |.ref n,.tup ks=>∃kvs,a[n]?=a7 (.dkt kvs)/\dh 8 (.tup ks)=a9/\kvs.length<sizeLine/\E.nx S (a.set n<|.dkt<|mW kvs (.tup ks) v)
 |_,_=>False
theorem FT(h:(kvs.map (·.1)).Nodup):((mW kvs y v).map (·.1)).Nodup:=by
 unfold mW;split;rw[F9];have:((λx:D×D=>x.1) ∘ λp:D×D=>if p.1=y then(p.1,v)else p)=λx=>x.1:=by funext p;show (if p.1=y then(p.1,v)else p).1=p.1;split<;>rfl
 rw[this];exact h;rename_i q;rw[MI,List.map_singleton,List.nodup_append];refine⟨h,by simp,λa f b d=>?_⟩;rw[G1.mp d];rintro rfl;obtain⟨p,c,e⟩:=A8.mp f;refine q ?_;unfold gK;rw[Rc,List.find?_isSome];exact⟨p,c,by simpa using e⟩
theorem HU(hr:Room k X.A)(ho:DE X o td)(hi:DE X i ty)(hv:DE X value tv)(hs:j9 value (a7<|.Subscript o i pos') pos.line X.env=pure b7):DS X (.Assign [.Subscript o i pos'] value pos) (va td ty tv):=by
 rintro p s σ H E I ⟨S,M,ρ,F,sm,j,q,kk⟩;have un:=hr.un;refine wpAny_Assign_Subscript (z6 (hv p s σ H _ I ⟨S,M,ρ,_,sm,j,q,λv H' z=>z⟩) λr s1 ⟨v,R,U,rv,dv,Z,G,C,g1,r1,q1⟩=>z6 (ho p s1 σ R _ U ⟨S,Z,G,_,C,j.grow g1,q1,λv H' z=>z⟩) λu s2 ⟨vx,T,Y,rx,x,M2,J,D,g,r2,q2⟩=>z6 (hi p s2 σ T _ Y ⟨S,M2,J,_,D,(j.grow g1).grow g,q2,λv H' z=>z⟩) ?_) hs;rintro iv s3 ⟨vy,H3,e,P,y,M3,K,c,g3,O,B⟩;cases x with
 |ref n =>
  cases y with
  |tup V =>
   obtain⟨kvs,L,N,hl,q4⟩:=B;obtain⟨a,rfl,hn⟩:=w5.inv_ref r2;obtain rfl:u=I0 a:=rx;have h:=aO g3.pre hn;obtain⟨xs,l,r,dd,W,_,hx,nd⟩:=ou e c h L;have t:=oR e 8 _ _ _ O P N;obtain⟨b,_,rfl,_⟩:=id t;obtain⟨_,_,rfl,m,rr⟩:=w5.inv_tup O;cases P;have r':=KB r N (.tup m rr) ((r1.grow g).grow g3) rv;have pl:=jZ (kvs:=kvs) (k:=.tup V) (d:=dv);obtain⟨w1,Q⟩:=c.writeT h L l (by have:=pl;lia) W (FT nd) r';refine setE (k:=.tup V) (by show X.A.units+1+8<m9;lia) t dd (Fj e l) (by lia) λh' f w=>?_;have he:∃q,h'.get? a=a7 q:=let ⟨q,_,m,_⟩:=f;⟨q,m⟩
   exact⟨σ,_,pO e (by rw[l];exact NU) w he<|Bx f,kk.nx σ _<|SQ.trans ((g1.trans g).trans g3) ⟨S,_,K,w1,Q,(((j.grow g1).grow g).grow g3).grow Q,q4⟩⟩
  |_=>exact B.elim
 |_=>exact B.elim
def Pb(r:Nat->E9)(e:A2)(t:K2):A2:=λS M Q=>e S M λx a=>match x with
 |.ref n=>(∃kvs,a[n]?=a7 (.dkt kvs))/\t S a λds b=>r n ds b Q
 |_=>False
variable{name:c9}{id:String}{e:i9}{es:List i9}{to:A2}{t:K2}{apos cpos:Pos}
theorem d_mt{r:Nat->E9}(slot:Slot "dict" name id)(y:typeOf (.builtin id)=pure (.type "method_descriptor"))(V:Nd X id (ux X.K r))(W:DE X o to)(U:DA X (e::es) t)(c:o4 o name X.env (eval o X.env)=eval o X.env:=by rfl)(f:((j5 cpos<|j6 (e::es) X.env).all (λx=>!x.1)&&(backToKw cpos<|o5 [] X.env).all (λx=>x.1.isSome) && decide ((e::es).length+([]:List o6).length+(if ([]:List o6).isEmpty then 0 else 1)<30))=a9:=by rfl)(d:(apos.endLine==cpos.line)=a9:=by rfl) (hs:j6 (e::es) X.env=(b7,eval e X.env)::j6 es X.env:=by rfl) (h:(j5 cpos<|j6 es X.env).any (·.1)=b7:=by rfl):DE X (.Call (.Attribute o name apos) (e::es) [] cpos) (Pb r to t):=by
 rintro p s σ H R I ⟨S,M,ρ,Q,sm,J,q,Z⟩;refine wpAny_Call_method_late c f d rfl<|z6 (W p s σ H _ I ⟨S,M,ρ,_,sm,J,q,λv H' z=>z⟩) ?_;rintro u s1 ⟨v,L,B,rv,x,i,m,j,g1,r1,g⟩;cases r1 with
 |@ref n a G =>
  cases rv;obtain⟨⟨kvs,T⟩,g⟩:=(show (∃kvs,i[n]?=a7 (.dkt kvs))/\t S i _ from g)
  obtain⟨xs,hH,r,C,Y,hl,hx,nd⟩:=ou B j G T;refine⟨"dict",id,PySem.F.plainAttrs_dict,slot,y,C.typeIs,λb z=>?_,?_⟩;cases z;obtain⟨ob,_,_,h1,h2,_⟩:=C;exact⟨ob,h1,h2.2.1⟩;have E:=U cpos p s1 σ L _ B ⟨S,i,m,_,j,J.grow g1,g,λvs H' z=>z⟩;rw[hs]at E ⊢;refine RP (by show (b7||(j5 cpos<|j6 es X.env).any (·.1))=b7;rw[h]<;>rfl)<|Calls.evalArgs_plain ?_;refine z6 E ?_;rintro us s2 ⟨vs,N,O,k,ds,P,A,l,D,rr,q2⟩;exact V p s2 σ N (.ref a) vs (.ref a) us R O rfl k ⟨n,a,ds,P,A,Q,rfl,aO D.pre G,l,rr,q2,λv H' w=>Z v H'<|VQ.trans (g1.trans D) w⟩
 |_=>exact g.elim
def lP(n:Nat):E9:=λds M Q=>match ds with
 | [.tup ks,d]=>∃kvs,M[n]?=a7 (.dkt kvs)/\dh 8 (.tup ks)=a9/\Q ((gK kvs<|.tup ks).getD d) M
 |_=>False
theorem Dk(o:Room k X.A):Nd X "dict.get" (ux X.K lP):=by
 rintro e s σ H x xs v us R I E C ⟨n,a,ds,M,ρ,Q,h,j,m,f,q,D⟩;have S:=o.un;unfold lP at q;split at q;rename_i V d;obtain⟨kvs,i,u,q⟩:=q
 first|have z:=Reps.inv_cons f|have z:=ax.inv_cons f
 clear f;obtain⟨_,_,rfl,y,f⟩:=z
 first|have z:=Reps.inv_cons f|have z:=ax.inv_cons f
 clear f;obtain⟨_,_,rfl,B,f⟩:=z;cases f;obtain⟨P,G,rfl,g,l⟩:=ax.two C;subst h;cases E;obtain⟨ys,J,r,c,W,L,N,O⟩:=ou I m j i;have t:=oR I 8 _ _ _ y g u;obtain⟨b,_,rfl,_⟩:=id t;refine call_meetsIn PySem.F.slot_dict_get c.typeIs PySem.F.entry_dict_get (PySem.F.args_dict_get_3 _ _ _) (meetsH_dict_get_default (gO X.prog X.w) a b W G) ⟨by show X.A.units+1+8<m9;lia,.tup V,ys,t,c,?_⟩;rcases AU r (.tup V)with⟨z1,z2⟩|⟨d',p,v',z1,z2,z3,z4⟩
 rw[z2];rw[z1]at q;exact⟨_,H,I.tok _,l,D _ _ ⟨d,M,ρ,m,.refl,B,q⟩⟩;rw[z2];rw[z1]at q;exact⟨_,H,I.tok _,z4,D _ _ ⟨d',M,ρ,m,.refl,z3,q⟩⟩;exact q.elim
end
def dy(h:d9)(d:d7)(es:Array o7)(ep:Nat):Prop:=∃o,h.get? d=a7 o/\o.ExactDict/\o.data=.dict es ep
theorem dy.ty{s:g8}{d:d7}{es:Array o7}{ep:Nat}(x:dy s.heap d es ep):s.TypeIs (.ref d) "dict":=by obtain⟨o,h1,h2,_⟩:=x;exact⟨o,h1,h2.1⟩
theorem dy.lt(x:dy h d es ep):d<h.objs.size:=by obtain⟨o,h1,_⟩:=x;exact C2 h1
theorem dy.to(x:dy h d es ep)(k:∀o,h.get? d=a7 o->h'.get? d=a7 o):dy h' d es ep:=by obtain⟨o,h1,h2⟩:=x;exact⟨o,k o h1,h2⟩
theorem Em{Q:b9->g8->Prop}(h:(d==f6)=b7)(m:dy s.heap d es ep)(b:Q (.ref s.heap.objs.size) { s with heap:=s.heap.push { cls:=.type "dict_keyiterator",data:=.fields #[.ref d,.int 0 0,.int es.size 0,.int ep 0] } }):i7 (j2 prog w) A (l6<|.ref d) Q E s:=by have n:=m.ty;obtain⟨o,h1,h2,a⟩:=m;refine Q8 n F.slot_dict_iter<|J2 F.slot_dict_iter n F.entry_dict_iter ?_<|F.args_dict_iter_1 _;unfold Builtin.«dict.__iter__»;refine t9 ?_;unfold Builtin.Dict.dictSlotNone;refine t9<|RL n<|u9 ?_;refine(show i7 (j2 prog w) _ (Ri d >>= _) _ _ s from ?_);unfold Ri;rw[h];refine t9<|u9<|t9<|Pq h1 a<|t9<|Po h1 a ?_;exact t9<|K5<|u9 ⟨_,rfl,"dict_keyiterator",_,⟨_,E1 _ rfl,rfl⟩,F.slot_dict_keyiterator_next.lookup,by simpa [l7]using b⟩
theorem El(h:s.heap.IsKeyIter it d i es.size ep)(m:dy s.heap d es ep)(hi:i<es.size)(c:∀h',h'.IsKeyIter it d (i+1) es.size ep->NK it s.heap h'->Q (a7 es[i].key) { s with heap:=h' }):i7 (j2 prog w) A (k8<|.ref it) Q E s:=by
 obtain⟨o,B,f,a⟩:=id h;obtain⟨j,D,C,k⟩:=id m;unfold k8;refine t9<|NX<|MY (name:=AA1 "__next__") h.typeIs F.slot_dict_keyiterator_next<|J2 F.slot_dict_keyiterator_next h.typeIs F.entry_dict_keyiterator_next ?_<|F.args_dict_keyiterator_next_1 _;refine t9<|u9<|t9<|t9 ?_
 first|refine t9 (Rt h.typeIs<|u9<|t9<|Nw B a ?_)|refine t9<|Rn h.typeIs<|u9<|t9<|Nw B a ?_
 rw[show QA "dict_keyiterator" = b7 by decide];refine(show i7 (j2 prog w) _ (if (I0 d==K4)=a9 then _ else _) _ _ s from ?_);rw[q9<|by exact K0];refine t9<|u9<|t9<|Pq D k ?_;rw[q9<|by simp];refine t9<|u9<|t9<|Po D k ?_;rw[q9<|by simp];refine u9 ?_;dsimp only;rw[q9 (show ¬((i:Int)<0)from by lia),N1,L1 hi];dsimp only;refine t9 ?_
 first|refine t9 (Rt h.typeIs<|u9 ?_)|refine t9<|Rn h.typeIs<|u9 ?_
 refine t9<|wpAny_isOneOf_keyiter h.typeIs ?_;refine(show i7 (j2 prog w) _ (setField (.ref it) 1 (l7<|(i:Int)+1) >>= _) _ _ s from t9<|Nx B a (by simp) ?_);have b:(s.heap.update it (OR (·.setIfInBounds 1 (l7<|(i:Int)+1)))).IsKeyIter it d (i+1) es.size ep:=by refine⟨_,MX _ B<|RM<|Pv a _,(Obj.cls_mapFields ..).trans f,?_⟩;rw[Pv a];simp[l7]
 refine t9 (K8 (t9 (wpAny_isOneOf_keyiter (s:={ s with heap:=s.heap.update it (OR (·.setIfInBounds 1 (l7<|(i:Int)+1))) }) b.typeIs ?_)));refine(show i7 (j2 prog w) _ (pure es[i].key) _ _ _ from ?_);exact u9<|u9 ⟨_,rfl,u9<|c _ b<|Nb ..⟩
theorem HN(f:A.handled=a8)(h:s.heap.IsKeyIter it d es.size es.size ep)(g:dy s.heap d es ep)(e:∀h',Heap.ExtBut it s.heap h'->Q a8 { s with heap:=h' }):i7 (j2 prog w) A (k8<|.ref it) Q E s:=by
 obtain⟨o,B,i,c⟩:=id h;obtain⟨j,D,C,k⟩:=id g;unfold k8;refine t9<|NX<|MY (name:=AA1 "__next__") h.typeIs F.slot_dict_keyiterator_next<|J2 F.slot_dict_keyiterator_next h.typeIs F.entry_dict_keyiterator_next ?_<|F.args_dict_keyiterator_next_1 _;refine t9<|u9<|t9<|t9 ?_
 first|refine t9 (Rt h.typeIs<|u9<|t9<|Nw B c ?_)|refine t9<|Rn h.typeIs<|u9<|t9<|Nw B c ?_
 rw[show QA "dict_keyiterator" = b7 by decide];refine(show i7 (j2 prog w) _ (if (I0 d==K4)=a9 then _ else _) _ _ s from ?_);rw[q9<|by exact K0];refine t9<|u9<|t9<|Pq D k ?_;rw[q9<|by simp];refine t9<|u9<|t9<|Po D k ?_;rw[q9<|by simp];refine u9 ?_;dsimp only;rw[q9 (show ¬((es.size:Int)<0)from by lia),N1,O3<|z5 es.size];dsimp only;refine t9 ?_
 first|refine t9 (Rt h.typeIs<|u9 ?_)|refine t9<|Rn h.typeIs<|u9 ?_
 refine(show i7 (j2 prog w) _ (setField (.ref it) 0 .none >>= _) _ _ s from t9<|Nx B c (by simp) ?_);refine(show i7 (j2 prog w) _ (newExc (.type "StopIteration") [] >>= _) _ _ _ from t9 ?_);simp only[newExc,newTuple];refine t9 (K5 ?_<|by size_fits);refine t9 (m:=p5 _ _)<|wpAny_of_eq (a:=K4) (by first|rfl|(simp only[p5];rfl)) ?_;refine K5 ?_ (by size_fits);simp only[raiseNew];refine t9<|wpAny_handled ?_;rw[show A.in1.handled=a8 from f];refine t9<|u9<|wpAny_throw ?_;refine t9<|Oz (b:=a9) (T:="StopIteration") ⟨_,E1 _ rfl,rfl⟩ P6 ?_;exact u9<|e _<|((Nb ..).extBut.push _).push _
theorem BA(l:A.handled=a8)(I:d7)(j:d≠I):Walks prog w A I [I,d] [I] es.size (λi v=>∃e,es[i]?=a7 e/\v=e.key) (λi h=>h.IsKeyIter I d i es.size ep/\dy h d es ep) where
 sub:=λb a=>by simp at a;simp[a]
 frame:=λ_ _ _ t k=>⟨t.1.at λo e=>k I (by simp) o e,t.2.to λo e=>k d (by simp) o e⟩
 item:=λi s Q E hi t c=>El t.1 t.2 hi λh' f u=>c _ h' s.toks ⟨es[i],by simp[hi],rfl⟩ ⟨f,t.2.to λo e=>u.extBut d o j e⟩ λb o a e=>u.extBut b o (λh=>a<|by simp[h]) e
 done:=λs Q E t c=>HN l t.1 t.2 λh' g=>c h' s.toks λb o a e=>g b o (λh=>a<|by simp[h]) e
 self:=λ_ _ _ _ t c=>wpAny_pyIter_keyiter t.1 c
theorem HM(lo:(d==f6)=b7):KdlSrc prog w "dict" d d es.size (λi v=>∃e,es[i]?=a7 e/\v=e.key) (λh=>dy h d es ep) where
 type:=λ_ m=>m.ty
 there:=λ_ m=>⟨m.lt,m.lt⟩
 keep:=λ_ _ m k=>m.to λo e=>k d (.inl rfl) o e
 notList:=by decide
 notTuple:=by decide
 hint:=λ_ _ _ _ m q=>kdl_hint_dict m.ty q
 iter:=λ_ _ a m=>⟨_,_,(λ_ _ q=>Em lo m q),BA a _<|D6 m.lt,⟨⟨_,E1 _ rfl,rfl,rfl⟩,m.to λo e=>A9 _ e⟩⟩
theorem Fi(I:u6 X pins σ H s)(b:H a=a7 (.ext<|dX a xs)):∃es,dy s.heap a es xs.length/\es.size=xs.length/\∀(i:Nat) x,xs[i]?=a7 x->∃e,es[i]?=a7 e/\e.key=.ref x.2.1/\e.val=x.2.2:=by
 obtain⟨o,es,h1,h2,h,d⟩:=Fj I b;refine⟨es,⟨o,h1,h2,h⟩,?_,λi x c=>?_⟩;have:=t7 Ob d
 rwa [G3,x6]at this
 refine⟨⟨C8 X.w 8 x.1,.ref x.2.1,x.2.2⟩,?_,rfl,rfl⟩;rw[<-J3,d,G2,c];rfl
theorem xq{K:v9}{ρ:List d7}{H:Hp}{kvs:List (D×D)}{xs:List (D×d7×b9)}(r:Paired (tw K ρ H) kvs xs):Reps K ρ H (kvs.map (·.1)) (xs.map λx=>V.ref x.2.1):=by
 induction r with
 |nil=>exact .nil
 |cons h t i=>exact .cons h.2.2.1 i
theorem qp:∀(xs:List (D×d7×b9)) (vs:List b9),vs.length=xs.length->(∀(j:Nat) (v:b9) x,vs[j]?=a7 v->xs[j]?=a7 x->v=.ref x.2.1)->ax (xs.map λx=>V.ref x.2.1) vs
 | [],[],_,_=>.nil
 | [],_::_,e,_=>by simp at e
 |_::_,[],e,_=>by simp at e
 |x::xs,v::vs,e,h=>.cons (h 0 v x rfl rfl)<|qp xs vs (by simpa using e) λj u y h1 h2=>h (j+1) u y (by simpa using h1)<|by simpa using h2
def im:E9:=λds M Q=>match ds with
 | [.ref n]=>∃kvs,M[n]?=a7 (.dkt kvs)/\SrtOk M (kvs.map (·.1))/\∀ys,ys.Perm (kvs.map (·.1))->yi M ys->Q (.ref M.length) (M++[.lst ys])
 |_=>False
theorem yb{k:Nat}(hr:Room k X.A)(Y:X.calm=a9):iL X (.builtin "sorted") im:=by
 rintro C s σ H vs us R I rv ⟨ds,M,ρ,Q,E,l,q,kk⟩;unfold im at q;split at q;obtain⟨kvs,O,F,q⟩:=q
 first|have f:=Reps.inv_cons l|have f:=ax.inv_cons l
 clear l;obtain⟨_,_,rfl,r1,l⟩:=f;cases l;obtain⟨u,rfl,G⟩:=ax.one rv;obtain⟨a,rfl,e⟩:=w5.inv_ref r1;cases G;obtain⟨xs,y,r,dd,z2,hz,hx,nd⟩:=ou I E e O;obtain⟨es,t,el,J⟩:=Fi I y;obtain⟨m,B,hm⟩:=I.loc;have d:a≠X.env.locals:=ag y I.free;obtain⟨oa,c,_⟩:=id t;have i:∀b o,(b,o)∈[]++(a,oa)::Att.ledger s.heap X.env.locals a↔b≠X.env.locals/\s.heap.get? b=a7 o:=λb o=>by rw[G5,A5,Att.mem_ledger];constructor;rintro(h|⟨h1,_,h3⟩);cases h;exact⟨d,c⟩;exact⟨h1,h3⟩;rintro⟨h1,h2⟩;by_cases z:b=a;subst z;rw[c]at h2;cases h2;exact .inl rfl;exact .inr ⟨h1,z,h2⟩
 have sl:=F.len;rw[x6]at sl;refine kdu_sorted (HM (es:=es) (ep:=xs.length) z2) (I.ok.hd Y) (Att.fr_all B) (Att.news_ledger d c) t (by rw[M8];lia) λD h' tk vs T N lt hl U=>?_;have kp:∀b u,b≠X.env.locals->s.heap.get? b=a7 u->h'.get? b=a7 u:=λb u W e=>(N (b,u)<|C0 _<|(i b u).mpr ⟨W,e⟩).1;have L:D≠X.env.locals:=(N _ C7).2.1;have K:s.heap.get? D=a8:=by
  cases q:s.heap.get? D with
  |none=>rfl
  |some o=>exact r9 (lt (D,o)<|(i D o).mpr ⟨L,q⟩)<|K9 _
 have S:ax (xs.map λx=>V.ref x.2.1) vs:=by refine qp xs vs (by lia) λj v x Z p=>?_;obtain⟨e0,g1,rfl⟩:=U j v Z;obtain⟨e2,w,g3,_⟩:=J j x p;rw[g1]at w;obtain rfl:=F3 w;exact g3
 have P:=xq r;exact tW (n:=0) hr (by show X.A.units+1<=X.A.units+4;lia) I E F.g P S B T.ns kp K L (N _ C7).1 λv H' x=>kk v H'<|x Q q;exact q.elim
theorem xV(a:(d==f6)=b7)(m:dy s.heap d es ep)(b:Q (.ref s.heap.objs.size) { s with heap:=s.heap.push { cls:=.type "dict_values",data:=.fields #[.ref d] } }):i7 (j2 prog w) A (call (.builtin "dict.values") [.ref d]) Q E s:=by refine call_meetsIn PySem.F.slot_dict_values m.ty PySem.F.entry_dict_values (PySem.F.args_dict_values_1 _) (S:=λ_ R s'=>s'=s/\R (.ok<|.ret<|.ref s.heap.objs.size) { s with heap:=s.heap.push { cls:=.type "dict_values",data:=.fields #[.ref d] } }) (.of_wp ?_) ⟨rfl,b⟩;rintro A R s' ⟨rfl,h⟩;refine t9 ?_;unfold Builtin.Dict.noArgs;refine t9<|RL m.ty<|u9 ?_;refine(show i7 (j2 prog w) _ (Ri d >>= _) _ _ s' from ?_);unfold Ri;rw[a];exact t9<|u9<|t9<|K5<|u9 ⟨_,rfl,h⟩
theorem BC(c:s.heap.IsValuesView v d)(m:dy s.heap d es ep)(b:Q (.ref s.heap.objs.size) { s with heap:=s.heap.push { cls:=.type "dict_valueiterator",data:=.fields #[.ref d,.int 0 0,.int es.size 0,.int ep 0] } }):i7 (j2 prog w) A (l6<|.ref v) Q E s:=by obtain⟨g,e,P,f⟩:=id c;obtain⟨o,h1,h2,a⟩:=m;refine Q8 c.typeIs F.slot_dict_values_iter<|J2 F.slot_dict_values_iter c.typeIs F.entry_dict_values_iter ?_<|F.args_dict_values_iter_1 _;unfold Builtin.«dict_values.__iter__»;refine t9<|u9<|t9 ?_;unfold Builtin.Dict_items.dictOf;refine t9<|MN e f (x:=.ref d) rfl<|u9<|t9 ?_;unfold Builtin.Dict_items.newIterator;refine t9<|Pq h1 a<|t9<|Po h1 a ?_;simp only[show QA "dict_valueiterator" = b7 by decide,E3,t5];exact K5<|u9 ⟨_,rfl,"dict_valueiterator",_,⟨_,E1 _ rfl,rfl⟩,F.slot_dict_valueiterator_next.lookup,by simpa [l7]using b⟩
theorem BB(h:s.heap.IsValIter it d i es.size ep)(m:dy s.heap d es ep)(hi:i<es.size)(c:∀h',h'.IsValIter it d (i+1) es.size ep->NK it s.heap h'->Q (a7 es[i].val) { s with heap:=h' }):i7 (j2 prog w) A (k8<|.ref it) Q E s:=by
 obtain⟨o,B,f,a⟩:=id h;obtain⟨j,D,C,k⟩:=id m;unfold k8;refine t9<|NX<|MY (name:=AA1 "__next__") h.typeIs F.slot_dict_valueiterator_next<|J2 F.slot_dict_valueiterator_next h.typeIs F.entry_dict_valueiterator_next ?_<|F.args_dict_valueiterator_next_1 _;refine t9<|u9<|t9<|t9 ?_
 first|refine t9 (Rs h.typeIs<|u9<|t9<|Nw B a ?_)|refine t9<|Rm h.typeIs<|u9<|t9<|Nw B a ?_
 rw[show QA "dict_valueiterator" = b7 by decide];refine(show i7 (j2 prog w) _ (if (I0 d==K4)=a9 then _ else _) _ _ s from ?_);rw[q9<|by exact K0];refine t9<|u9<|t9<|Pq D k ?_;rw[q9<|by simp];refine t9<|u9<|t9<|Po D k ?_;rw[q9<|by simp];refine u9 ?_;dsimp only;rw[q9 (show ¬((i:Int)<0)from by lia),N1,L1 hi];dsimp only;refine t9 ?_
 first|refine t9 (Rs h.typeIs<|u9 ?_)|refine t9<|Rm h.typeIs<|u9 ?_
 refine t9<|RK h.typeIs ?_;refine(show i7 (j2 prog w) _ (setField (.ref it) 1 (l7<|(i:Int)+1) >>= _) _ _ s from t9<|Nx B a (by simp) ?_);have b:(s.heap.update it (OR (·.setIfInBounds 1 (l7<|(i:Int)+1)))).IsValIter it d (i+1) es.size ep:=by refine⟨_,MX _ B<|RM<|Pv a _,(Obj.cls_mapFields ..).trans f,?_⟩;rw[Pv a];simp[l7]
 refine t9 (K8 (t9 (RK (s:={ s with heap:=s.heap.update it (OR (·.setIfInBounds 1 (l7<|(i:Int)+1))) }) b.typeIs (t9 (RK (s:={ s with heap:=s.heap.update it (OR (·.setIfInBounds 1 (l7<|(i:Int)+1))) }) b.typeIs ?_)))));refine(show i7 (j2 prog w) _ (pure es[i].val) _ _ _ from ?_);exact u9<|u9 ⟨_,rfl,u9<|c _ b<|Nb ..⟩
theorem Ek(f:A.handled=a8)(h:s.heap.IsValIter it d es.size es.size ep)(g:dy s.heap d es ep)(e:∀h',Heap.ExtBut it s.heap h'->Q a8 { s with heap:=h' }):i7 (j2 prog w) A (k8<|.ref it) Q E s:=by
 obtain⟨o,B,i,c⟩:=id h;obtain⟨j,D,C,k⟩:=id g;unfold k8;refine t9<|NX<|MY (name:=AA1 "__next__") h.typeIs F.slot_dict_valueiterator_next<|J2 F.slot_dict_valueiterator_next h.typeIs F.entry_dict_valueiterator_next ?_<|F.args_dict_valueiterator_next_1 _;refine t9<|u9<|t9<|t9 ?_
 first|refine t9 (Rs h.typeIs<|u9<|t9<|Nw B c ?_)|refine t9<|Rm h.typeIs<|u9<|t9<|Nw B c ?_
 rw[show QA "dict_valueiterator" = b7 by decide];refine(show i7 (j2 prog w) _ (if (I0 d==K4)=a9 then _ else _) _ _ s from ?_);rw[q9<|by exact K0];refine t9<|u9<|t9<|Pq D k ?_;rw[q9<|by simp];refine t9<|u9<|t9<|Po D k ?_;rw[q9<|by simp];refine u9 ?_;dsimp only;rw[q9 (show ¬((es.size:Int)<0)from by lia),N1,O3<|z5 es.size];dsimp only;refine t9 ?_
 first|refine t9 (Rs h.typeIs<|u9 ?_)|refine t9<|Rm h.typeIs<|u9 ?_
 refine(show i7 (j2 prog w) _ (setField (.ref it) 0 .none >>= _) _ _ s from t9<|Nx B c (by simp) ?_);refine(show i7 (j2 prog w) _ (newExc (.type "StopIteration") [] >>= _) _ _ _ from t9 ?_);simp only[newExc,newTuple];refine t9 (K5 ?_<|by size_fits);refine t9 (m:=p5 _ _)<|wpAny_of_eq (a:=K4) (by first|rfl|(simp only[p5];rfl)) ?_;refine K5 ?_ (by size_fits);simp only[raiseNew];refine t9<|wpAny_handled ?_;rw[show A.in1.handled=a8 from f];refine t9<|u9<|wpAny_throw ?_;refine t9<|Oz (b:=a9) (T:="StopIteration") ⟨_,E1 _ rfl,rfl⟩ P6 ?_;exact u9<|e _<|((Nb ..).extBut.push _).push _
theorem xU(l:A.handled=a8)(I:d7)(j:d≠I):Walks prog w A I [I,d] [I] es.size (λi v=>∃e,es[i]?=a7 e/\v=e.val) (λi h=>h.IsValIter I d i es.size ep/\dy h d es ep) where
 sub:=λb a=>by simp at a;simp[a]
 frame:=λ_ _ _ t k=>⟨t.1.at λo e=>k I (by simp) o e,t.2.to λo e=>k d (by simp) o e⟩
 item:=λi s Q E hi t c=>BB t.1 t.2 hi λh' f u=>c _ h' s.toks ⟨es[i],by simp[hi],rfl⟩ ⟨f,t.2.to λo e=>u.extBut d o j e⟩ λb o a e=>u.extBut b o (λh=>a<|by simp[h]) e
 done:=λs Q E t c=>Ek l t.1 t.2 λh' g=>c h' s.toks λb o a e=>g b o (λh=>a<|by simp[h]) e
 self:=λ_ _ _ _ t c=>wpAny_pyIter_valiter t.1 c
theorem Ej:KdlSrc prog w "dict_values" r d es.size (λi v=>∃e,es[i]?=a7 e/\v=e.val) (λh=>h.IsValuesView r d/\dy h d es ep) where
 type:=λ_ m=>m.1.typeIs
 there:=λ_ m=>⟨let ⟨_,ho,_⟩:=m.1;C2 ho,m.2.lt⟩
 keep:=λ_ _ m k=>⟨let ⟨o,ho,x⟩:=m.1;⟨o,k r (.inl rfl) o ho,x⟩,m.2.to λo e=>k d (.inr rfl) o e⟩
 notList:=by decide
 notTuple:=by decide
 hint:=λ_ _ _ _ m q=>kdl_hint_values m.1.typeIs q
 iter:=λ_ _ a m=>⟨_,_,(λ_ _ q=>BC m.1 m.2 q),xU a _<|D6 m.2.lt,⟨⟨_,E1 _ rfl,rfl,rfl⟩,m.2.to λo e=>A9 _ e⟩⟩
theorem yx{K:v9}{ρ:List d7}{H:Hp}{kvs:List (D×D)}{xs:List (D×d7×b9)}(r:Paired (tw K ρ H) kvs xs):∃ws,Reps K ρ H (kvs.map (·.2)) ws/\ax ws (xs.map λx=>x.2.2):=by
 induction r with
 |nil=>exact⟨[],.nil,.nil⟩
 |cons h t i=>obtain⟨_,_,_,v,c,j⟩:=h;obtain⟨ws,h1,h2⟩:=i;exact⟨v::ws,.cons c h1,.cons j h2⟩
def iF(e:A2):A2:=λS M Q=>e S M λd a=>match d with
 |.ref n=>∃kvs,a[n]?=a7 (.dkt kvs)/\Q (.ref a.length) (a++[.lst (kvs.map (·.2))])
 |_=>False
theorem xY(hc:X.calm=a9)(ho:DE X o to)(hm:X.mg "list" = a8)(hg:X.env.kindOf "list" = a7 .globalImplicit)(hs:j6 [NS (.Attribute o "values" apos) [] [] cpos] X.env=[(b7,eval (NS (.Attribute o "values" apos) [] [] cpos) X.env)])(i:o4 o "values" X.env (eval o X.env)=eval o X.env) (k:(apos.endLine==cpos.line)=a9):DE X (.Call (.Name "list" p) [.Call (.Attribute o "values" apos) [] [] cpos] [] pos) (iF to):=by
 rintro g s σ H R I ⟨S,M,ρ,Q,sm,sr,q,kk⟩;refine OD<|fv I hg hm (by rfl) ?_;refine callWith_type1 ?_ (by rw[hs];rfl) rfl;rw[hs];refine Qn<|wpAny_Call_method0_late i k<|z6 (ho g s σ H _ I ⟨S,M,ρ,_,sm,sr,q,λv H' w=>w⟩) ?_;rintro u f ⟨v,C,y,rv,x,A,ai,m,g1,r1,G⟩;cases r1 with
 |@ref n a hn =>
  cases rv;obtain⟨kvs,Z,q2⟩:=(show ∃kvs,A[n]?=a7 (.dkt kvs)/\Q (.ref A.length) (A++[.lst (kvs.map (·.2))])from G)
  obtain⟨xs,Y,r,D,W,hz,hx,nd⟩:=ou y m hn Z;obtain⟨es,E,el,P⟩:=Fi y Y;refine⟨"dict","dict.values",PySem.F.plainAttrs_dict,PySem.F.slot_dict_values,PySem.F.type_dict_values,D.typeIs,λb z=>?_,RP rfl<|PySem.evalArgs_none<|xV W E ?_⟩;cases z;obtain⟨ob,_,_,h1,h2,_⟩:=D;exact⟨ob,h1,h2.2.1⟩;refine Qj ?_;have t:u6 X g σ C { f with heap:=f.heap.push { cls:=.type "dict_values",data:=.fields #[.ref a] } }:=y.kept (t':=f.toks) λb o e=>A9 _ e;have l:dy ({ f with heap:=f.heap.push { cls:=.type "dict_values",data:=.fields #[.ref a] } }:g8).heap a es xs.length:=E.to λo e=>A9 _ e;have J:({ f with heap:=f.heap.push { cls:=.type "dict_values",data:=.fields #[.ref a] } }:g8).heap.IsValuesView f.heap.objs.size a:=⟨_,E1 _ rfl,rfl,rfl⟩
  generalize ({ f with heap:=f.heap.push { cls:=.type "dict_values",data:=.fields #[.ref a] } }:g8)=B at t l J ⊢;refine kdl_call (Ej (es:=es) (ep:=xs.length)) (t.ok.hd hc) ⟨J,l⟩ (by lia) λh' tk c U hk V h=>?_;obtain⟨ws,K,w2⟩:=yx r;have O:c.toList=xs.map λx=>x.2.2:=by
   refine Ra λj=>?_;rw[J3,G2];cases L:xs[j]? with
   |none =>
    have:xs.length<=j:=by rw[List.getElem?_eq_none_iff]at L;exact L
    rw[O3 (by have:=h.1;lia)];rfl
   |some x =>
    have ab:=(A3.mp L).1;have d:j<c.size:=by have:=h.1;lia
    obtain⟨e,g1,T⟩:=h.2 j c[j]<|L1 d;obtain⟨e',N,_,z2⟩:=P j x L;rw[g1]at N;obtain rfl:=F3 N;rw[L1 d,T,z2];rfl
  have hf:C B.heap.objs.size=a8:=t.hok.fresh<|z5 _;refine⟨.ref B.heap.objs.size,_,t.laid (a:=B.heap.objs.size) (o:=.lst ws) (t':=tk) hk (z5 _) ⟨by rw[<-K.length,x6];exact hz,c.toList,U,by rw[O];exact w2,by simpa using V⟩,rfl,kk _ _<|VQ.laidL m g1 K hf q2⟩
 |_=>exact G.elim
theorem KY:HE X (.Dict [] [] pos) vb:=⟨Md⟩
theorem KZ(r:Room k X.A)(B:HE X o to)(hi:HE X i ti)(hs:NoSl i:=by intro _ _;kernel_rfl):HE X (.Subscript o i pos) (Eu to ti):=⟨Me r B.ok hi.ok hs⟩
theorem AV(r:Room k X.A)(B:HE X o to)(hi:HE X i ti)(c:HE X e te)(hs:j9 e (a7<|.Subscript o i pos') pos.line X.env=pure b7:=by kernel_rfl):HS X (.Assign [.Subscript o i pos'] e pos) (va to ti te):=⟨HU r B.ok hi.ok c.ok hs⟩
theorem Hb(i:Room k X.A)(B:HE X o to)(f:HA X (e::es) t)(b:o4 o "get" X.env (eval o X.env)=eval o X.env:=by kernel_rfl)(w:((j5 cpos<|j6 (e::es) X.env).all (λx=>!x.1)&&(backToKw cpos<|o5 [] X.env).all (λx=>x.1.isSome) && decide ((e::es).length+([]:List o6).length+(if ([]:List o6).isEmpty then 0 else 1)<30))=a9:=by kernel_rfl)(c:(apos.endLine==cpos.line)=a9:=by kernel_rfl) (hs:j6 (e::es) X.env=(b7,eval e X.env)::j6 es X.env:=by kernel_rfl) (n:(j5 cpos<|j6 es X.env).any (·.1)=b7:=by kernel_rfl):HE X (.Call (.Attribute o "get" apos) (e::es) [] cpos) (Pb lP to t):=⟨d_mt PySem.F.slot_dict_get PySem.F.type_dict_get (Dk i) B.ok f.ok b w c hs n⟩
theorem xQ(B:HE X o to)(d:X.mg "list" = a8)(f:X.calm=a9:=by kernel_rfl)(S:X.env.kindOf "list" = a7 .globalImplicit:=by kernel_rfl)(hs:j6 [NS (.Attribute o "values" apos) [] [] cpos] X.env=[(b7,eval (NS (.Attribute o "values" apos) [] [] cpos) X.env)]:=by kernel_rfl)(b:o4 o "values" X.env (eval o X.env)=eval o X.env:=by kernel_rfl) (c:(apos.endLine==cpos.line)=a9:=by kernel_rfl):HE X (.Call (.Name "list" p) [.Call (.Attribute o "values" apos) [] [] cpos] [] pos) (iF to):=⟨xY f B.ok d S hs b c⟩
theorem xR(i:Room k X.A)(f:X.calm=a9:=by kernel_rfl):HC X (.builtin "sorted") im:=⟨yb i f⟩
theorem pH{K:v9}{ρ:List d7}{H:Hp}:∀{ns:List Int}{ws:List V}{its:List b9},Reps K ρ H (ns.map D.int) ws->ax ws its->IntsAre its ns
 | [],_,_,r,v=>by cases r;cases v;exact .nil
 |n::ns,_,_,r,v=>by
  rw[B9]at r
  first|have hzz:=Reps.inv_cons r|have hzz:=ax.inv_cons r
  clear r;obtain⟨_,_,rfl,h,t⟩:=hzz;cases h;cases v with
  |cons q q'=>obtain⟨tk,rfl⟩:=q;exact .cons _ _<|pH t q'
theorem Hn(h:IntsAre vs ns):∀(m:Nat) (v:b9),vs[m]?=a7 v->∃i t,v=.int i t/\ns[m]?=a7 i:=by
 induction h with
 |nil=>intro m v e;simp at e
 |cons n t _ a =>
  intro m v e;cases m with
  |zero=>simp at e;subst e;exact⟨n,t,rfl,rfl⟩
  |succ m=>exact a m v<|by simpa using e
theorem DQ(h:IntsAre vs ns):vs.length=ns.length:=by
 induction h with
 |nil=>rfl
 |cons n t _ i=>rw[C5,C5,i]
def zL:E9:=λds M Q=>match ds with
 | [.ref n]=>∃ns:List Int,ao M n (ns.map D.int)/\ns≠[]/\∀m,m∈ns->(∀a∈ns,a<=m)->Q (.int m) M
 |_=>False
theorem Ip(B:X.calm=a9):iL X (.builtin "max") zL:=by
 rintro v s σ H vs us R I P ⟨ds,M,ρ,Q,x,g,q,F⟩;unfold zL at q;split at q;obtain⟨ns,L,d,q⟩:=q
 first|have f:=Reps.inv_cons g|have f:=ax.inv_cons g
 clear g;obtain⟨_,_,rfl,K,g⟩:=f;cases g;obtain⟨u,rfl,y⟩:=ax.one P;obtain⟨a,rfl,e⟩:=w5.inv_ref K;cases y;obtain⟨ws,E,r⟩:=ao.seq x L e;obtain⟨its,O,w,W⟩:=I.list E;obtain⟨m,n,V⟩:=I.loc;obtain⟨J,Z,c,C,j,h⟩:=id w;have k:a≠X.env.locals:=λz=>by subst z;obtain⟨o,es,U,e,D,_⟩:=n;rw[c]at e;cases e;rw[D]at h;cases h
 have p:∀b o,b≠X.env.locals->s.heap.get? b=a7 o->(b,o)∈[]++(a,J)::Att.ledger s.heap X.env.locals a:=λb o h1 h2=>by rw[G5,A5,Att.mem_ledger];by_cases l:b=a;subst l;rw[c]at h2;cases h2;exact .inl rfl;exact .inr ⟨h1,l,h2⟩
 refine max_list_N (I.ok.hd B) (Att.fr_all n) (Att.news_ledger k c) w.isList (pH r O) (List.length_pos_iff.mpr d) λh' i t S T N h1 h2=>?_;have G:∀b u,b≠X.env.locals->s.heap.get? b=a7 u->h'.get? b=a7 u:=λb u A e=>(N (b,u)<|p b u A e).1;exact⟨.int i,H,I.keptF (t':=S) G n T.ns,⟨t,rfl⟩,F _ _ ⟨.int i,M,ρ,x,.refl,.int i,q i h1 h2⟩⟩;exact q.elim
def lR(n:Nat):E9:=λds M Q=>match ds with
 | [.int v]=>∃(ns:List Int) (j:Nat),ao M n (ns.map D.int)/\ns.length<=1000/\ns[j]?=a7 v/\(∀m,m<j->ns[m]?≠a7 v)/\Q (.int j) M
 |_=>False
noncomputable def isNum(v:Int):b9->Bool
 |.int i _=>i==v
 |_=>b7
theorem Aw:Nd X "list.index" (ux X.K lR):=by
 rintro D s σ H x xs v us R I rx rs ⟨n,a,ds,M,ρ,Q,N,P,G,g,q,U⟩;unfold lR at q;split at q;rename_i b;obtain⟨ns,j,O,hl,L,p,q⟩:=q
 first|have f:=Reps.inv_cons g|have f:=ax.inv_cons g
 clear g;obtain⟨_,_,rfl,r1,g⟩:=f;cases g;obtain⟨u,rfl,e⟩:=ax.one rs;cases r1;obtain⟨tk,rfl⟩:=e;subst N;cases rx;obtain⟨ws,S,r⟩:=ao.seq G O P;obtain⟨its,rv,E,hz⟩:=I.list S;have J:=pH r rv;have V:=DQ J;have at_:∀(m:Nat) (d:m<its.toArray.size),∃i t,its.toArray[m]=.int i t/\ns[m]?=a7 i:=λm d =>
  Hn J m _ (by rw[C9]at d;rw[C4 d];rfl)
 obtain⟨⟨W,Y,B,os⟩,Z,A,C,k,h⟩:=id E;obtain rfl:W=.type "list":=C;obtain rfl:B=.seq its.toArray Z:=h;have l:j<its.toArray.size:=by have:=(A3.mp L).1;rw[C9];lia
 refine call_meetsIn PySem.F.slot_list_index E.isList.typeIs PySem.F.entry_list_index (PySem.F.args_list_index_2 _ _) ((SeqAt.list_indexAt a its.toArray Z Y os (.int b tk) (isNum b) j l (by rw[C9]at l;lia) ?_ λm d o=>?_).inModel X.prog X.w) ⟨A,λy T=>?_,?_⟩;obtain⟨i,t,e,c⟩:=at_ j l;rw[L]at c;obtain rfl:=F3 c;rw[e];exact t8 _;obtain⟨i,t,e,c⟩:=at_ m d;rw[e];refine OC.mpr λz=>p m o ?_;rw[c,eq_of_beq<|show (i==b)=a9 from z];obtain⟨m,d,rfl⟩:=Array.getElem_of_mem T;obtain⟨i,t,e,c⟩:=at_ m d;rw[e];exact Qm _ _ _ _;exact⟨.int j,H,I.tok _,⟨_,rfl⟩,U _ _ ⟨.int j,M,ρ,G,.refl,.int _,q⟩⟩;exact q.elim
theorem Bm:QQ X "index" lR:=⟨_,PySem.F.slot_list_index,PySem.F.type_list_index,Aw⟩
theorem Mr:f8 "max" = a7 (.builtin "max"):=by decide +kernel
theorem Hw(f:X.calm=a9:=by kernel_rfl):HC X (.builtin "max") zL:=⟨Ip f⟩
end L2
namespace L2
open PySem PySem.Spec PyProof.Rows DL PySem.W PySem.Calls PyProof.V
structure PairsAt(es:Array o7)(lo:d7)(h:d9)(as:List d7):Prop where
 nd:as.Nodup
 above:∀a∈as,lo<a
 tup:∀(j:Nat) (a:d7),as[j]?=a7 a->∃e,es[j]?=a7 e/\h.get? a=a7 { cls:=.type "tuple",data:=.seq #[e.key,e.val] }
end L2
namespace L2
open PySem PySem.Spec PyProof.Rows DL PySem.W
def xt:E9:=λds M Q=>match ds with
 | [.int i,.int j]=>Q (.int<|if j > i then j else i) M
 |_=>False
theorem Iq(f:X.calm=a9):iL X (.builtin "max") xt:=by
 refine df.imp (BP f) ?_;rintro vs H R ⟨ds,M,ρ,Q,s,a,q,k⟩;unfold xt at q;split at q
 first|have z:=Reps.inv_cons a|have z:=ax.inv_cons a
 clear a;obtain⟨_,_,rfl,r,a⟩:=z
 first|have z:=Reps.inv_cons a|have z:=ax.inv_cons a
 clear a;obtain⟨_,_,rfl,m,a⟩:=z;cases a;cases r;cases m;exact⟨_,_,rfl,k _ H<|VQ.now s (.int _) q⟩;exact q.elim
theorem Hy(f:X.calm=a9:=by kernel_rfl):HC X (.builtin "max") xt:=⟨Iq f⟩
structure DD(X:Cx)(ρ:List d7)(H:Hp)(h:d9)(a:d7)(kvs:List (D×D))(xs:List (D×d7×b9)):Prop where
 dx:dX a xs X.prog X.w h
 kv:Paired (tw X.K ρ H) kvs xs
 nd:(kvs.map (·.1)).Nodup
def pY(P:Params)(K:v9):List o7->List (c9×List c9)->Prop
 | [],[]=>True
 |e::r,p::kr=>(∃(t:Tok) (b:d7) (o:d8) (its:Array b9) (m:Nat),e=⟨PyData.keyHash P p.1,.str p.1 t,.ref b⟩/\K.lookup b=a7 o/\o.cls=.type "tuple"/\o.dict=a8/\o.data=.seq its m/\its.size<=sizeLine/\ax (p.2.map V.str) its.toList)/\pY P K r kr
 |_,_=>False
def EG(w:d5)(K:v9)(mg:c9->Option b9)(x:c9)(kvs:List (c9×List c9)):Prop:=∃(a:d7) (es:Array o7) (n:Nat),mg x=a7 (.ref a)/\(a==f6)=b7/\K.lookup a=a7 ⟨.type "dict",a8,.dict es n,#[]⟩/\pY w.params K es.toList kvs
theorem gdict_mk{w:d5}{K:v9}{h:d9}{mg:c9->Option b9}{x:c9}{a:d7}{es:Array o7}{n:Nat}{kvs:List (c9×List c9)}(X:K.In h)(G:h.Ns f7 mg)(f:Nv K f7 x=a7 (a7<|.ref a))(hs:(a==f6)=b7) (g:K.lookup a=a7 ⟨.type "dict",a8,.dict es n,#[]⟩) (i:pY w.params K es.toList kvs):EG w K mg x kvs:=⟨a,es,n,PySem.W.mg_of X G f,hs,g,i⟩
theorem ents_cons{P:Params}{K:v9}{r:List o7}{k:c9}{ks:List c9}{a:List (c9×List c9)}{t:Tok}{b:d7}{its:Array b9}{m:Nat}{c:Array (Option b9)}(l:K.lookup b=a7 ⟨.type "tuple",a8,.seq its m,c⟩)(s:its.size<=sizeLine)(v:ax (ks.map V.str) its.toList)(h:pY P K r a):pY P K (⟨PyData.keyHash P k,.str k t,.ref b⟩::r) ((k,ks)::a):=⟨⟨t,b,_,its,m,rfl,l,rfl,rfl,rfl,s,v⟩,h⟩
section
variable{P:Params}{K:v9}{z:c9}
theorem pY.lit:∀{l:List o7}{kvs:List (c9×List c9)},pY P K l kvs->KeysLit P l
 | [],[],_=>trivial
 |_::_,p::_,⟨⟨t,_,_,_,_,he,_⟩,h⟩=>⟨⟨p.1,t,by rw[he],by rw[he]⟩,pY.lit h⟩
 | [],_::_,h=>h.elim
 |_::_,[],h=>h.elim
theorem pY.miss:∀{l:List o7}{kvs:List (c9×List c9)},pY P K l kvs->kvs.find? (λp=>p.1==z)=a8->l.find? (λe=>e.key.isStr z)=a8/\l.any (λe=>e.refKey)=b7
 | [],[],_,_=>⟨rfl,rfl⟩
 |_::_,p::_,⟨⟨t,b,o,its,m,he,_⟩,h⟩,hz=>by
  subst he;rw[MQ]at hz;cases hp:(p.1==z) with
  |true=>rw[hp]at hz;cases hz
  |false=>rw[hp]at hz;obtain⟨h1,h2⟩:=pY.miss h hz;refine⟨?_,?_⟩;simp only[MQ,Value.isStr,hp];exact h1;rw[Nh,h2];rfl
 | [],_::_,h,_=>h.elim
 |_::_,[],h,_=>h.elim
theorem pY.hit:∀{l:List o7}{kvs:List (c9×List c9)},pY P K l kvs->kvs.find? (λp=>p.1==z)=a7 p ->∃(en:o7) (b:d7) (o:d8) (its:Array b9) (m:Nat),l.find? (λe=>e.key.isStr z)=a7 en/\en.val=.ref b/\K.lookup b=a7 o/\o.cls=.type "tuple"/\o.dict=a8/\o.data=.seq its m/\its.size<=sizeLine/\ax (p.2.map V.str) its.toList
 | [],[],_,hz=>nomatch hz
 |_::_,q::_,⟨⟨t,b,o,its,m,he,hx⟩,h⟩,hz=>by
  subst he;rw[MQ]at hz;cases hp:(q.1==z) with
  |true=>rw[hp]at hz;obtain rfl:=F3 hz;exact⟨⟨PyData.keyHash P q.1,.str q.1 t,.ref b⟩,b,o,its,m,by simp only[MQ,Value.isStr,hp],rfl,hx⟩
  |false=>rw[hp]at hz;obtain⟨en,b',o',its',m',e,r⟩:=pY.hit h hz;exact⟨en,b',o',its',m',by simp only[MQ,Value.isStr,hp];exact e,r⟩
 | [],_::_,h,_=>h.elim
 |_::_,[],h,_=>h.elim
theorem pS{α:Type}(p:α->Bool):∀l:List α,l.any p=(l.find? p).isSome
 | []=>rfl
 |a::l=>by
  rw[Nh,MQ];cases p a with
  |true=>rfl
  |false=>exact(Bool.false_or _).trans<|pS p l
variable{a:d7}{es:Array o7}{n:Nat}{kvs:List (c9×List c9)}
theorem ns_in(g:K.lookup a=a7 ⟨.type "dict",a8,.dict es n,#[]⟩)(i:pY P K es.toList kvs):∃r,Nv K a z=a7 r/\r.isSome=kvs.any λp=>p.1==z:=by
 rw[pS];cases h:kvs.find? (λp=>p.1==z) with
 |none=>obtain⟨h1,h2⟩:=i.miss h;refine⟨a8,?_,rfl⟩;simp only[Nv,g,h1,h2,E3,↓reduceIte]
 |some p=>obtain⟨d,b,o,its,m,h1,h2,_⟩:=i.hit h;refine⟨a7 d.val,?_,rfl⟩;simp only[Nv,g,h1]
theorem ns_at(g:K.lookup a=a7 ⟨.type "dict",a8,.dict es n,#[]⟩)(i:pY P K es.toList kvs)(hz:kvs.find? (λp=>p.1==z)=a7 p):∃b,Nv K a z=a7 (a7<|.ref b)/\∀H,E2 K H b (p.2.map V.str):=by obtain⟨j,b,o,its,m,h1,h2,h,d,k,c,e,f⟩:=i.hit hz;refine⟨b,?_,λH=>.inr ⟨o,its,m,h,d,k,c,e,f⟩⟩;simp only[Nv,g,h1,h2]
end
theorem zF{K:v9}{ρ:List d7}{H:Hp}:∀xs:List c9,Reps K ρ H (xs.map D.str) (xs.map V.str)
 | []=>.nil
 |x::xs=>.cons (.str x)<|zF xs
def dGIn(g:Bool)(kvs:List (c9×List c9))(te:A2):A2:=λS M Q=>te S M λd a=>match d with
 |.str z=>Q (.bl<|(kvs.any λp=>p.1==z) != g) a
 |_=>False
def Ev(kvs:List (c9×List c9))(te:A2):A2:=λS M Q=>te S M λd a=>match d with
 |.str z=>∃p,kvs.find? (λp=>p.1==z)=a7 p/\Q (.tup<|p.2.map .str) a
 |_=>False
def rGIn(g:Bool)(a:d7)(kvs:List (c9×List c9)):R2:=λx y H R=>∃z,x=.str z/\y=.ref a/\R (.bl<|(kvs.any λp=>p.1==z) != g) H
def Jy(K:v9)(a:d7)(kvs:List (c9×List c9)):R2:=λx y H R=>∃z p,x=.ref a/\y=.str z/\kvs.find? (λp=>p.1==z)=a7 p/\∀b,E2 K H b (p.2.map V.str)->R (.ref b) H
theorem Dr{K:v9}{g:Bool}(σ:St)(H:Hp)(R:VK)(h:lowE K (dGIn g kvs te) σ H R):OI (rGIn g a kvs) (lowE K te) (tC<|.ref a) σ H R:=by
 obtain⟨S,M,ρ,Q,s,i,q,k⟩:=h;refine⟨S,M,ρ,_,s,i,q,?_⟩;rintro v H' ⟨d,e,c,f,g1,r,b⟩;cases d with
 |str z=>obtain rfl:=w5.inv_str r;exact⟨z,rfl,rfl,k _ _ ⟨.bl _,e,c,f,g1,.bl _,b⟩⟩
 |_=>exact b.elim
theorem AB{K:v9}(σ:St)(H:Hp)(R:VK)(h:lowE K (Ev kvs te) σ H R):OI (Jy K a kvs) (tC<|.ref a) (lowE K te) σ H R:=by
 obtain⟨S,M,ρ,Q,s,m,q,k⟩:=h;refine⟨S,M,ρ,_,s,m,q,?_⟩;rintro v H' ⟨d,f,c,l,g1,r,e⟩;cases d with
 |str z=>obtain⟨p,i,j⟩:=e;obtain rfl:=w5.inv_str r;exact⟨z,p,rfl,rfl,i,λb g=>k _ _ ⟨.tup<|p.2.map .str,f,c,l,g1,.tup g<|zF p.2,j⟩⟩
 |_=>exact e.elim
theorem Aj{X:Cx}{a:d7}{es:Array o7}{n:Nat}{kvs:List (c9×List c9)}(lo:(a==f6)=b7)(g:X.K.lookup a=a7 ⟨.type "dict",a8,.dict es n,#[]⟩)(i:pY X.w.params X.K es.toList kvs):E4 X (m5 .NotIn) (rGIn a9 a kvs):=by rintro p s σ H x y v u R I d m ⟨z,c,l,q⟩;subst c;subst l;obtain⟨t,rfl⟩:=d;obtain rfl:u=I0 a:=m;obtain⟨r,h,e⟩:=ns_in (z:=z) g i;refine wpAny_notIn_of (strKind_is X.prog X.w z t) lo (mapOf_K (prog:=X.prog) (w:=X.w) I.kIn g i.lit) ?_;show EP X p σ R (.bool<|!(findBy Value.isStrOf es z).isSome) _;rw[find_K g h,e];rw[show ∀b:Bool,(b != a9) = !b from λb=>by cases b<;>rfl]at q;exact⟨.bl _,H,I.tok _,rfl,q⟩
theorem Hm{X:Cx}{a:d7}{es:Array o7}{n:Nat}{kvs:List (c9×List c9)}(g:X.K.lookup a=a7 ⟨.type "dict",a8,.dict es n,#[]⟩)(i:pY X.w.params X.K es.toList kvs):MS X (Jy X.K a kvs):=by rintro c e f s σ H x y v u R I r o ⟨z,p,h,l,k,q⟩ hs;subst h;subst l;obtain⟨t,rfl⟩:=o;obtain rfl:v=I0 a:=r;obtain⟨b,j,m⟩:=ns_at g i k;have d:=mapOf_K (prog:=X.prog) (w:=X.w) I.kIn g i.lit;exact tail_any d.typeIs slot_dict_getitem.lookup (wpAny_getItem_of (strKind_is X.prog X.w z t) d (find_K g j) ⟨.ref b,H,I.tok _,rfl,q b<|m H⟩) hs
theorem KF(G:EG X.w X.K X.mg x kvs)(h:HE X e te)(g:X.env.kindOf x=a7 .globalImplicit:=by kernel_rfl)(d:(x==("__debug__":c9))=b7:=by kernel_rfl)(m:m8 .NotIn (.Name x p)=b7:=by kernel_rfl):HT X (.Compare e [.NotIn] [.Name x p] pos) (al<|dGIn a9 kvs te):=by obtain⟨a,es,n,h1,o,l,i⟩:=G;exact⟨PT.imp (zQ (Aj o l i) h.ok (ua (v:=.ref a) g h1 rfl d) m) λσ H R h=>by obtain⟨S,M,ρ,Q,s,r,q,k⟩:=iw σ H R h;exact Dr σ H _ ⟨S,M,ρ,Q,s,r,q,k⟩⟩
theorem La(G:EG X.w X.K X.mg x kvs)(h:HE X e te)(S:X.env.kindOf x=a7 .globalImplicit:=by kernel_rfl)(d:(x==("__debug__":c9))=b7:=by kernel_rfl)(hs:pV e:=by intro _ _;kernel_rfl):HE X (.Subscript (.Name x p) e pos) (Ev kvs te):=by obtain⟨a,es,n,h1,l,g,i⟩:=G;exact⟨PE.imp (JU (Hm g i) (ua (v:=.ref a) S h1 rfl d) h.ok hs) AB⟩
noncomputable abbrev EE(M:u8)(R:DK):DEnds:=⟨λ_ M'=>ar M R .non M',ar M R,λ_ _=>False,λ_ _=>False⟩
noncomputable def Rx(n:Nat)(ds:List D):SD:=ds.map a7++P7 (n-ds.length) a8
abbrev C6(Pr:A4)(n:Nat)(t:u7):Prop:=∀ds M R,Pr ds M R->t (EE M R) (Rx n ds) M
abbrev bZ(Pr:A4)(p:List c9):Prop:=∀ds M R,Pr ds M R->ds.length=p.length
abbrev DerT(P:d6)(w:d5)(K:v9)(mg:c9->Option b9)(base:d9)(k:Nat)(x:c9)(N:List c9)(st:j7)(t:u7):Prop:=∀(f:d7) (cdv:b9) (A:f9) (outer:List Env) (s:g8) (H:Hp) (E:XK),Room k (A.deeper<|PyProof.Rows.envOfC x (aC st) s.heap.objs.size f cdv)->HB (yp L5 P w K mg base N x (aC st) f cdv A outer s H E).nox (bU st) t
inductive TopB(mg:c9->Option b9):List c9->List (c9×Int)->Prop
 |nil:TopB mg [] []
 |b {x:c9}{B:List c9}{C:List (c9×Int)} (h:mg x=a8) (t:TopB mg B C):TopB mg (x::B) C
 |c {x:c9}{i:Int}{C:List (c9×Int)} (h:∃t,mg x=a7 (.int i t)) (t:TopB mg [] C):TopB mg [] ((x,i)::C)
theorem TopB.no(h:TopB mg B C)(c:B.contains x=a9):mg x=a8:=by
 induction h with
 |nil=>simp at c
 |b h _ i=>simp only[List.contains_cons,Qc,t4]at c;rcases c with rfl|c;exact h;exact i c
 |c _ _ _=>simp at c
theorem TopB.gi(h:TopB mg B C)(c:C.lookup x=a7 i):∃t,mg x=a7 (.int i t):=by
 induction h with
 |nil=>simp at c
 |b _ _ a=>exact a c
 |@c y _ _ h _ a=>rw[Oi]at c;split at c;rename_i e;cases c;rw[beq_iff_eq.mp e];exact h;exact a c
noncomputable def nodB:List c9->Bool
 | []=>a9
 |x::xs=>!xs.contains x&&nodB xs
theorem Kr:∀{l:List c9},nodB l=a9->l.Nodup
 | [],_=>List.nodup_nil
 |x::xs,h=>by simp only[nodB,B8,Bool.not_eq_true',List.contains_eq_mem,decide_eq_false_iff_not]at h;exact MR.mpr ⟨h.1,Kr h.2⟩
noncomputable def tgN:i9->List c9
 |.Name x _=>[x]
 |.Tuple es _ _=>es.filterMap fun|.Name x _=>a7 x|_=>a8
 |_=>[]
noncomputable abbrev Oq(N:List c9)(js:List Nat)(tg:i9):List c9:=tgN tg++js.map λj=>N.getD j ""
theorem k_lcN(hi:HI X tg iter di)(S:∀cl s0 H0 ex,HG (D0 X (Oq X.N js tg) scope cl s0 H0 ex) tg g)(D:∀cl s0 H0 ex,Pd (D0 X (Oq X.N js tg) scope cl s0 H0 ex) ifs tt)(i:∀cl s0 H0 ex,HE (D0 X (Oq X.N js tg) scope cl s0 H0 ex) elt te)(B:oz X.env.scope.names X.N (Oq X.N js tg) nt js scope=a9:=by kernel_rfl) (f:X.calm=a9:=by kernel_rfl) (hs:∀x,l9 iter X.env x=pure x:=by intro _;kernel_rfl):HE X (.ListComp elt [⟨tg,iter,ifs,0⟩] scope pos) (F7 nt js di g tt te):=k_lc hi S D i B f hs
theorem sC(a:X.N.Nodup)(hi:HI X tg iter di)(S:∀cl s0 H0 ex,HG (D0 X (Oq X.N js tg) scope cl s0 H0 ex) tg g)(D:∀cl s0 H0 ex,Pd (D0 X (Oq X.N js tg) scope cl s0 H0 ex) ifs tt)(e:∀cl s0 H0 ex,HE (D0 X (Oq X.N js tg) scope cl s0 H0 ex) elt te)(B:oz X.env.scope.names X.N (Oq X.N js tg) nt js scope=a9:=by kernel_rfl) (f:X.calm=a9:=by kernel_rfl) (hs:∀x,l9 iter X.env x=pure x:=by intro _;kernel_rfl) (w:j9 (.ListComp elt [⟨tg,iter,ifs,0⟩] scope pos) (a7<|.Name x pos') pos2.line X.env=pure a9:=by kernel_rfl)(h:X.N[i]?=a7 x:=by kernel_rfl) (c:IJ X.env.scope x=a9:=by kernel_rfl) (b:X.fn x=a9:=by kernel_rfl):HS X (.Assign [.Name x pos'] (.ListComp elt [⟨tg,iter,ifs,0⟩] scope pos) pos2) (iG nt js di g tt te i):=DC a hi S D e B f hs w h c b
theorem gA(h:HA X es t):HA X es t:=h
theorem gE(h:HE X e te):HE X e te:=h
theorem gCall(h:HE X (.Call a b c pos) te):HE X (.Call a b c pos) te:=h
theorem gIx(h:HE X (.Subscript a b pos) te):HE X (.Subscript a b pos) te:=h
theorem LC(h:HE X (.Constant a b pos) te):HE X (.Constant a b pos) te:=h
theorem gT(h:HT X e tt):HT X e tt:=h
theorem gS{st:j7}{t:u7}(h:HS X st t):HS X st t:=h
theorem gOp(h:G9 X f r):G9 X f r:=h
theorem gC(h:HC X f r):HC X f r:=h
theorem HD{b:List j7}{st:j7}{s:List j7}{t:u7}(h:b=st::s)(q:HB X (st::s) t):HB X b t:=h ▸ q
section
variable{P:d6}{w:d5}{K:v9}{mg:c9->Option b9}{base:d9}{x:c9}{st:j7}{N ps:List c9}{k:Nat}{Pr:A4}{B:List c9}{C:List (c9×Int)}{t:u7}
theorem x5.byD(T:TopB mg B C)(F:bP K mg x st ps)(i:FnScope N ps (aC st))(n:bZ Pr ps)(r:TopB mg B C->N.Nodup->DerT P w K mg base k x N st t)(p:∀ds M R,Pr ds M R->t (EE M R) (bT N ds) M):x5 P w K mg base (k+1) x ps Pr:=x5.byH F i n (r T i.nd) p
theorem Eh(T:TopB mg B C)(F:Nq K x x st f fd)(i:FnScope N ps (aC st))(n:bZ Pr ps)(r:TopB mg B C->N.Nodup->DerT P w K mg base k x N st t)(p:∀ds M R,Pr ds M R->t (EE M R) (bT N ds) M):FnOk P w K mg base L5 (k+1) f fd ps (Nl K Pr):=Eg F i n (r T i.nd) p
end
structure RY(X:Cx)(pins:List (d7×d8))(H:Hp)(a:d7):Prop where
 un:H a=a8
 ne:a≠X.env.locals
 fs:a∉X.fs
 s0:X.s₀.heap.objs.size<=a
 cl:∀x c,X.env.cells.lookup x=a7 c->c≠a
 pn:∀p∈X.pn++pins,p.1≠a
structure KySt(X:Cx)(pins:List (d7×d8))(σ:St)(ρ:List d7)(M:u8)(m:c9->Option b9)(kS aD:d7)(e1:Nat)(H0 H:Hp)(s:g8)(ks:List b9)(e:Nat):Prop where
 inv:u6 X pins σ H s
 ns:s.heap.Ns X.env.locals m
 sm:x8 X.K ρ M H
 gr:Grow X.K ρ H0 ρ H
 hk:s.heap.get? kS=a7 (p4 "list" (P3 ks) e)
 hd:s.heap.get? aD=a7 (p4 "list" #[] e1)
 ok:RY X pins H kS
 od:RY X pins H aD
 ne:aD≠kS
structure BlkScC(X:Cx)(N':List c9)(nt:Nat)(js:List Nat)(scope:g9):Prop where
 kind:scope.kind=.function
 kinds:∀y∈scope.names,scope.names.lookup y.1=a7 y.2
 free:∀y∈scope.names,y.2=.free->(X.env.kindOf y.1=a7 .cell\/X.env.kindOf y.1=a7 .free)
 len:N'.length=nt+js.length
 fr:∀(k j:Nat),js[k]?=a7 j->∃x,N'[nt+k]?=a7 x/\X.N[j]?=a7 x/\scope.names.lookup x=a7 .free/\(X.env.kindOf x=a7 .cell\/X.env.kindOf x=a7 .free)
structure CfOk(h:d9)(k:Nat)(names:List (c9×n4))(acc cs:List (c9×d7)):Prop where
 look:∀z c,cs.lookup z=a7 c->(acc.lookup z=a7 c/\(z,Ov)∉names)\/((z,Ov)∈names/\k<=c/\h.IsCell c a8)
 inj:∀y z c,cs.lookup y=a7 c->cs.lookup z=a7 c->y=z
 old:∀z c,acc.lookup z=a7 c->∃c',cs.lookup z=a7 c'
 new:∀z,(z,Ov)∈names->∃c,cs.lookup z=a7 c
def Ie(i:Nat):ML:=av i
theorem gL{α:Type}(f:α->D)(k:D)(l:List α)(h:∀x∈l,f x≠k):l.filter (λy=>!decide (f y=k))=l:=List.filter_eq_self.mpr λz b=>by simp[h z b]
end L2
namespace L2
open PySem PySem.Spec PyProof.Rows DL
def GtAt(A:f9)(s:g8)(x y:b9)(k:Bool):Prop:=∀(g:d6) (w:d5) (E:b9->g8->Prop) (Q:b9->g8->Prop),Q (.bool k) s->i7 (j2 g w) A (richCompare .Gt x y) Q E s
inductive GexAt(A:f9)(s:g8):List b9->List b9->Bool->Prop
 |nn:GexAt A s [] [] b7
 |nc {y:b9}{ys:List b9}:GexAt A s [] (y::ys) b7
 |cn {x:b9}{xs:List b9}:GexAt A s (x::xs) [] a9
 |eq {x y:b9}{xs ys:List b9}{k:Bool} (h:Ng A s x y a9) (t:GexAt A s xs ys k):GexAt A s (x::xs) (y::ys) k
 |ne {x y:b9}{xs ys:List b9}{k:Bool} (h:Ng A s x y b7) (t:GtAt A s x y k):GexAt A s (x::xs) (y::ys) k
noncomputable def pM(es:Array o7)(h:Int)(i:Nat):Bool:=(es[i]?.map (·.hash))==a7 h
section
open PySem.W
structure ExcK(K:Frag)(D:d7):Prop where
 ga:findIn K (.ref D) "__getattribute__" = a7 (a7<|.builtin "BaseException.__getattribute__")
 gt:findIn K (.ref D) "__getattr__" = a7 a8
 mb:mroIn K D (.type "BaseException")=a7 a9
 mo:mroIn K D (.type "object")=a7 a9
 cl:findIn K (.ref D) "__class__" = a7 (a7<|.builtin "object.__class__")
end
noncomputable def trO(o:d8)(T:d7):d8:=o.mapFields (·.setIfInBounds 1 (.ref T))
inductive TrX(h base:d9)(l:List Env)(e:d7)(o:d8)(fl:b9):Prop
 |mk (T:d7) (oT:d8) (vs ts:Array b9) (st:base.StaysIn h) (nw:base.get? e=a8) (ff:h.FunFrames base l) (d:o.data=.fields vs) (sz:1<vs.size) (at_:h.get? e=a7 (trO o T))
  (nT:base.get? T=a8) (ne:T≠e) (aT:h.get? T=a7 oT) (dT:oT.data=.fields ts) (h3:ts[3]?=a7 fl)
inductive Fly(P:d6)(w:d5)(stk:List Env)(H:Hp)(h0:d9)(a:d7)(C:b9)(H1:Hp)(h:d9):Prop
 |mk (B:d9) (o:d8) (ix:RC o C) (fly:TrX h B stk a o .none) (un:Un (K7 stk) [] H H1 h0 h) (hok:E8 P w H1 h)
  (old:∀b o,h0.get? b=a7 o->b∉K7 stk->∃o',B.get? b=a7 o'/\(H b=a8->o'=o)) (trk:∀b u,H1 b=a7 u->∃o,B.get? b=a7 o)
structure DefX(X:Cx):Prop where
 stk:X.stack=X.env::X.outer
 fr:X.env.frame=a7 X.env.locals
 ex:X.ex=[]
def CXe(P:d6)(w:d5):NQ:=λk H s E e s'=>∃a C b,e=.ref a/\s'.os=s.os/\i5 s'.gens/\Fly P w k H s.heap a C b s'.heap/\E C a8 b
noncomputable abbrev vE:List b9:=[.type "ValueError",.type "Exception",.type "BaseException",.type "object"]
abbrev DX:=c9->u8->Prop
abbrev RE:=DX->u7
abbrev DTEX:=DX->A2
abbrev DSpX:=List D->u8->DK->DX->Prop
inductive XQ(K:v9)(ρ:List d7)(H:Hp)(R:DX)(C:b9)(dx:Option d7)(H':Hp):Prop
 |mk (x:c9) (c:d7) (M':u8) (ρ':List d7) (e:C=.ref c) (hx:Nv K f7 x=a7 (a7 (.ref c))) (s:x8 K ρ' M' H') (g:Grow K ρ H ρ' H') (q:R x M')
inductive lowX(K:v9)(E:XK)(t:RE)(D:Ends)(σ:St)(H:Hp):Prop
 |mk (S:SD) (M:u8) (ρ:List d7) (F:DEnds) (R:DX) (s:x8 K ρ M H) (sr:SRep K ρ H S σ) (q:t R F S M) (k:PL K ρ H F D) (x:∀C dx H',XQ K ρ H R C dx H'->E C dx H')
inductive lowXE(K:v9)(E:XK)(t:DTEX)(σ:St)(H:Hp)(Q:VK):Prop
 |mk (S:SD) (M:u8) (ρ:List d7) (F:DK) (R:DX) (s:x8 K ρ M H) (sr:SRep K ρ H S σ) (q:t R S M F) (k:∀v H',VQ K ρ H F v H'->Q v H') (x:∀C dx H',XQ K ρ H R C dx H'->E C dx H')
structure XA(b:Bool)(X:Cx)(pins:List (d7×d8))(E:XK)(P:St->Prop)(Ex:b9->g8->Prop):Prop where
 on:∀σ H1 s1 e s',P σ->u6 X pins σ H1 s1->CXe X.prog X.w X.stack H1 s1 E e s'->Ex e s'
 all:b=a9->∀σ,P σ
 made:b=a9->∀σ H1 s1 h' e C vs,u6 X pins σ H1 s1->Heap.MadeExcOf s1.heap h' e C vs->E C a8 H1->Ex (.ref e) { s1 with heap:=h' }
structure HX(b:Bool)(X:Cx)(st:j7)(t:RE):Prop where
 ok:∀(pins:List (d7×d8)) (s:g8) (σ:St) (H:Hp) (D:Ends) (E:XK) (P:St->Prop) (Ex:b9->g8->Prop),XA b X pins E P Ex->P σ->u6 X pins σ H s->lowX X.K E t D σ H->i7 (j2 X.prog X.w) X.A (exec st X.env) (SP X pins D) Ex s
structure HXs(b:Bool)(X:Cx)(st:List j7)(t:RE):Prop where
 ok:∀(pins:List (d7×d8)) (s:g8) (σ:St) (H:Hp) (D:Ends) (E:XK) (P:St->Prop) (Ex:b9->g8->Prop),XA b X pins E P Ex->P σ->u6 X pins σ H s->lowX X.K E t D σ H->i7 (j2 X.prog X.w) X.A (execs st X.env) (SP X pins D) Ex s
structure HXE(b:Bool)(X:Cx)(e:i9)(t:DTEX):Prop where
 ok:∀(pins:List (d7×d8)) (s:g8) (σ:St) (H:Hp) (Q:VK) (E:XK) (P:St->Prop) (Ex:b9->g8->Prop),XA b X pins E P Ex->P σ->u6 X pins σ H s->lowXE X.K E t σ H Q->i7 (j2 X.prog X.w) X.A (eval e X.env) (EP X pins σ Q) Ex s
structure ClsX(K:v9)(x:c9)(C:d7):Prop where
 at_:Nv K f7 x=a7 (a7<|.ref C)
 exc:PySem.W.excIn K C vE "ValueError.__new__" = a9
 own:ExcK K C
 val:QX K (.ref C) (.type "ValueError")=a7 a9
structure RoomH(k:Nat)(A:f9):Prop where
 dp:A.depth+3*k+5<recursionLimit
 un:A.units+16*k+200<m9
def MA(A:f9)(H:Hp):Prop:=∃a o C,A.handled=a7 (.ref a)/\H a=a7 (.frz o<|.own a)/\RC o C
structure FnH(P:d6)(w:d5)(K:v9)(mg:c9->Option b9)(base:d9)(k:Nat)(f:d7)(fd:n0)(ps:List c9)(sp:Sp):Prop where
 len:∀vs H Q E,sp vs H Q E->vs.length=ps.length
 run:∀(A:f9) (outer:List Env) (s:g8) (H:Hp) (args:Args) (us:List b9) (vs:List V) (Q:VK) (E:XK),RoomH k A->MA A H->Env0 P w K mg base A outer s H->BindsTo s fd args (ps.zip us)->ax vs us->sp vs H Q E ->n3 (j2 P w) A (.call (.ref f) args) (CR L5 outer P w H s Q E) s
end L2
namespace L2
open PySem PySem.Spec PyProof.Rows DL PySem.W
end L2
namespace L2
open PySem PySem.Spec PyProof.Rows DL
abbrev DTAX:=DX->K2
inductive lowXA(K:v9)(E:XK)(t:DTAX)(σ:St)(H:Hp)(Q:List V->Hp->Prop):Prop
 |mk (S:SD) (M:u8) (ρ:List d7) (F:List D->u8->Prop) (R:DX) (s:x8 K ρ M H) (sr:SRep K ρ H S σ) (q:t R S M F) (k:∀v H',AQ K ρ H F v H'->Q v H') (x:∀C dx H',XQ K ρ H R C dx H'->E C dx H')
structure HXA(b:Bool)(X:Cx)(es:List i9)(t:DTAX):Prop where
 ok:∀(pos:Pos) (pins:List (d7×d8)) (s:g8) (σ:St) (H:Hp) (Q:List V->Hp->Prop) (E:XK) (P:St->Prop) (Ex:b9->g8->Prop),XA b X pins E P Ex->P σ->u6 X pins σ H s->lowXA X.K E t σ H Q->i7 (j2 X.prog X.w) X.A (spliced<|j5 pos<|j6 es X.env) (AP X pins σ Q) Ex s
end L2
namespace L2
open PySem PySem.Spec PyProof.Rows DL PySem.W
end L2
namespace L2
open PySem PySem.Spec PyProof.Rows DL
noncomputable def Ry(M:u8):D->D
 |.ref i=>match M[i]? with
  |some a=>.tup a.items
  |none=>.non
 |_=>.non
structure SrtR(M:u8)(xs:List D):Prop where
 len:xs.length<64
 ls:∀x∈xs,∃n a,x=.ref n/\M[n]?=a7 a/\a.isL=a9
 ok:∀x∈xs,E6 v6 (Ry M x)=a9
 cm:∀x∈xs,∀y∈xs,iI M v6 (Ry M x) (Ry M y)=a9
end L2
namespace L2
open PySem PySem.Spec PyProof.Rows DL PySem.W
def pP(t:K2):A2:=λS M Q=>t S M λds a=>match ds with
 | [.int j]=>0<=j/\j<1000/\Q (.ref a.length) (a++[.lst<|lN 0 j.toNat])
 |_=>False
theorem CG{K:v9}{ρ:List d7}{H:Hp}(n:Nat):Reps K ρ H (lN 0 n) ((C3 n).map λi:Nat=>V.int (i:Int)):=by
 have:∀l:List Nat,Reps K ρ H (l.map λi:Nat=>D.int<|0+(i:Int)) (l.map λi:Nat=>V.int (i:Int)):=λl=>by
  induction l with
  |nil=>exact .nil
  |cons x l h=>rw[B9,B9,Int.zero_add];exact .cons (.int _) h
 exact this _
theorem vk:∀(l:List b9) (k:Nat),(∀(i:Nat) v,l[i]?=a7 v->∃t,v=.int ((k:Int)+i) t)->ax ((List.range' k l.length).map λi:Nat=>V.int (i:Int)) l
 | [],_,_=>.nil
 |x::l,k,h=>by rw[C5,List.range'_succ,B9];obtain⟨t,rfl⟩:=h 0 x rfl;refine .cons ⟨t,by simp⟩<|vk l (k+1) λi v e=>?_;obtain⟨t',e'⟩:=h (i+1) v (by simpa using e);exact⟨t',by rw[e'];congr 1;lia⟩
theorem Bf(L:HA X [a] t)(W:X.mg "list" = a8)(r:X.mg "range" = a8)(N:X.calm=a9:=by kernel_rfl)(P:X.env.kindOf "list" = a7 .globalImplicit:=by kernel_rfl)(m:X.env.kindOf "range" = a7 .globalImplicit:=by kernel_rfl)(hs:j6 [NS (.Name "range" p2) [a] [] pos2] X.env=[(b7,eval (NS (.Name "range" p2) [a] [] pos2) X.env)]:=by kernel_rfl) (y:j6 [a] X.env=[(b7,eval a X.env)]:=by kernel_rfl):HE X (.Call (.Name "list" p) [.Call (.Name "range" p2) [a] [] pos2] [] pos) (pP t):=⟨by
 rintro d s σ H R I ⟨S,M,ρ,Q,sm,sr,q,Z⟩;refine OD<|fv I P W (by rfl) ?_;refine callWith_type1 ?_ (by rw[hs];rfl) rfl;rw[hs];refine Qn ?_;refine OD<|fv I m r boot_range ?_;refine Qz (z6 (L.ok pos2 d s σ H _ I ⟨S,M,ρ,_,sm,sr,q,λv H' w=>w⟩) ?_) y rfl;rintro us f ⟨vs,E,F,r1,g⟩;obtain⟨ds,M1,ab,C,g1,B,g⟩:=g;split at g;rename_i j;obtain⟨j0,j1,g⟩:=g;obtain⟨v1,_,rfl,rx,B⟩:=Reps.inv_cons B;obtain rfl:=Reps.inv_nil B;obtain rfl:=w5.inv_int rx;obtain⟨u,rfl,ru⟩:=ax.one r1;obtain⟨k,rfl⟩:=ru;refine call_range_1 ?_;refine Qj ?_;have l:u6 X d σ E { f with heap:=f.heap.push { cls:=.type "range",data:=.fields #[.int 0 f.toks,.int j k,.int 1<|f.toks+1] },toks:=f.toks+1+1 }:=F.kept λb o e=>A9 _ e;have x:IsRange (f.heap.push { cls:=.type "range",data:=.fields #[.int 0 f.toks,.int j k,.int 1<|f.toks+1] }) f.heap.objs.size 0 j 1 f.toks k (f.toks+1):=IsRange.new ..;generalize A:({ f with heap:=f.heap.push { cls:=.type "range",data:=.fields #[.int 0 f.toks,.int j k,.int 1<|f.toks+1] },toks:=f.toks+1+1 }:g8)=z at l;have x:IsRange z.heap f.heap.objs.size 0 j 1 f.toks k (f.toks+1):=by rw[<-A];exact x
 have Y:j.toNat<=2 ^ 24:=by lia
 refine call_list_range (n:=j.toNat) (l.ok.hd N) x (small_one (by lia) (by lia) (by lia)<|by lia) (by rw[rangeSize_one];split<;>lia) Y λh' D c U T K h=>?_;have J:c.toList.length=j.toNat:=by rw[G3];exact h.1
 have w2:ax ((C3 j.toNat).map λi:Nat=>V.int (i:Int)) c.toList:=by
  have:=vk c.toList 0 λi v e=>by obtain⟨t,G⟩:=h.2 i v (by rw[<-J3];exact e);exact⟨t,by rw[G];congr 1;lia⟩
  rw[J,<-List.range_eq_range']at this;exact this
 have O:E z.heap.objs.size=a8:=l.hok.fresh<|z5 _;refine⟨.ref z.heap.objs.size,_,l.laid (a:=z.heap.objs.size) (o:=.lst ((C3 j.toNat).map λi:Nat=>V.int (i:Int))) (t':=D) T (z5 _) ⟨?_,c.toList,U,w2,by simpa using K⟩,rfl,Z _ _<|VQ.laidL C g1 (CG _) O g⟩;rw[x6,Ps];exact aq (by lia);exact g.elim⟩
end L2
namespace LW
open PySem L2
local macro_rules | `(tactic| walk_at"sc")=>`(tactic| exact⟨rfl,rfl,rfl,by decide +kernel,rfl,by decide +kernel,by decide +kernel⟩)
local macro_rules | `(tactic| walk_at"dl")=>`(tactic| simp only[EE,aB,z9,dz,Fl,G4,al,u5,aa,ad,ay,bt,Mh,BI,F7,je,bF,av,aK,bL,nq,sN,u4,QK,cT,dC,ac,cR,fM,E7,bu,aL,OJ,NF,cw,jf,rT,qAdd,aI,zI,jR,oS,xr,Jz,Nc,JA,MD,N5,Pa,O9,A6,MZ,fg,eJ,Ce,II,w9,QG,dc,IM,xW,jW,bE,jX,dZip,lS,rO,eZ,xZ,fB,vb,Eu,va,Pb,lP,iF,im,dGIn,Ev,zL,xt,pP,Ie,lR,IN,sO,FP,tZ,lQ,iG,PJ,at1,at2,A1,Rx,bT,IL,B9,Oc,Oy,G5,OF,On,C5,Fn,Pw,List.replicate_succ,List.set_cons_zero,List.set_cons_succ,Nu,Nat.reduceAdd,Nat.reduceSub,OV,t6,t5,E3])
noncomputable def top(i:Nat):j7:=PySem.Challenge.pw_talkmarks_k13_logs.main.body.getD i<|.Pass ⟨0,0,0,0⟩
noncomputable abbrev B_:List c9:=["int","isinstance","bool","tuple","len","range","all","ord","str","zip","sorted","list","max","set"]
noncomputable abbrev C_:List (c9×Int):=[("LONGEST_NAME",8),("LONGEST_SAYING",60),("FIRST_SIGN",32),("LAST_SIGN",126)]
noncomputable def aG:List (c9×List c9):=[(AA1 "say",[AA1 "room",AA1 "under",AA1 "saying"]),(AA1 "change",[AA1 "message",AA1 "saying"]),(AA1 "back",[AA1 "message"]),(AA1 "like",[AA1 "message",AA1 "sort",AA1 "on"]),(AA1 "read",[AA1 "room",AA1 "vector"]),(AA1 "seen",[AA1 "message"]),(AA1 "hush",[AA1 "what",AA1 "on"]),(AA1 "rung",[AA1 "message"])]
noncomputable abbrev iV:List c9:=["thing"]
noncomputable abbrev cE:List c9:=["least","thing"]
noncomputable abbrev dI:List c9:=["many","thing"]
noncomputable abbrev gB:List c9:=["things"]
noncomputable abbrev gF:List c9:=["sign"]
noncomputable abbrev md:List c9:=["sign"]
noncomputable abbrev mh:List c9:=["thing"]
noncomputable abbrev gv:List c9:=["thing"]
noncomputable abbrev gG:List c9:=["pairs"]
noncomputable abbrev lY:List c9:=["house","name"]
noncomputable abbrev gD:List c9:=["house","thing"]
noncomputable abbrev me:List c9:=["house","thing"]
noncomputable abbrev mi:List c9:=["house","thing"]
noncomputable abbrev iW:List c9:=["house","thing"]
noncomputable abbrev cF:List c9:=["house","thing"]
noncomputable abbrev gs:List c9:=["house","thing"]
noncomputable abbrev lZ:List c9:=["house","thing"]
noncomputable abbrev mf:List c9:=["house","part","thing"]
noncomputable abbrev oY:List c9:=["house","thing"]
noncomputable abbrev mj:List c9:=["house","thing"]
noncomputable abbrev iS:List c9:=["deed"]
noncomputable abbrev de:List c9:=["deeds"]
noncomputable abbrev oX:List c9:=["house","thing"]
noncomputable abbrev mn:List c9:=["_law_script","_law_k"]
noncomputable abbrev Ag:List c9:=["_law_well_here","_law_many"]
noncomputable abbrev Gn:List c9:=["_law_cell","_law_k"]
noncomputable abbrev Ah:List c9:=["_law_cell","_law_k"]
noncomputable abbrev Af:List c9:=["_law_cell","_law_k"]
noncomputable abbrev ud:List c9:=["_law_script","_law_start","_law_most"]
noncomputable abbrev Ad:List c9:=["_law_well_here"]
noncomputable abbrev uc:List c9:=["_law_well_here","_law_many"]
noncomputable abbrev ui:List c9:=["_law_well_here"]
noncomputable abbrev uj:List c9:=["_law_house_here"]
noncomputable abbrev oW:List c9:=["_law_well_here","_law_house_here"]
noncomputable abbrev ug:List c9:=["_law_well_here","_law_house_here","_law_stamps"]
noncomputable abbrev oV:List c9:=["_law_well_here","_law_house_here"]
noncomputable abbrev Ae:List c9:=["_law_well_here","_law_house_here","_law_stamps"]
noncomputable abbrev Gq:List c9:=["_law_well_here","_law_house_here","_law_stamps"]
noncomputable abbrev Go:List c9:=["_law_wells_here","_law_house_here"]
noncomputable abbrev uf:List c9:=["_law_well_here","_law_depth"]
noncomputable abbrev Ai:List c9:=["_law_thing_here","_law_well_here","_law_depth"]
noncomputable abbrev fi:List c9:=["_law_thing_here","_law_low"]
noncomputable abbrev gn:List c9:=["_law_house_here","_law_thing_here"]
noncomputable abbrev fj:List c9:=["_law_house_here","_law_thing_here"]
noncomputable abbrev dG:List c9:=["_law_house_here","_law_thing_here"]
noncomputable abbrev gk:List c9:=["_law_thing_here"]
noncomputable abbrev dH:List c9:=["_law_thing_here"]
noncomputable abbrev gj:List c9:=["_law_house_here","_law_thing_here"]
noncomputable abbrev gh:List c9:=["_law_house_here","_law_thing_here"]
noncomputable abbrev iU:List c9:=["_law_house_here","_law_thing_here"]
noncomputable abbrev gq:List c9:=["_law_house_here","_law_thing_here"]
noncomputable abbrev ue:List c9:=["_law_found","_law_due"]
noncomputable abbrev iT:List c9:=["_law_house_here","_law_thing_here"]
noncomputable abbrev uh:List c9:=["_law_house_here","_law_deed","_law_well_here"]
noncomputable abbrev lX:List c9:=["_law_house_here","_law_log_here","_law_well_here"]
noncomputable abbrev Gp:List c9:=["_law_script"]
structure Tops(P:d6)(w:d5)(K:v9)(mg:c9->Option b9)(base:d9):Prop where
 f_is_whole:bP K mg "is_whole" (top 1) iV
 f_is_whole_from:bP K mg "is_whole_from" (top 2) cE
 f_is_tuple_of:bP K mg "is_tuple_of" (top 3) dI
 f_is_rising:bP K mg "is_rising" (top 4) gB
 f_is_letter:bP K mg "is_letter" (top 10) gF
 f_is_sign:bP K mg "is_sign" (top 11) md
 f_is_name:bP K mg "is_name" (top 12) mh
 f_is_saying:bP K mg "is_saying" (top 13) gv
 f_firsts_of:bP K mg "firsts_of" (top 15) gG
 f_many_of:bP K mg "many_of" (top 16) lY
 f_is_person:bP K mg "is_person" (top 17) gD
 f_is_room:bP K mg "is_room" (top 18) me
 f_is_hand:bP K mg "is_hand" (top 19) mi
 f_is_stamp:bP K mg "is_stamp" (top 22) iW
 f_is_hand_count:bP K mg "is_hand_count" (top 23) cF
 f_is_vector:bP K mg "is_vector" (top 24) gs
 f_is_what:bP K mg "is_what" (top 25) lZ
 f_is_part:bP K mg "is_part" (top 26) mf
 f_is_act:bP K mg "is_act" (top 27) oY
 f_is_deed:bP K mg "is_deed" (top 28) mj
 f_stamp_of:bP K mg "stamp_of" (top 29) iS
 f_are_numbered:bP K mg "are_numbered" (top 31) de
 f_is_log:bP K mg "is_log" (top 32) oX
 f_cell_at:bP K mg "_law_cell_at" (top 34) mn
 f_take:bP K mg "_law_take" (top 35) Ag
 f_mix:bP K mg "_law_mix" (top 36) Gn
 f_rich:bP K mg "_law_rich" (top 37) Ah
 f_well:bP K mg "_law_well" (top 38) Af
 f_wells:bP K mg "_law_wells" (top 39) ud
 f_word:bP K mg "_law_word" (top 40) Ad
 f_words:bP K mg "_law_words" (top 41) uc
 f_house:bP K mg "_law_house" (top 42) ui
 f_hands:bP K mg "_law_hands" (top 43) uj
 f_saying:bP K mg "_law_saying" (top 44) oW
 f_stamp:bP K mg "_law_stamp" (top 45) ug
 f_vector:bP K mg "_law_vector" (top 46) oV
 f_what:bP K mg "_law_what" (top 47) Ae
 f_act:bP K mg "_law_act" (top 48) Gq
 f_log:bP K mg "_law_log" (top 49) Go
 f_thing:bP K mg "_law_thing" (top 50) uf
 f_bent:bP K mg "_law_bent" (top 51) Ai
 f_l_is_whole:bP K mg "_law_is_whole" (top 52) fi
 f_l_is_hand:bP K mg "_law_is_hand" (top 53) gn
 f_l_is_stamp:bP K mg "_law_is_stamp" (top 54) fj
 f_l_is_vector:bP K mg "_law_is_vector" (top 55) dG
 f_l_is_name:bP K mg "_law_is_name" (top 56) gk
 f_l_is_saying:bP K mg "_law_is_saying" (top 57) dH
 f_l_is_room:bP K mg "_law_is_room" (top 58) gj
 f_l_is_what:bP K mg "_law_is_what" (top 59) gh
 f_l_is_act:bP K mg "_law_is_act" (top 60) iU
 f_l_is_deed:bP K mg "_law_is_deed" (top 61) gq
 f_truth:bP K mg "_law_truth" (top 62) ue
 f_l_is_log:bP K mg "_law_is_log" (top 63) iT
 f_other:bP K mg "_law_other" (top 64) uh
 f_spoiled:bP K mg "_law_spoiled" (top 65) lX
 f_law:bP K mg "law" (top 66) Gp
 g_ACT_PARTS:EG w K mg "ACT_PARTS" aG
 b:TopB mg B_ C_
local macro_rules | `(tactic| walk_at"bb")=>`(tactic| first|exact Mu|exact Iz|exact Mt|exact pR|exact Ms|exact Iy|exact Mr|exact Mq|exact BV|exact Mp|exact EC)
local macro_rules | `(tactic| walk_at"tb")=>`(tactic| exact TopB.no (by k_dflt assumption) (by kernel_rfl))
local macro_rules | `(tactic| walk_at"dvr")=>`(tactic| (repeat' (first|(with_reducible first|(refine gA ?_;first|exact KU|refine Ha ?_ ?_)|exact k_var|(refine LC ?_;first|exact k_int|exact k_bl|exact k_non|exact k_str)|(refine gCall ?_;first|refine xP (by k_dflt assumption) ?_ (by walk_at"tb") (by walk_at"tb")|refine xQ ?_ (by walk_at"tb")|refine Bf ?_ (by walk_at"tb") (by walk_at"tb")|refine Hh ?_ (by walk_at"tb") (by walk_at"bb") ?_|refine DO ?_ (by walk_at"tb") (by walk_at"bb") ?_|refine k_cal (by k_dflt assumption) (by k_dflt assumption) ?_ (hj:=Nat.ble_eq_true_of_le (by lia))|refine Hb (by k_dflt assumption) ?_ ?_|refine k_ms ?_ ?_ ?_|refine k_ml ?_ ?_ ?_)|(refine gIx ?_;first|refine La (by k_dflt assumption) ?_ (hs:=by k_dflt (intro _ _;kernel_rfl))|refine Hc ?_ ?_ ?_|refine KZ (by k_dflt assumption) ?_ ?_ (hs:=by k_dflt (intro _ _;kernel_rfl))|refine k_ix ?_ ?_ (hs:=by k_dflt (intro _ _;kernel_rfl)))|(refine gT ?_;first|refine KF (by k_dflt assumption) ?_|refine KG ?_ ?_ ?_|refine DB ?_ ?_ ?_ ?_ ?_|refine KD ?_|refine kw_t (EV ?_ ?_)|refine kw_t (KA ?_ ?_)|refine KC ?_)|(refine gE ?_;first|exact KY|exact Hf|exact He (TopB.gi (by k_dflt assumption) (by kernel_rfl))|exact KW (by walk_at"tb") (by walk_at"bb")|refine k_op ?_ ?_ ?_|refine k_un Lg ?_|refine k_not ?_|refine k_cmp ?_ ?_ ?_|refine Hg ?_ ?_ ?_ ?_ ?_|refine k_one ?_|refine k_and ?_ ?_|refine k_or ?_ ?_|refine k_tup ?_|refine k_lst ?_|refine k_lcN ?_ (λ_ _ _ _=>?_) (λ_ _ _ _=>?_) (λ_ _ _ _=>?_))|(refine gS ?_;first|refine AW ?_|refine EX ?_|refine KJ ?_ ?_ ?_|refine sC (by k_dflt assumption) ?_ (λ_ _ _ _=>?_) (λ_ _ _ _=>?_) (λ_ _ _ _=>?_)|refine EW (by k_dflt assumption) ?_|refine EZ ?_ ?_|refine AV (by k_dflt assumption) ?_ ?_ ?_|refine AX (by k_dflt assumption) ?_ ?_ ?_|refine EY ?_ ?_ ?_)|(refine gOp ?_;first|exact Hu|exact ho_eq (by k_dflt assumption)|exact Hs|exact ho_ge|exact ho_gt|exact ho_in (by k_dflt assumption)|exact ho_is|exact ho_le|exact ho_lt|exact Ll (by k_dflt assumption)|exact Lk|exact Lj|exact ho_ne (by k_dflt assumption)|exact DV (by k_dflt assumption)|exact Li|exact Lh)|(refine gC ?_;first|exact Lx|exact Lw|exact Lv|exact Hz|exact Hy|exact Hw|exact Lu|exact Bq (by k_dflt assumption)|exact xR (by k_dflt assumption)|exact Ec)|exact KI|exact GS|exact GW|exact GY|refine KH ?_|refine EV ?_ ?_|refine KA ?_ ?_|refine GN ?_|refine Kz ?_|refine GR ?_|refine GV ?_|refine AZ (by walk_at"tb") ?_|refine AY (by walk_at"tb") ?_|refine KK (by walk_at"tb") ?_|refine KL ?_|exact GZ (by k_dflt assumption)|exact KO (Kr (by kernel_rfl))|refine DH ?_ ?_|refine KM ?_|refine KN ?_ ?_|exact Bo|exact Bn|exact DY|exact Bm|exact Hv)|refine GU ?_ ?_|refine AW ?_|refine EX ?_|refine KJ ?_ ?_ ?_|refine sC (by k_dflt assumption) ?_ (λ_ _ _ _=>?_) (λ_ _ _ _=>?_) (λ_ _ _ _=>?_)|refine EW (by k_dflt assumption) ?_|refine EZ ?_ ?_|refine AV (by k_dflt assumption) ?_ ?_ ?_|refine AX (by k_dflt assumption) ?_ ?_ ?_|refine EY ?_ ?_ ?_)))
local macro_rules | `(tactic| walk_at"dv")=>`(tactic| (intro _ _ _ _ _ _ _ _ _ _;refine HD rfl ?_;walk_at"dvr"))
section
variable{P:d6}{w:d5}{K:v9}{mg:c9->Option b9}{base:d9}
local macro_rules | `(tactic| walk_at"ifs")=>`(tactic| simp only[rT,E3,↓reduceIte,NW,Bool.not_false])
noncomputable def F4(M:u8):Nat->D->Bool
 |_,.str x=>decide<|x.length<=1000
 |_,.ty _=>b7
 |n+1,.tup xs=>decide (xs.length<=30+n)&&xs.all (F4 M n)
 |n+1,.ref i=>match M[i]? with
  |some a=>a.isL&&a.items.all (F4 M n)
  |none=>b7
 | 0,.tup _=>b7
 | 0,.ref _=>b7
 |_,_=>a9
theorem LA:∀(n m:Nat) (d:D),n<=m->F4 M n d=a9->x3 M m d=a9:=by
 intro n;induction n with
 |zero =>
  intro m d _ h;cases d with
  |tup xs=>cases h
  |ref i=>cases h
  |ty t=>cases h
  |non=>exact At
  |bl b=>exact wn
  |int i=>exact af
  |str x=>exact aF
 |succ n ih =>
  intro m d f h;cases m with
  |zero=>lia
  |succ m =>
   cases d with
   |tup xs=>have h':(decide (xs.length<=30+n)&&xs.all (F4 M n))=a9:=h;rw[B8,D7]at h';exact Gw λx c=>ih m x (by lia)<|h'.2 x c
   |ref i =>
    simp only[F4]at h;cases e:M[i]? with
    |none=>rw[e]at h;cases h
    |some a=>rw[e]at h;simp only[B8,D7]at h;show (match M[i]? with|some a=>a.isL&&a.items.all (x3 M m)|none=>b7)=a9;rw[e];simp only[B8,D7];exact⟨h.1,λx c=>ih m x (by lia)<|h.2 x c⟩
   |ty t=>cases h
   |non=>exact At
   |bl b=>exact wn
   |int i=>exact af
   |str x=>exact aF
theorem HJ:∀(n m:Nat) (d:D),n<=m->F4 M n d=a9->F4 M m d=a9:=by
 intro n;induction n with
 |zero =>
  intro m d _ h;cases d with
  |tup xs=>cases h
  |ref i=>cases h
  |ty t=>cases h
  |non=>cases m<;>rfl
  |bl b=>cases m<;>rfl
  |int i=>cases m<;>rfl
  |str x=>cases m<;>exact h
 |succ n f =>
  intro m d g h;cases m with
  |zero=>lia
  |succ m =>
   cases d with
   |tup xs=>have h':(decide (xs.length<=30+n)&&xs.all (F4 M n))=a9:=h;rw[B8,D7]at h';show (decide (xs.length<=30+m)&&xs.all (F4 M m))=a9;rw[B8,D7];exact⟨dT_ (by have:=oT_ h'.1;lia),λx c=>f m x (by lia)<|h'.2 x c⟩
   |ref i =>
    simp only[F4]at h ⊢;cases e:M[i]? with
    |none=>rw[e]at h;cases h
    |some a=>rw[e]at h;simp only[B8,D7]at h ⊢;exact⟨h.1,λx c=>f m x (by lia)<|h.2 x c⟩
   |ty t=>cases h
   |non=>rfl
   |bl b=>rfl
   |int i=>rfl
   |str x=>exact h
theorem Bt(p:M <+: M'):∀(n:Nat) (d:D),F4 M n d=a9->F4 M' n d=a9:=by
 intro n;induction n with
 |zero=>intro d h;cases d<;>first|exact h|cases h
 |succ n c =>
  intro d h;cases d with
  |tup xs=>have h':(decide (xs.length<=30+n)&&xs.all (F4 M n))=a9:=h;rw[B8,D7]at h';show (decide (xs.length<=30+n)&&xs.all (F4 M' n))=a9;rw[B8,D7];exact⟨h'.1,λx b=>c x<|h'.2 x b⟩
  |ref i =>
   simp only[F4]at h ⊢;cases e:M[i]? with
   |none=>rw[e]at h;cases h
   |some a=>rw[e]at h;obtain⟨t,rfl⟩:=p;rw[J0 (A3.mp e).1,e];simp only[B8,D7]at h ⊢;exact⟨h.1,λx b=>c x<|h.2 x b⟩
  |_=>exact h
def w6(M:u8)(n:Nat)(d:D):Prop:=n<=30/\F4 M n d=a9
theorem w6.ok(h:w6 M n d):x3 M v6 d=a9:=LA n v6 d h.1 h.2
theorem w6.grow(h:w6 M n d)(p:M <+: M'):w6 M' n d:=⟨h.1,Bt p n d h.2⟩
theorem w6.mono(h:w6 M n d)(p:n<=m)(q:m<=30):w6 M m d:=⟨q,HJ n m d p h.2⟩
theorem w6.tup(h:w6 M n (.tup xs)):xs.length<=59/\∃m,n=m+1/\∀x∈xs,w6 M m x:=by
 obtain⟨b,h⟩:=h;cases n with
 |zero=>cases h
 |succ n=>have h':(decide (xs.length<=30+n)&&xs.all (F4 M n))=a9:=h;rw[B8,D7,s9]at h';exact⟨by lia,n,rfl,λx a=>⟨by lia,h'.2 x a⟩⟩
theorem w6.wid(h:w6 M (n+1) (.tup xs)):xs.length<=30+n:=by have h':(decide (xs.length<=30+n)&&xs.all (F4 M n))=a9:=h.2;rw[B8,s9]at h';exact h'.1
theorem w6.mkw(h:xs.length<=30+n)(f:n+1<=30)(a:∀x∈xs,w6 M n x):w6 M (n+1) (.tup xs):=by refine⟨f,?_⟩;show (decide (xs.length<=30+n)&&xs.all (F4 M n))=a9;rw[B8,D7,s9];exact⟨h,λx m=>(a x m).2⟩
theorem w6.mk(h:xs.length<=30)(f:n+1<=30)(a:∀x∈xs,w6 M n x):w6 M (n+1) (.tup xs):=w6.mkw (by lia) f a
theorem w6.mkr(h:ao M i xs)(b:n+1<=30)(c:∀x∈xs,w6 M n x):w6 M (n+1) (.ref i):=by refine⟨b,?_⟩;obtain⟨a,f,rfl,g⟩:=h.get;simp only[F4,f,B8,D7];exact⟨g,λx m=>(c x m).2⟩
theorem w6.thing(h:w6 M n d):mS M d:=by
 obtain⟨c,h⟩:=h;cases d with
 |non=>exact yF
 |bl b=>exact Ct
 |int i=>exact yG
 |str x=>exact yD<|by cases n<;>simpa [F4]using h
 |ty t=>cases n<;>cases h
 |tup xs=>exact yC
 |ref i =>
  cases n with
  |zero=>cases h
  |succ n =>
   simp only[F4]at h;cases e:M[i]? with
   |none=>rw[e]at h;cases h
   |some a=>rw[e]at h;simp only[B8]at h;exact yE<|ir e h.1
theorem gf(h:x.length<=1000)(f:n<=30):w6 M n (.str x):=⟨f,by cases n<;>simp[F4,h]⟩
theorem fx(f:n<=30):w6 M n (.int x):=⟨f,by cases n<;>rfl⟩
theorem Ef(f:n<=30):w6 M n (.bl x):=⟨f,by cases n<;>rfl⟩
theorem Fg(f:n<=30):w6 M n .non:=⟨f,by cases n<;>rfl⟩
theorem Bs(h:n+1<=30)(f:w6 M n a)(d:w6 M n b):w6 M (n+1) (.tup [a,b]):=w6.mk (by simp) h λx c=>by rcases A5.mp c with rfl|c;exact f;rw[G1.mp c];exact d
theorem Io(h:x∈cutD xs lo hi):x∈xs:=Rh<|Qt h
theorem au{B:u8}{q:Nat}{x a:MO}(h:B[q]?=a7 x):(B++[a])[q]?=a7 x:=by rw[J0 (A3.mp h).1];exact h
theorem cJ(h:w6 M n x)(t:∀y∈xs,w6 M n y):∀y∈x::xs,w6 M n y:=λy Q=>by rcases A5.mp Q with rfl|Q;exact h;exact t y Q
theorem jc:∀y∈([]:List D),w6 M n y:=λ_ z=>nomatch z
theorem cQ{M:u8}{n:Nat}{xs ys:List D}(h:∀y∈xs,w6 M n y)(t:∀y∈ys,w6 M n y):∀y∈xs++ys,w6 M n y:=λy Q=>(F6.mp Q).elim (h y)<|t y
noncomputable def aw(p:c9×Int):D:=.tup [.str p.1,.int p.2]
def Hd(d:D):Prop:=∃(x:c9) (k:Int),d=.tup [.str x,.int k]
theorem Ls(f:Hd a)(d:Hd b):v7 M (n+1) a b=a9↔a=b:=by obtain⟨x,k,rfl⟩:=f;obtain⟨y,l,rfl⟩:=d;show (v7 M n (.str x) (.str y)&&(v7 M n (.int k) (.int l)&&a9))=a9↔_;rw[bJ,aY];simp
theorem Lp(f:Hd a):x3 M v6 a=a9:=by obtain⟨x,k,rfl⟩:=f;rfl
noncomputable def IW(hs:List (D×Int))(d:D)(b:Int):Bool:=match hs.find? λp=>decide (p.1=d) with
 |some p=>decide<|b<p.2
 |none=>b7
noncomputable def Rw:Nat->D->Bool
 |n+1,.tup xs=>xs.all<|Rw n
 | 0,.tup _=>b7
 |_,.ref _=>b7
 |_,.ty _=>b7
 |_,_=>a9
def L4(n:Nat)(d:D):Prop:=Rw n d=a9
def Cb(n:Nat)(ds:List D):Prop:=ds.all (Rw n)=a9
theorem L4.non:L4 n .non:=by cases n<;>rfl
theorem L4.bl(b:Bool):L4 n (.bl b):=by cases n<;>rfl
theorem L4.int(i:Int):L4 n (.int i):=by cases n<;>rfl
theorem L4.str(x:c9):L4 n (.str x):=by cases n<;>rfl
theorem Cb.nil:Cb n []:=rfl
theorem Cb.cons(h:L4 n d)(t:Cb n ds):Cb n (d::ds):=by unfold Cb L4 at *;rw[MG,h,t];rfl
theorem L4.tup(h:Cb n ds):L4 (n+1) (.tup ds):=h
theorem Cb.of(h:∀d∈ds,L4 n d):Cb n ds:=D7.mpr h
theorem Lo(h:Hd d):L4 (n+1) d:=by obtain⟨x,i,rfl⟩:=h;exact .tup<|.cons (.str _)<|.cons (.int _) .nil
def Deed(d:D):Prop:=∃(t:Int) (h:D) (b:Int) (a:D),d=.tup [.int t,h,.int b,a]/\Hd h/\L4 5 a
noncomputable def bg:D->D
 |.tup (_::h::_)=>h
 |_=>.non
noncomputable def wo:D->Int
 |.tup (_::_::.int n::_)=>n
 |_=>0
noncomputable def many(g:List D)(h:D):Nat:=(g.filter λd=>decide<|bg d=h).length
noncomputable def tJ:D->Int
 |.tup (.int t::_)=>t
 |_=>0
noncomputable def D5:D->D
 |.tup (t::h::_)=>.tup [t,h]
 |_=>.non
def Ix(d:D):Prop:=∃(t:Int) (h:D),d=.tup [.int t,h]/\Hd h
theorem cD(h:Ix x):∃z i j,x=.tup [.int j,.tup [.str z,.int i]]:=by obtain⟨t,h,rfl,z,i,rfl⟩:=h;exact⟨z,i,t,rfl⟩
theorem cC(h:Ix x):E6 v6 x=a9:=by obtain⟨z,i,j,rfl⟩:=cD h;rfl
theorem jz(h:Ix x)(Q:Ix y):iI M v6 x y=a9:=by
 obtain⟨z,i,j,rfl⟩:=cD h;obtain⟨G,i',a,rfl⟩:=cD Q;show (if v7 M 29 (.int j) (.int a)=a9 then(if v7 M 29 (.tup [.str z,.int i]) (.tup [.str G,.int i'])=a9 then a9 else(if v7 M 28 (.str z) (.str G)=a9 then(if v7 M 28 (.int i) (.int i')=a9 then a9 else a9)else a9))else a9)=a9
 repeat' split
 all_goals rfl
theorem Ji(M:u8)(h:Ix x)(Q:Ix y):QM x y v6 (z7 M v6 x y) (z7 M v6 y x):=FB M v6 x y (cC h) (cC Q)<|jz h Q
theorem zt(h:Ix x)(Q:Ix y):z7 M v6 x y=z7 M' v6 x y:=by obtain⟨z,i,j,rfl⟩:=cD h;obtain⟨G,i',a,rfl⟩:=cD Q;rfl
theorem EQ(h:∀d∈xs,Ix d)(l:xs.length<64):SrtOk M xs:=⟨l,λx a=>cC<|h x a,λx a y Q=>jz (h x a)<|h y Q,.inr<|.inr<|.inr (.inl λx a=>by obtain⟨z,i,j,rfl⟩:=cD<|h x a;exact⟨_,_,rfl⟩)⟩
theorem mO(h:Deed d):Ix (D5 d):=by obtain⟨t,b,m,a,rfl,c,_⟩:=h;exact⟨t,b,rfl,c⟩
theorem mI:∀{kvs:List (D×D)},gK (mW kvs k d) k=a7 d
 | []=>by unfold mW gK;simp
 |p::kvs=>by
  unfold mW;split;rename_i hs;unfold gK at hs ⊢;rw[Rc]at hs;obtain⟨q,hq⟩:=Option.isSome_iff_exists.mp hs;rw[List.find?_map];have e:((λp:D×D=>decide<|p.1=k) ∘ λp:D×D=>if p.1=k then(p.1,d)else p)=λp=>decide (p.1=k):=by funext p;show decide ((if p.1=k then(p.1,d)else p).1=k)=decide (p.1=k);split<;>rfl
  rw[e,hq];have hk:q.1=k:=by have:=P9 hq;exact oT_ this
  show a7 (if q.1=k then(q.1,d)else q).2=_;rw[p9 hk];rename_i hs;unfold gK at hs ⊢;rw[Rc,Option.not_isSome_iff_eq_none]at hs;rw[List.find?_append,hs];simp
theorem uU(h:j≠k):gK (mW kvs k d) j=gK kvs j:=by
 unfold mW;split;unfold gK;rw[List.find?_map];have e:((λp:D×D=>decide<|p.1=j) ∘ λp:D×D=>if p.1=k then(p.1,d)else p)=λp=>decide (p.1=j):=by funext p;show decide ((if p.1=k then(p.1,d)else p).1=j)=decide (p.1=j);split<;>rfl
 rw[e];cases f:kvs.find? λp=>decide (p.1=j) with
 |none=>rfl
 |some q =>
  have a:q.1=j:=by have:=P9 f;exact oT_ this
  show a7 (if q.1=k then(q.1,d)else q).2=a7 q.2;rw[q9<|by rw[a];exact h]
 unfold gK;rw[List.find?_append];cases f:kvs.find? λp=>decide (p.1=j) with
 |none=>simp[D3 h]
 |some q=>rfl
theorem zO(h:∀p∈kvs,∃t:Int,p.2=.int t):∀p∈mW kvs k (.int i),∃t:Int,p.2=.int t:=by unfold mW;split;intro p a;obtain⟨q,b,rfl⟩:=A8.mp a;split;exact⟨i,rfl⟩;exact h q b;intro p a;rcases F6.mp a with a|a;exact h p a;rw[G1.mp a];exact⟨i,rfl⟩
structure LogN(log:List D):Prop where
 deed:∀d∈log,Deed d
 len:log.length<=40
 nums:∀h,(log.filter λd=>decide<|bg d=h).map wo=(C3<|many log h).map N9
 up:log.Pairwise λa b=>z7 [] v6 (D5 a) (D5 b)=a9
theorem zG(k:Int):∀n:Nat,(C3 n).filter (λi:Nat=>decide<|(i:Int)<k)=C3 (min n k.toNat)
 | 0=>by simp
 |n+1=>by rw[QZ,Qk,zG k n,OU];by_cases h:(n:Int)<k;rw[dT_ h,p9 rfl,Qa (show n<=k.toNat by lia),Qa (show n+1<=k.toNat by lia),QZ];rfl;rw[dF_ h,q9 (by decide),Nat.min_eq_right (show k.toNat<=n by lia),Nat.min_eq_right<|show k.toNat<=n+1 by lia];simp
theorem Jw{α:Type}{lt:α->α->Prop}:∀{xs ys:List α},(∀a∈xs,∀b∈xs,lt a b->¬lt b a)->xs.Pairwise lt->ys.Pairwise lt->(∀x,x∈ys↔x∈xs)->xs=ys
 | [],[],_,_,_,_=>rfl
 | [],y::ys,_,_,_,h=>r9 ((h y).mp C7)<|by simp
 |x::xs,[],_,_,_,h=>r9 ((h x).mpr C7)<|by simp
 |x::xs,y::ys,as,hx,hy,h=>by
  rw[Nz]at hx hy;have e:x=y:=by rcases A5.mp ((h x).mpr C7)with e|m1;exact e;rcases A5.mp ((h y).mp C7)with e|m2;exact e.symm;exact r9 (hx.1 y m2)<|as _ (C0 _ m2) _ C7<|hy.1 x m1
  subst e;rw[Jw (λa ha b hb=>as a (C0 _ ha) b<|C0 _ hb) hx.2 hy.2 λz=>⟨λm=>by rcases A5.mp ((h z).mp<|C0 _ m)with e|m';subst e;exact r9 (hy.1 z m)<|λq=>as z C7 z C7 q q;exact m',λm=>by rcases A5.mp ((h z).mpr<|C0 _ m)with e|m';subst e;exact r9 (hx.1 z m)<|λq=>as z C7 z C7 q q;exact m'⟩]
theorem Dm:∀{kvs:List (D×D)}{p:D×D},(kvs.map (·.1)).Nodup->p∈kvs->gK kvs p.1=a7 p.2
 | [],_,_,h=>nomatch h
 |q::kvs,p,nd,h=>by rw[B9,MR]at nd;unfold gK;rw[MQ];rcases A5.mp h with rfl|h;rw[dT_ rfl];rfl;have:q.1≠p.1:=λz=>nd.1 (by rw[z];exact OE h);rw[dF_ this];exact Dm nd.2 h
theorem Dh(n:∀h,(ys.filter λd=>decide<|bg d=h).map wo=(C3<|many ys h).map N9)(e:ys=done++x::xs):wo x=(many done (bg x):Int):=by
 have q:=n<|bg x;rw[e,Qk,MI,OU,dT_ rfl,p9 rfl,B9]at q;have:=t7 (λl=>l[(many done<|bg x)]?) q;have a:((done.filter λd=>decide<|bg d=bg x).map wo).length=many done (bg x):=by rw[x6];rfl
 rw[ND (by rw[a];exact z5 _),a,Nu,OF,G2]at this;cases g:(C3<|many (done++x::xs)<|bg x)[many done<|bg x]? with
 |none=>rw[g]at this;cases this
 |some i=>rw[g]at this;obtain⟨_,f⟩:=A3.mp g;rw[List.getElem_range]at f;injection this with this;rw[this,<-f];rfl
theorem kb:many (ds++[d]) h=many ds h+if bg d=h then 1 else 0:=by unfold many;rw[Qk,A7];congr 1;rw[OU];by_cases e:bg d=h;rw[dT_ e,p9 e];rfl;rw[dF_ e,q9 e];rfl
noncomputable def qo:D->Bool
 |.int _=>a9
 |_=>b7
def cM:A4:=λds M R=>∃d,ds=[d]/\A1 M d∈mV/\R (.bl<|qo d) M
theorem sA:bZ cM iV:=by rintro ds M R ⟨d,rfl,_⟩;rfl
def nH:u7:=aK<|bt (u5 fg<|aa (ac 0)<|aa (dC<|.ty "int") ad)<|BI<|u5 fg<|aa (ac 0)<|aa (dC<|.ty "bool") ad
theorem tF:C6 cM 1 nH:=by
 rintro ds M R ⟨d,rfl,D,h⟩;unfold nH;cases d with
 |ref n=>have e:=bv D;simp only[A1]at e;walk_at"dl";simp only[e];exact⟨by decide,bc<|ar.now h⟩
 |ty n=>simp only[A1]at D;exact r9 D<|by decide
 |int i=>walk_at"dl";exact⟨by decide,aM ⟨by decide,ar.now h⟩⟩
 |bl i=>walk_at"dl";exact⟨by decide,aM ⟨by decide,ar.now h⟩⟩
 |_=>walk_at"dl";exact⟨by decide,bc<|ar.now h⟩
theorem mx(T:Tops P w K mg base):x5 P w K mg base 1 "is_whole" iV cM:=x5.byD (N:=["thing"]) T.b T.f_is_whole (by walk_at"sc") sA (by walk_at"dv") tF
noncomputable def aH(k:Int):D->Bool
 |.int i=>decide<|k<=i
 |_=>b7
def aZ:A4:=λds M R=>∃(k:Int) (d:D),ds=[.int k,d]/\A1 M d∈mV/\R (.bl<|aH k d) M
theorem iY:bZ aZ cE:=by rintro ds M R ⟨k,d,rfl,_⟩;rfl
def eV:u7:=aK<|bt (u5 cM<|aa (ac 1) ad)<|u4 Pa (ac 1)<|ac 0
theorem jP:C6 aZ 2 eV:=by
 rintro ds M R ⟨k,d,rfl,D,h⟩;unfold eV;walk_at"dl";refine⟨d,rfl,D,?_⟩;cases d with
 |int i=>simp only[qo,↓reduceIte];exact ar.now h
 |_=>simp only[qo,E3,↓reduceIte];exact ar.now h
theorem cu(T:Tops P w K mg base):x5 P w K mg base 2 "is_whole_from" cE aZ:=x5.byD (N:=["least","thing"]) T.b T.f_is_whole_from (by walk_at"sc") iY (by have:=mx T;walk_at"dv") jP
noncomputable def oG(k:Int):D->Bool
 |.tup xs=>(xs.length:Int)==k
 |_=>b7
def aU:A4:=λds M R=>∃(k:Int) (d:D),ds=[.int k,d]/\A1 M d∈mV/\R (.bl<|oG k d) M
theorem mF:bZ aU dI:=by rintro ds M R ⟨k,d,rfl,_⟩;rfl
def ie:u7:=aK<|bt (u5 fg<|aa (ac 1)<|aa (dC<|.ty "tuple") ad)<|u4 A6 (u5 eJ<|aa (ac 1) ad)<|ac 0
theorem mZ:C6 aU 2 ie:=by
 rintro ds M R ⟨k,d,rfl,D,h⟩;unfold ie;cases d with
 |ref n=>have e:=bv D;simp only[A1]at e;walk_at"dl";simp only[e];exact⟨by decide,bc<|ar.now h⟩
 |ty n=>simp only[A1]at D;exact r9 D<|by decide
 |tup xs=>walk_at"dl";exact⟨by decide,aM ⟨⟨rfl,rfl⟩,ar.now h⟩⟩
 |_=>walk_at"dl";exact⟨by decide,bc<|ar.now h⟩
theorem bD(T:Tops P w K mg base):x5 P w K mg base 1 "is_tuple_of" dI aU:=x5.byD (N:=["many","thing"]) T.b T.f_is_tuple_of (by walk_at"sc") mF (by walk_at"dv") mZ
noncomputable def aN(M:u8):List D->Bool
 |a::b::r=>z7 M v6 a b&&aN M (b::r)
 |_=>a9
theorem we(M:u8):∀xs:List D,((C3<|xs.length-1).map λi=>z7 M v6 (xs.getD i .non)<|xs.getD (i+1) .non).all id=aN M xs
 | []=>rfl
 | [a]=>rfl
 |a::b::r=>by
  have ih:=we M<|b::r;have e:(a::b::r).length-1=(b::r).length-1+1:=by simp
  rw[e,List.range_succ_eq_map,B9,F9,MG];show (z7 M v6 a b&&_)=(z7 M v6 a b&&aN M (b::r))
  rw[<-ih];rfl
theorem Jm(h:IN M d xs)(q:Q (.int (xs.length:Int)) M):eJ [d] M Q:=by rcases h with⟨n,rfl,L⟩|rfl;exact⟨_,L,q⟩;exact q
theorem Jo{M:u8}{d:D}{xs:List D}(h:IN M d xs){Q:DK}{i:Int}(c:0<=i)(h1:i<xs.length)(q:Q (xs.getD i.toNat .non) M):w9 d (.int i) M Q:=by
 have b:i.toNat<xs.length:=by lia
 have e:atI xs i=a7 (xs.getD i.toNat .non):=by
  have a:i=((i.toNat:Nat):Int):=by lia
  have:=bp (j:=i.toNat)<|show xs[i.toNat]?=a7 (xs.getD i.toNat .non) by simp[b,L3]
  rwa [<-a]at this
 rcases h with⟨n,rfl,L⟩|rfl;refine⟨_,L,?_⟩;rw[e];exact q;show match atI xs i with|some d=>Q d M|none=>False
 rw[e];exact q
theorem Fe(f:Hd a)(d:Hd b):x3 M v6 a=a9/\x3 M v6 b=a9/\iI M v6 a b=a9:=by obtain⟨x,k,rfl⟩:=f;obtain⟨y,l,rfl⟩:=d;refine⟨rfl,rfl,?_⟩;show (if v7 M 29 (.str x) (.str y)=a9 then(if v7 M 29 (.int k) (.int l)=a9 then a9 else a9)else a9)=a9;split;split<;>rfl;rfl
def cq:A4:=λds M R=>∃(d:D) (xs:List D),ds=[d]/\IN M d xs/\((∀x∈xs,Hd x)\/∀x∈xs,Ix x)/\xs.length<=1000/\R (.bl<|aN M xs) M
theorem pD:bZ cq gB:=by rintro ds M R ⟨d,xs,rfl,_⟩;rfl
def kY:u7:=aK<|u5 Ce<|aa (F7 1 [0] (jf<|aa (dC<|.int 1)<|aa (u5 eJ<|aa (ac 0) ad) ad) (av 0) je<|u4 JA (u4 w9 (ac 1)<|u4 zI (ac 0)<|dC<|.int 1)<|u4 w9 (ac 1)<|ac 0) ad
theorem qj:C6 cq 1 kY:=by
 rintro ds M R ⟨d,xs,rfl,t,x,r,h⟩;simp only[kY,aK,u5,aa,ad,F7,jf,dC,ac,bT,IL,B9,Oc,Oy,G5,OF,On,C5,Fn,Pw,List.replicate_succ,Nu,OV];refine Jm t ⟨⟨by lia,by lia,by lia,by lia⟩,?_⟩;have p:(((xs.length:Int)-1).toNat)=xs.length-1:=by lia
 rw[p];have m:∀i,i<xs.length->xs.getD i .non∈xs:=λi hi=>by rw[L3,C4 hi];exact G6 hi
 have n:∀a∈xs,∀b∈xs,∃F s,a=.tup F/\b=.tup s/\x3 M v6 a=a9/\x3 M v6 b=a9/\iI M v6 a b=a9:=λa j b l=>by rcases x with x|x;have c:=Fe (M:=M) (x a j)<|x b l;obtain⟨_,_,e⟩:=x a j;obtain⟨_,_,f⟩:=x b l;exact⟨_,_,e,f,c⟩;have c:=jz (M:=M) (x a j)<|x b l;obtain⟨_,_,e,_⟩:=id<|x a j;obtain⟨_,_,f,_⟩:=id<|x b l;exact⟨_,_,e,f,As M _ _<|cC<|x a j,As M _ _<|cC<|x b l,c⟩
 refine bb (λk=>match k with|.int i=>.bl (z7 M v6 (xs.getD (i-1).toNat .non)<|xs.getD i.toNat .non)|_=>.non) (λS=>∃a,S=[a,a7 d]) trivial _ _ _ ?_ ⟨_,rfl⟩ ?_ ?_;rintro y Q S ⟨a,rfl⟩;obtain⟨i,hi⟩:=NP Q;obtain⟨h1,rfl⟩:=ik.mp hi;refine⟨[a7<|.int<|1+(i:Int),a7 d],⟨_,rfl⟩,λY q=>?_⟩;simp only[av,u4,ac,dC,zI,List.set_cons_zero,OF,On,OV];refine Jo t (by lia) (by lia)<|Jo t (by lia) (by lia) ?_;obtain⟨u,v,e,f,o⟩:=n _ (m ((1+(i:Int)-1).toNat)<|by lia) _ (m ((1+(i:Int)).toNat)<|by lia);have g:Y (.bl<|z7 M v6 (xs.getD (1+(i:Int)-1).toNat .non)<|xs.getD (1+(i:Int)).toNat .non) [a7<|.int<|1+(i:Int),a7 d] M:=q;rw[e,f]at o g ⊢;exact⟨o,g⟩;simp only[Fn,cO];exact aq (by lia);refine⟨(C3<|xs.length-1).map λi=>z7 M v6 (xs.getD i .non)<|xs.getD (i+1) .non,?_,?_⟩;rw[G5];have:(lN 1<|xs.length-1).map (λk=>match k with|.int i=>D.bl (z7 M v6 (xs.getD (i-1).toNat .non)<|xs.getD i.toNat .non)|_=>.non)=bls ((C3<|xs.length-1).map λi=>z7 M v6 (xs.getD i .non)<|xs.getD (i+1) .non):=by unfold lN bls;rw[F9,F9];refine Qr λi _=>?_;show D.bl _=D.bl _;rw[show ((1:Int)+(i:Int)-1).toNat=i by lia,show ((1:Int)+(i:Int)).toNat=i+1 by lia]
 rw[this];exact ae;rw[we];exact ar.bl h dg
theorem jH(T:Tops P w K mg base):x5 P w K mg base 1 "is_rising" gB cq:=x5.byD (N:=["things"]) T.b T.f_is_rising (by walk_at"sc") pD (by walk_at"dv") qj
noncomputable def dP(x:c9):Bool:=!bh x "a" && !bh "z" x
def da:A4:=λds M R=>∃x:c9,ds=[.str x]/\R (.bl<|dP x) M
theorem pF:bZ da gF:=by rintro ds M R ⟨x,rfl,_⟩;rfl
def lE:u7:=aK<|cT MD MD (dC<|.str "a") (ac 0)<|dC<|.str "z"
theorem ql:C6 da 1 lE:=by
 rintro ds M R ⟨x,rfl,h⟩;unfold lE;walk_at"dl";unfold dP at h;cases e:bh x "a" with
 |true=>rw[e]at h;exact bc<|ar.now h
 |false=>rw[e]at h;exact aM<|ar.now h
theorem sd(T:Tops P w K mg base):x5 P w K mg base 1 "is_letter" gF da:=x5.byD (N:=["sign"]) T.b T.f_is_letter (by walk_at"sc") pF (by walk_at"dv") ql
noncomputable def ij(c:Nat):Bool:=decide (32<=c)&&decide (c<=126)
def fT:A4:=λds M R=>∃c:Nat,ds=[.str ⟨#[c]⟩]/\R (.bl<|ij c) M
theorem uD:bZ fT md:=by rintro ds M R ⟨x,rfl,_⟩;rfl
def qQ:u7:=aK<|cT MD MD (dC<|.int 32) (u5 II<|aa (ac 0) ad)<|dC<|.int 126
theorem wT:C6 fT 1 qQ:=by rintro ds M R ⟨c,rfl,h⟩;unfold qQ;walk_at"dl";refine⟨rfl,?_⟩;rw[show (#[c]:Array Nat).getD 0 0=c from rfl];unfold ij at h;by_cases h1:32<=c;rw[dT_ h1]at h;rw[dT_<|show (32:Int)<=(c:Int) by lia];refine aM<|ar.now ?_;rw[show decide ((c:Int)<=126)=decide (c<=126) by rw[Ni];simp;lia];simpa using h;rw[dF_ h1]at h;rw[dF_<|show ¬(32:Int)<=(c:Int) by lia];exact bc<|ar.now<|by simpa using h
theorem xA(T:Tops P w K mg base):x5 P w K mg base 1 "is_sign" md fT:=x5.byD (N:=["sign"]) T.b T.f_is_sign (by walk_at"sc") uD (by walk_at"dv") wT
noncomputable def bI(c:Nat):Bool:=decide (97<=c)&&decide (c<=122)
noncomputable def iB:D->Bool
 |.str x=>decide (1<=x.length)&&decide (x.length<=8)&&x.cps.toList.all bI
 |_=>b7
theorem sF(c:Nat):dP ⟨#[c]⟩=bI c:=by
 have t:bh ⟨#[c]⟩ "a" = decide (c<97):=by unfold bh;rw[show (AA1 "a").cps.toList=[97]from by decide +kernel,Ni];simp[NC]
 have l:bh "z" ⟨#[c]⟩=decide (122<c):=by unfold bh;rw[show (AA1 "z").cps.toList=[122]from by decide +kernel,Ni];simp[NC]
 unfold dP bI;rw[t,l,Ni];simp
def fV:A4:=λds M R=>∃d,ds=[d]/\mS M d/\R (.bl<|iB d) M
theorem uG:bZ fV mh:=by rintro ds M R ⟨x,rfl,_⟩;rfl
theorem zA(x:c9):((signs x).map λd=>match d with|.str y=>D.bl (dP y)|_=>.bl b7)=bls (x.cps.toList.map bI):=by unfold signs bls;rw[F9,F9];refine Qr λc _=>?_;show D.bl (dP ⟨#[c]⟩)=D.bl (bI c);rw[sF]
def lD:u7:=aK<|bt (cT MD MD (dC<|.int 1) (u5 eJ<|aa (ac 0) ad)<|dC<|.int 8)<|u5 Ce<|aa (F7 1 [] (bF<|ac 0) (av 0) je<|u5 da<|aa (ac 0) ad) ad
def qT:u7:=aB (z9 (dz<|al<|u5 fg<|aa (ac 0)<|aa (dC<|.ty "str") ad) (aK<|dC<|.bl b7) ay)<|lD
theorem wW:C6 fV 1 qT:=by
 rintro ds M R ⟨d,rfl,⟨f,l⟩,h⟩;simp only[qT,lD];cases d with
 |str x=>have j:=l x rfl;walk_at"dl";refine⟨by decide,?_⟩;rw[show fK "str" "str" = a9 from rfl];refine bc ⟨j,?_⟩;simp only[iB]at h;by_cases h1:1<=x.length;rw[dT_ h1]at h;rw[dT_<|show (1:Int)<=(x.length:Int) by lia];refine aM ?_;by_cases g:x.length<=8;rw[dT_ g]at h;rw[dT_<|show (x.length:Int)<=8 by lia];refine aM ?_;refine bb (λd=>match d with|.str y=>D.bl (dP y)|_=>.bl b7) (λS=>∃a,S=[a]) trivial _ _ _ ?_ ⟨_,rfl⟩ ?_ ?_;rintro y Q S ⟨a,rfl⟩;obtain⟨c,_,rfl⟩:=A8.mp Q;exact⟨_,⟨_,rfl⟩,λY i=>⟨_,rfl,i⟩⟩;simp only[signs,x6,Fn,Nat.zero_add,<-aA];exact aq (by lia);refine⟨x.cps.toList.map bI,?_,?_⟩;rw[G5,zA];exact ae;refine ar.bl ?_ dg;simpa using h;rw[dF_ g]at h;rw[dF_<|show ¬(x.length:Int)<=8 by lia];refine bc<|ar.now ?_;simpa using h;rw[dF_ h1]at h;rw[dF_<|show ¬(1:Int)<=(x.length:Int) by lia];exact bc<|ar.now<|by simpa using h
 |non=>walk_at"dl";exact⟨by decide,aM<|ar.now h⟩
 |bl b=>walk_at"dl";exact⟨by decide,aM<|ar.now h⟩
 |int b=>walk_at"dl";exact⟨by decide,aM<|ar.now h⟩
 |tup b=>walk_at"dl";exact⟨by decide,aM<|ar.now h⟩
 |ty b=>exact r9 f<|by simp only[A1];decide
 |ref n=>have e:=bv f;simp only[A1]at e;walk_at"dl";rw[e];exact⟨by decide,aM<|ar.now h⟩
theorem xC(T:Tops P w K mg base):x5 P w K mg base 2 "is_name" mh fV:=x5.byD (N:=["thing"]) T.b T.f_is_name (by walk_at"sc") uG (by have:=sd T;walk_at"dv") wW
noncomputable def cP:D->Bool
 |.str x=>decide (1<=x.length)&&decide (x.length<=60)&&x.cps.toList.all ij
 |_=>b7
def cY:A4:=λds M R=>∃d,ds=[d]/\mS M d/\R (.bl<|cP d) M
theorem pB:bZ cY gv:=by rintro ds M R ⟨x,rfl,_⟩;rfl
noncomputable def Jr(d:D):D:=.bl<|ij<|Pc d
theorem zy(x:c9):(L2.signs x).map Jr=bls (x.cps.toList.map ij):=by unfold L2.signs bls;rw[F9,F9];rfl
def ig:u7:=aK<|bt (cT MD MD (dC<|.int 1) (u5 eJ<|aa (ac 0) ad)<|dC<|.int 60)<|u5 Ce<|aa (F7 1 [] (bF<|ac 0) (av 0) je<|u5 fT<|aa (ac 0) ad) ad
def kX:u7:=aB (z9 (dz<|al<|u5 fg<|aa (ac 0)<|aa (dC<|.ty "str") ad) (aK<|dC<|.bl b7) ay)<|ig
theorem qi:C6 cY 1 kX:=by
 rintro ds M R ⟨d,rfl,⟨f,l⟩,h⟩;simp only[kX,ig];cases d with
 |str x=>have i:=l x rfl;walk_at"dl";refine⟨by decide,bc ⟨i,?_⟩⟩;simp only[cP]at h;by_cases h1:1<=x.length;rw[dT_ h1]at h;rw[dT_<|show (1:Int)<=(x.length:Int) by lia];refine aM ?_;by_cases g:x.length<=60;rw[dT_ g]at h;rw[dT_<|show (x.length:Int)<=60 by lia];refine aM ?_;refine bb Jr (λS=>∃a,S=[a]) trivial _ _ _ ?_ ⟨_,rfl⟩ ?_ ?_;rintro y Q S ⟨a,rfl⟩;obtain⟨c,_,rfl⟩:=A8.mp Q;exact⟨_,⟨_,rfl⟩,λY D=>⟨c,rfl,D⟩⟩;simp only[L2.signs,x6,Fn,Nat.zero_add,<-aA];exact aq (by lia);refine⟨x.cps.toList.map ij,?_,?_⟩;rw[G5,zy];exact ae;refine ar.bl ?_ dg;simpa using h;rw[dF_ g]at h;rw[dF_<|show ¬(x.length:Int)<=60 by lia];refine bc<|ar.now ?_;simpa using h;rw[dF_ h1]at h;rw[dF_<|show ¬(1:Int)<=(x.length:Int) by lia];exact bc<|ar.now<|by simpa using h
 |non=>walk_at"dl";exact⟨by decide,aM<|ar.now h⟩
 |bl b=>walk_at"dl";exact⟨by decide,aM<|ar.now h⟩
 |int b=>walk_at"dl";exact⟨by decide,aM<|ar.now h⟩
 |tup b=>walk_at"dl";exact⟨by decide,aM<|ar.now h⟩
 |ty b=>exact r9 f<|by simp only[A1];decide
 |ref n=>have e:=bv f;simp only[A1]at e;walk_at"dl";rw[e];exact⟨by decide,aM<|ar.now h⟩
theorem rY(T:Tops P w K mg base):x5 P w K mg base 2 "is_saying" gv cY:=x5.byD (N:=["thing"]) T.b T.f_is_saying (by walk_at"sc") pB (by have:=xA T;walk_at"dv") qi
noncomputable def bw:D->D
 |.tup (a::_)=>a
 |_=>.non
def cr:A4:=λds M R=>∃xs:List D,ds=[.tup xs]/\(∀x∈xs,∃a r,x=.tup (a::r))/\R (.ref M.length) (M++[.lst<|xs.map bw])
theorem pG:bZ cr gG:=by rintro ds M R ⟨xs,rfl,_⟩;rfl
def lI:u7:=aK<|F7 1 [] (bF<|ac 0) (av 0) je<|u4 w9 (ac 0)<|dC<|.int 0
theorem qm:C6 cr 1 lI:=by rintro ds M R ⟨xs,rfl,x,h⟩;simp only[lI];walk_at"dl";intro g;refine bb bw (λS=>∃a,S=[a]) trivial _ _ _ ?_ ⟨_,rfl⟩ ?_ ?_;rintro y Q S ⟨a,rfl⟩;obtain⟨b,r,rfl⟩:=x y Q;refine⟨[a7<|.tup<|b::r],⟨_,rfl⟩,λY D=>?_⟩;walk_at"dl";exact D;simpa using g;exact .inl h
theorem jI(T:Tops P w K mg base):x5 P w K mg base 1 "firsts_of" gG cr:=x5.byD (N:=["pairs"]) T.b T.f_firsts_of (by walk_at"sc") pG (by walk_at"dv") qm
noncomputable def dk(ps:List (c9×Int)):D->Int
 |.str x=>((ps.find? λp=>decide<|p.1=x).map (·.2)).getD 0
 |_=>0
def fR:A4:=λds M R=>∃(ps:List (c9×Int)) (r:List D) (d:D),ds=[.tup<|.tup (ps.map aw)::r,d]/\x3 M v6 d=a9/\R (.int<|dk ps d) M
theorem uB:bZ fR lY:=by rintro ds M R ⟨ps,r,d,rfl,_⟩;rfl
theorem mB(p:c9×Int)(ps:List (c9×Int))(d:D)(M:u8):dk (p::ps) d=if v7 M v6 (.str p.1) d=a9 then p.2 else dk ps d:=by
 cases d with
 |str x =>
  show ((List.find? _<|p::ps).map _).getD 0=if (p.1==x)=a9 then _ else _
  by_cases h:p.1=x;subst h;simp;rw[q9<|by simpa using h];simp[dk,MQ,h]
 |_=>rfl
def kL:u7:=aK<|dC<|.int 0
def qO:u7:=aB (sN (bF<|u4 w9 (ac 0)<|dC<|.int 0) (jW 2<|bE (av 2)<|bE (av 3) jX)<|z9 (al<|u4 A6 (ac 2)<|ac 1) (aK<|ac 3) ay)<|kL
theorem wR:C6 fR 4 qO:=by
 rintro ds M R ⟨ps,r,d,rfl,ok,h⟩;simp only[qO,kL];walk_at"dl";intro _;refine fN (λys S c=>∃qs a b,ys=qs.map aw/\c=M/\S=[a7<|.tup<|.tup (ps.map aw)::r,a7 d,a,b]/\dk ps d=dk qs d) ?_ ?_ _ _ _ ⟨ps,_,_,rfl,rfl,rfl,rfl⟩;rintro S c ⟨qs,a,b,q,rfl,rfl,e⟩;have:qs=[]:=by cases qs<;>simp_all
 subst this;rw[e]at h;exact⟨trivial,ar.now<|by cases d<;>exact h⟩;rintro x xs S c ⟨qs,a,b,q,rfl,rfl,e⟩ L f;cases qs with
 |nil=>cases q
 |cons p qs=>rw[B9]at q;injection q with h1 h2;subst h1;refine⟨trivial,?_⟩;unfold aw;walk_at"dl";refine⟨trivial,⟨rfl,ok⟩,?_⟩;rw[mB p qs d c]at e;by_cases q:v7 c v6 (.str p.1) d=a9;rw[p9 q]at e;rw[q];refine aM<|ar.now ?_;rw[<-e];exact h;rw[q9 q]at e;rw[OC.mpr q];exact bc<|F5.now<|f _ _ ⟨qs,_,_,h2,rfl,rfl,e⟩
theorem xy(T:Tops P w K mg base):x5 P w K mg base 1 "many_of" lY fR:=x5.byD (N:=["house","name","person","many"]) T.b T.f_many_of (by walk_at"sc") uB (by walk_at"dv") wR
noncomputable def nh(xs:List c9):D->Bool
 |.str x=>xs.any λy=>y==x
 |_=>b7
theorem Az(h:∀x,d≠.str x):nh xs d=b7:=by
 cases d with
 |str x=>exact r9 rfl<|h x
 |_=>rfl
theorem Mv{α:Type}(xs:List α):(xs.any λ_=>b7)=b7:=by
 induction xs with
 |nil=>rfl
 |cons a l i=>rw[Nh,i];rfl
theorem Hr(xs:List c9):NE M d (xs.map D.str)=nh xs d:=by
 unfold NE;rw[List.any_map];cases d with
 |str x=>show (xs.any λy=>v7 M v6 (.str y)<|.str x)=xs.any λy=>y==x;congr 1
 |_=>exact Mv xs
theorem bne_f(b:Bool):(b != b7)=b:=by cases b<;>rfl
theorem FH{M:u8}{n:Nat}(xs:List c9):(xs.map D.str).all (x3 M n)=a9:=by rw[Ou,D7];intro x _;exact aF
theorem uR(g:w6 M n d)(p:M <+: B)(h:R (.bl<|nh xs d) M):N4 d (.ref B.length) (B++[.lst<|xs.map D.str]) (ar M R):=by show ∃ys,ao (B++[MO.lst<|xs.map D.str]) B.length ys/\(x3 (B++[MO.lst<|xs.map D.str]) v6 d=a9/\ys.all (x3 (B++[MO.lst<|xs.map D.str]) v6)=a9)/\ar M R (.bl<|NE (B++[MO.lst<|xs.map D.str]) d ys != b7) (B++[MO.lst<|xs.map D.str]);refine⟨xs.map D.str,ae,⟨(g.grow<|p.trans dg).ok,FH xs⟩,?_⟩;rw[Hr,bne_f];exact ar.bl h<|p.trans dg
theorem mL(ps:List (c9×Int)):(ps.map aw).map bw=(ps.map (·.1)).map D.str:=by rw[F9,F9];rfl
def cZ:A4:=λds M R=>∃(n:Nat) (ps:List (c9×Int)) (r:List D) (d:D),ds=[.tup<|.tup (ps.map aw)::r,d]/\w6 M n d/\R (.bl (nh (ps.map (·.1)) d)) M
theorem pE:bZ cZ gD:=by rintro ds M R ⟨n,ps,r,d,rfl,_⟩;rfl
def kZ:u7:=aK<|u4 N4 (ac 1)<|u5 cr<|aa (u4 w9 (ac 0)<|dC<|.int 0) ad
theorem qk:C6 cZ 2 kZ:=by rintro ds M R ⟨n,ps,r,d,rfl,g,h⟩;simp only[kZ];walk_at"dl";refine⟨ps.map aw,rfl,λx a=>?_,?_⟩;obtain⟨p,_,rfl⟩:=A8.mp a;exact⟨_,_,rfl⟩;rw[mL];exact uR g (Qe M) h
theorem rZ(T:Tops P w K mg base):x5 P w K mg base 2 "is_person" gD cZ:=x5.byD (N:=["house","thing"]) T.b T.f_is_person (by walk_at"sc") pE (by have:=jI T;walk_at"dv") qk
noncomputable def aV(p:c9×List c9):D:=.tup [.str p.1,.tup<|p.2.map .str]
theorem mK(a:List (c9×List c9)):(a.map aV).map bw=(a.map (·.1)).map D.str:=by rw[F9,F9];rfl
def du:A4:=λds M R=>∃(n:Nat) (p:D) (a:List (c9×List c9)) (r:List D) (d:D),ds=[.tup<|p::.tup (a.map aV)::r,d]/\w6 M n d/\R (.bl (nh (a.map (·.1)) d)) M
theorem uE:bZ du me:=by rintro ds M R ⟨n,p,a,r,d,rfl,_⟩;rfl
def qR:u7:=aK<|u4 N4 (ac 1)<|u5 cr<|aa (u4 w9 (ac 0)<|dC<|.int 1) ad
theorem wU:C6 du 2 qR:=by rintro ds M R ⟨n,b,s,r,d,rfl,g,h⟩;simp only[qR];walk_at"dl";refine⟨s.map aV,rfl,λx a=>?_,?_⟩;obtain⟨p,_,rfl⟩:=A8.mp a;exact⟨_,_,rfl⟩;rw[mK];exact uR g (Qe M) h
theorem nX(T:Tops P w K mg base):x5 P w K mg base 2 "is_room" me du:=x5.byD (N:=["house","thing"]) T.b T.f_is_room (by walk_at"sc") uE (by have:=jI T;walk_at"dv") wU
noncomputable def aW(ps:List (c9×Int)):D->Bool
 |.tup [a,.int k]=>decide (0<=k)&&decide (k<dk ps a)
 |_=>b7
def dw:A4:=λds M R=>∃(ps:List (c9×Int)) (r:List D) (d:D),ds=[.tup<|.tup (ps.map aw)::r,d]/\A1 M d∈mV/\(∀a b,d=.tup [a,b]->x3 M v6 a=a9/\A1 M b∈mV)/\R (.bl<|aW ps d) M
theorem uH:bZ dw mi:=by rintro ds M R ⟨ps,r,d,rfl,_⟩;rfl
def qU:u7:=aK<|bt (u5 aU<|aa (dC<|.int 2)<|aa (ac 1) ad)<|bt (u5 cM<|aa (u4 w9 (ac 1)<|dC<|.int 1) ad)<|cT MD Nc (dC<|.int 0) (u4 w9 (ac 1)<|dC<|.int 1)<|u5 fR<|aa (ac 0)<|aa (u4 w9 (ac 1)<|dC<|.int 0) ad
theorem wX:C6 dw 2 qU:=by
 rintro ds M R ⟨ps,r,d,rfl,D,S,h⟩;simp only[qU];simp only[aK,bt,u5,aa,ad,dC,ac,bT,B9,Oc,Oy,G5,OF,On,C5,Fn,Pw,Nu,OV];refine⟨2,d,rfl,D,?_⟩;by_cases c:∃a b,d=.tup [a,b];obtain⟨a,b,rfl⟩:=c;obtain⟨o,t⟩:=S a b rfl;walk_at"dl";refine aM ⟨b,rfl,t,?_⟩;cases b with
 |int k =>
  simp only[qo,t6];by_cases f:0<=k;rw[dT_ f];simp only[rT,↓reduceIte];refine⟨ps,r,a,rfl,o,ar.now ?_⟩;have e:aW ps (.tup [a,.int k])=decide (k<dk ps a):=by simp[aW,f]
  rw[e]at h;exact h;rw[dF_ f];have e:aW ps (.tup [a,.int k])=b7:=by simp[aW,f]
  rw[e]at h;simp only[rT,↓reduceIte,E3];exact ar.now h
 |_=>simp only[qo,E3,↓reduceIte];exact ar.now h
 have g:oG 2 d=b7:=by
  cases d with
  |tup xs =>
   match xs with
   | []=>rfl
   | [_]=>rfl
   | [a,b]=>exact r9 ⟨a,b,rfl⟩ c
   |_::_::_::_=>simp[oG];lia
  |_=>rfl
 have l:aW ps d=b7:=by unfold aW;split;exact r9 ⟨_,_,rfl⟩ c;rfl
 rw[g];rw[l]at h;simp only[rT,E3,↓reduceIte];exact ar.now h
theorem nY(T:Tops P w K mg base):x5 P w K mg base 2 "is_hand" mi dw:=x5.byD (N:=["house","thing"]) T.b T.f_is_hand (by walk_at"sc") uH (by have:=mx T;have:=bD T;have:=xy T;walk_at"dv") wX
theorem jh(d:D):(∃a b,d=.tup [a,b])\/(oG 2 d=b7/\∀a b,d≠.tup [a,b]):=by
 cases d with
 |tup xs =>
  match xs with
  | []=>exact .inr ⟨rfl,λ_ _ z=>by simp at z⟩
  | [_]=>exact .inr ⟨rfl,λ_ _ z=>by simp at z⟩
  | [a,b]=>exact .inl ⟨a,b,rfl⟩
  |_::_::_::_=>exact .inr ⟨by simp[oG];lia,λ_ _ z=>by simp at z⟩
 |_=>exact .inr ⟨rfl,λ_ _ z=>by cases z⟩
theorem kg(g:w6 M n d):A1 M d∈mV/\∀a b,d=.tup [a,b]->x3 M v6 a=a9/\A1 M b∈mV:=by refine⟨g.thing.1,λa b e=>?_⟩;subst e;obtain⟨_,m,rfl,x⟩:=g.tup;exact⟨(x a<|by simp).ok,(x b<|by simp).thing.1⟩
noncomputable def bm(ps:List (c9×Int)):D->Bool
 |.tup [a,b]=>aH 1 a&&aW ps b
 |_=>b7
theorem lL(h:∀a b,d≠.tup [a,b]):bm ps d=b7:=by unfold bm;split;exact r9 rfl<|h _ _;rfl
def bx:A4:=λds M R=>∃(n:Nat) (ps:List (c9×Int)) (r:List D) (d:D),ds=[.tup<|.tup (ps.map aw)::r,d]/\w6 M n d/\R (.bl<|bm ps d) M
theorem sB:bZ bx iW:=by rintro ds M R ⟨n,ps,r,d,rfl,_⟩;rfl
def nI:u7:=aK<|bt (u5 aU<|aa (dC<|.int 2)<|aa (ac 1) ad)<|bt (u5 aZ<|aa (dC<|.int 1)<|aa (u4 w9 (ac 1)<|dC<|.int 0) ad)<|u5 dw<|aa (ac 0)<|aa (u4 w9 (ac 1)<|dC<|.int 1) ad
theorem tG:C6 bx 2 nI:=by
 rintro ds M R ⟨n,ps,r,d,rfl,g,h⟩;simp only[nI];simp only[aK,bt,u5,aa,ad,dC,ac,bT,B9,Oc,Oy,G5,OF,On,C5,Fn,Pw,Nu,OV];refine⟨2,d,rfl,g.thing.1,?_⟩;rcases jh d with⟨a,b,rfl⟩|⟨t,l⟩
 obtain⟨_,m,rfl,x⟩:=g.tup;have f:=x a (by simp);have e:=x b (by simp);walk_at"dl";refine aM ⟨1,a,rfl,f.thing.1,?_⟩;simp only[bm]at h;cases c:aH 1 a with
 |false=>rw[c]at h;walk_at"ifs";exact ar.now h
 |true=>rw[c]at h;walk_at"ifs";exact⟨ps,r,b,rfl,(kg e).1,(kg e).2,ar.now h⟩
 rw[lL l]at h;rw[t];walk_at"ifs";exact ar.now h
theorem gH(T:Tops P w K mg base):x5 P w K mg base 3 "is_stamp" iW bx:=x5.byD (N:=["house","thing"]) T.b T.f_is_stamp (by walk_at"sc") sB (by have:=cu T;have:=bD T;have:=nY T;walk_at"dv") tG
noncomputable def bN(ps:List (c9×Int)):D->Bool
 |.tup [a,b]=>aW ps a&&aH 1 b
 |_=>b7
theorem iH(h:∀a b,d≠.tup [a,b]):bN ps d=b7:=by unfold bN;split;exact r9 rfl<|h _ _;rfl
def bH:A4:=λds M R=>∃(n:Nat) (ps:List (c9×Int)) (r:List D) (d:D),ds=[.tup<|.tup (ps.map aw)::r,d]/\w6 M n d/\R (.bl<|bN ps d) M
theorem iZ:bZ bH cF:=by rintro ds M R ⟨n,ps,r,d,rfl,_⟩;rfl
def eW:u7:=aK<|bt (u5 aU<|aa (dC<|.int 2)<|aa (ac 1) ad)<|bt (u5 dw<|aa (ac 0)<|aa (u4 w9 (ac 1)<|dC<|.int 0) ad)<|u5 aZ<|aa (dC<|.int 1)<|aa (u4 w9 (ac 1)<|dC<|.int 1) ad
theorem jQ:C6 bH 2 eW:=by
 rintro ds M R ⟨n,ps,r,d,rfl,g,h⟩;simp only[eW];simp only[aK,bt,u5,aa,ad,dC,ac,bT,B9,Oc,Oy,G5,OF,On,C5,Fn,Pw,Nu,OV];refine⟨2,d,rfl,g.thing.1,?_⟩;rcases jh d with⟨a,b,rfl⟩|⟨t,l⟩
 obtain⟨_,m,rfl,x⟩:=g.tup;have f:=x a (by simp);have e:=x b (by simp);walk_at"dl";refine aM ⟨ps,r,a,rfl,(kg f).1,(kg f).2,?_⟩;simp only[bN]at h;cases c:aW ps a with
 |false=>rw[c]at h;walk_at"ifs";exact ar.now h
 |true=>rw[c]at h;walk_at"ifs";exact⟨1,b,rfl,e.thing.1,ar.now h⟩
 rw[iH l]at h;rw[t];walk_at"ifs";exact ar.now h
theorem jS(T:Tops P w K mg base):x5 P w K mg base 3 "is_hand_count" cF bH:=x5.byD (N:=["house","thing"]) T.b T.f_is_hand_count (by walk_at"sc") iZ (by have:=cu T;have:=bD T;have:=nY T;walk_at"dv") jQ
theorem eL(M:u8)(g:w6 M n d):(∃xs,d=.tup xs)\/((fK (A1 M d) "tuple")=b7/\∀xs,d≠.tup xs):=by
 cases d with
 |tup xs=>exact .inl ⟨xs,rfl⟩
 |ref i=>exact .inr ⟨by rw[bv g.thing.1];decide,λ_ z=>by cases z⟩
 |ty t=>exact .inr ⟨by simp only[A1];decide,λ_ z=>by cases z⟩
 |_=>exact .inr ⟨by simp only[A1];decide,λ_ z=>by cases z⟩
theorem mH(h:aW ps d=a9):Hd d:=by
 unfold aW at h;split at h;rename_i a k;cases a with
 |str x=>exact⟨x,k,rfl⟩
 |_=>have h':(decide (0<=k)&&decide (k<0))=a9:=h;rw[B8,s9,s9]at h';lia
 cases h
theorem wE(h:bN ps d=a9):∃a b,d=.tup [a,b]/\aW ps a=a9/\aH 1 b=a9:=by
 rcases jh d with⟨a,b,rfl⟩|⟨_,e⟩
 simp only[bN,B8]at h;exact⟨a,b,rfl,h.1,h.2⟩;rw[iH e]at h;cases h
noncomputable def ca(M:u8)(ps:List (c9×Int)):D->Bool
 |.tup xs=>xs.all (bN ps)&&aN M (xs.map bw)
 |_=>b7
theorem nu(h:∀xs,d≠.tup xs):ca M ps d=b7:=by unfold ca;split;exact r9 rfl<|h _;rfl
theorem Lq(f:Hd a)(d:Hd b):z7 M v6 a b=z7 M' v6 a b:=by obtain⟨x,k,rfl⟩:=f;obtain⟨y,l,rfl⟩:=d;rfl
theorem rL:∀{xs:List D},(∀x∈xs,Hd x)->aN M xs=aN M' xs
 | [],_=>rfl
 | [_],_=>rfl
 |a::b::r,h=>by
  show (z7 M v6 a b&&aN M (b::r))=(z7 M' v6 a b&&aN M' (b::r))
  rw[Lq (M':=M') (h a<|by simp) (h b<|by simp),rL (M':=M') λx hx=>h x<|C0 _ hx]
theorem Fp{C:u8}{k:Nat}{xs:List D}{p:D->Bool}(h:ao C k (xs.map λd=>.bl<|p d)):ao C k (bls<|xs.map p):=by unfold bls;rw[F9];exact h
def cX:A4:=λds M R=>∃(n:Nat) (ps:List (c9×Int)) (r:List D) (d:D),ds=[.tup<|.tup (ps.map aw)::r,d]/\w6 M n d/\R (.bl<|ca M ps d) M
theorem pA:bZ cX gs:=by rintro ds M R ⟨n,ps,r,d,rfl,_⟩;rfl
def ic:u7:=aK<|u5 cq<|aa (F7 1 [] (bF<|ac 1) (av 0) je<|u4 w9 (ac 0)<|dC<|.int 0) ad
def kW:u7:=aB (z9 (G4 (dz<|al<|u5 fg<|aa (ac 1)<|aa (dC<|.ty "tuple") ad)<|dz<|al<|u5 Ce<|aa (F7 1 [0] (bF<|ac 1) (av 0) je<|u5 bH<|aa (ac 1)<|aa (ac 0) ad) ad) (aK<|dC<|.bl b7) ay)<|ic
theorem qh:C6 cX 2 kW:=by
 rintro ds M R ⟨n,ps,r,d,rfl,g,h⟩;simp only[kW,ic];rcases eL M g with⟨xs,rfl⟩|⟨t,l⟩
 obtain⟨o,m,rfl,k⟩:=g.tup;walk_at"dl";refine⟨by decide,?_⟩;rw[show fK "tuple" "tuple" = a9 from rfl];walk_at"ifs";intro z;refine bb (λd=>.bl<|bN ps d) (λS=>∃a,S=[a,a7<|.tup<|.tup (ps.map aw)::r]) trivial _ _ _ ?_ ⟨_,rfl⟩ (by simpa using z) ?_;rintro y Q S ⟨a,rfl⟩;exact⟨[a7 y,a7<|.tup<|.tup (ps.map aw)::r],⟨_,rfl⟩,λY D=>⟨m,ps,r,y,rfl,k y Q,D⟩⟩;refine⟨xs.map<|bN ps,Fp (by rw[G5];exact ae),?_⟩;simp only[ca]at h;cases f:(xs.map<|bN ps).all id with
 |false=>rw[Ou]at f;rw[show xs.all (bN ps)=b7 from f]at h;walk_at"ifs";exact ar.bl h dg
 |true =>
  walk_at"ifs";rw[Ou]at f;rw[show xs.all (bN ps)=a9 from f,E5]at h;have p:∀x∈xs,∃a b,x=.tup [a,b]/\Hd a:=λx i=>by obtain⟨a,b,e,c,_⟩:=wE<|D7.mp f x i;exact⟨a,b,e,mH c⟩
  have j:∀x∈xs.map bw,Hd x:=λx i=>by obtain⟨y,Q,rfl⟩:=A8.mp i;obtain⟨a,b,rfl,c⟩:=p y Q;exact c
  intro _;refine bb bw (λS=>∃a,S=[a]) trivial _ _ _ ?_ ⟨_,rfl⟩ (by simpa using z) ?_;rintro y Q S ⟨a,rfl⟩;obtain⟨a,b,rfl,_⟩:=p y Q;refine⟨[a7<|.tup [a,b]],⟨_,rfl⟩,λY D=>?_⟩;walk_at"dl";exact D;rw[G5];refine⟨_,xs.map bw,rfl,.inl ⟨_,rfl,ae⟩,.inl j,by rw[x6];lia,?_⟩;rw[rL (M':=M) j];exact ar.bl h<|by rw[Nk];exact NO _ _
 rw[nu l]at h;walk_at"dl";refine⟨⟨g.thing.1,by decide⟩,?_⟩;simp only[A1]at t;rw[t];walk_at"ifs";exact ar.now h
theorem rX(T:Tops P w K mg base):x5 P w K mg base 4 "is_vector" gs cX:=x5.byD (N:=["house","thing"]) T.b T.f_is_vector (by walk_at"sc") pA (by have:=jH T;have:=jS T;walk_at"dv") qh
noncomputable def K1(z:c9):D->Bool
 |.str x=>x==z
 |_=>b7
theorem fy:v7 M v6 d (.str z)=K1 z d:=by
 cases d with
 |str x=>exact bJ
 |_=>rfl
noncomputable def ky(ps:List (c9×Int))(rs:List (c9×List c9)):D->Bool
 |.tup [a,b]=>if K1 (AA1 "room") a=a9 then nh (rs.map (·.1)) b else if K1 (AA1 "person") a=a9 then nh (ps.map (·.1)) b else K1 (AA1 "under") a&&bm ps b
 |_=>b7
theorem oE(h:∀a b,d≠.tup [a,b]):ky ps rs d=b7:=by unfold ky;split;exact r9 rfl<|h _ _;rfl
def fS:A4:=λds M R=>∃(n:Nat) (ps:List (c9×Int)) (a:List (c9×List c9)) (r:List D) (d:D),ds=[.tup<|.tup (ps.map aw)::.tup (a.map aV)::r,d]/\w6 M n d/\R (.bl<|ky ps a d) M
theorem uC:bZ fS lZ:=by rintro ds M R ⟨n,ps,a,r,d,rfl,_⟩;rfl
def kR:u7:=aK<|bt (u4 A6 (u4 w9 (ac 1)<|dC<|.int 0)<|dC<|.str "under")<|u5 bx<|aa (ac 0)<|aa (u4 w9 (ac 1)<|dC<|.int 1) ad
def kT:u7:=aB (z9 (al<|u4 A6 (u4 w9 (ac 1)<|dC<|.int 0)<|dC<|.str "person") (aK<|u5 cZ<|aa (ac 0)<|aa (u4 w9 (ac 1)<|dC<|.int 1) ad) ay)<|kR
def kU:u7:=aB (z9 (al<|u4 A6 (u4 w9 (ac 1)<|dC<|.int 0)<|dC<|.str "room") (aK<|u5 du<|aa (ac 0)<|aa (u4 w9 (ac 1)<|dC<|.int 1) ad) ay)<|kT
def qP:u7:=aB (z9 (dz<|al<|u5 aU<|aa (dC<|.int 2)<|aa (ac 1) ad) (aK<|dC<|.bl b7) ay)<|kU
theorem wS:C6 fS 2 qP:=by
 rintro ds M R ⟨n,ps,s,r,d,rfl,g,h⟩;simp only[qP];walk_at"dl";refine⟨2,d,rfl,g.thing.1,?_⟩;rcases jh d with⟨a,b,rfl⟩|⟨t,l⟩
 obtain⟨_,m,rfl,x⟩:=g.tup;have f:=x a (by simp);have e:=x b (by simp);rw[show oG 2 (.tup [a,b])=a9 from rfl];walk_at"ifs";simp only[kU];walk_at"dl";refine⟨⟨f.ok,aF⟩,?_⟩;rw[fy];simp only[ky]at h;cases t:K1 (AA1 "room") a with
 |true=>rw[t,p9 rfl]at h;exact aM ⟨m,_,s,r,b,rfl,e,ar.now h⟩
 |false =>
  rw[t,q9 K0]at h;refine bc ?_;simp only[kT];walk_at"dl";refine⟨⟨f.ok,aF⟩,?_⟩;rw[fy];cases l:K1 (AA1 "person") a with
  |true=>rw[l,p9 rfl]at h;exact aM ⟨m,ps,_,b,rfl,e,ar.now h⟩
  |false =>
   rw[l,q9 K0]at h;refine bc ?_;simp only[kR];walk_at"dl";refine⟨⟨f.ok,aF⟩,?_⟩;rw[fy];cases c:K1 (AA1 "under") a with
   |true=>rw[c,E5]at h;walk_at"ifs";exact⟨m,ps,_,b,rfl,e,ar.now h⟩
   |false=>rw[c,J7]at h;walk_at"ifs";exact ar.now h
 rw[t];walk_at"ifs";rw[oE l]at h;exact ar.now h
theorem xz(T:Tops P w K mg base):x5 P w K mg base 4 "is_what" lZ fS:=x5.byD (N:=["house","thing"]) T.b T.f_is_what (by walk_at"sc") uC (by have:=bD T;have:=rZ T;have:=nX T;have:=gH T;walk_at"dv") wS
noncomputable def uQ:D->Bool
 |.non=>a9
 |_=>b7
noncomputable def isBl:D->Bool
 |.bl _=>a9
 |_=>b7
theorem Bh(g:w6 M n d):fK (A1 M d) "bool" = isBl d:=by
 cases d with
 |ref i=>rw[bv g.thing.1];rfl
 |_=>rfl
theorem vZ(M:u8)(g:w6 M n d):(∃x,d=.str x)\/((fK (A1 M d) "str")=b7/\∀x,d≠.str x):=by
 cases d with
 |str x=>exact .inl ⟨x,rfl⟩
 |ref i=>exact .inr ⟨by rw[bv g.thing.1];rfl,λ_ z=>by cases z⟩
 |_=>exact .inr ⟨rfl,λ_ z=>by cases z⟩
noncomputable def aP(M:u8)(ps:List (c9×Int))(s:List (c9×List c9))(a:c9)(d:D):Bool:=if (a==AA1 "room")=a9 then nh (s.map (·.1)) d
 else if (a==AA1 "under")=a9 then uQ d||bm ps d
 else if (a==AA1 "message")=a9 then bm ps d
 else if (a==AA1 "saying")=a9 then cP d
 else if (a==AA1 "sort")=a9 then iB d
 else if (a==AA1 "vector")=a9 then ca M ps d
 else if (a==AA1 "what")=a9 then ky ps s d
 else(a==AA1 "on")&&isBl d
def fU:A4:=λds M R=>∃(n:Nat) (ps:List (c9×Int)) (s:List (c9×List c9)) (r:List D) (a:c9) (d:D),ds=[.tup<|.tup (ps.map aw)::.tup (s.map aV)::r,.str a,d]/\w6 M n d/\R (.bl<|aP M ps s a d) M
theorem uF:bZ fU mf:=by rintro ds M R ⟨n,ps,s,r,a,d,rfl,_⟩;rfl
def lc:u7:=aK<|bt (u4 A6 (ac 1)<|dC<|.str "on")<|u5 fg<|aa (ac 2)<|aa (dC<|.ty "bool") ad
def lg:u7:=aB (z9 (al<|u4 A6 (ac 1)<|dC<|.str "what") (aK<|u5 fS<|aa (ac 0)<|aa (ac 2) ad) ay)<|lc
def lh:u7:=aB (z9 (al<|u4 A6 (ac 1)<|dC<|.str "vector") (aK<|u5 cX<|aa (ac 0)<|aa (ac 2) ad) ay)<|lg
def lr:u7:=aB (z9 (al<|u4 A6 (ac 1)<|dC<|.str "sort") (aK<|u5 fV<|aa (ac 2) ad) ay)<|lh
def lz:u7:=aB (z9 (al<|u4 A6 (ac 1)<|dC<|.str "saying") (aK<|u5 cY<|aa (ac 2) ad) ay)<|lr
def lA:u7:=aB (z9 (al<|u4 A6 (ac 1)<|dC<|.str "message") (aK<|u5 bx<|aa (ac 0)<|aa (ac 2) ad) ay)<|lz
def lB:u7:=aB (z9 (al<|u4 A6 (ac 1)<|dC<|.str "under") (aK<|Mh (u4 O9 (ac 2)<|dC .non)<|u5 bx<|aa (ac 0)<|aa (ac 2) ad) ay)<|lA
def qS:u7:=aB (z9 (al<|u4 A6 (ac 1)<|dC<|.str "room") (aK<|u5 du<|aa (ac 0)<|aa (ac 2) ad) ay)<|lB
theorem wV:C6 fU 3 qS:=by
 rintro ds M R ⟨n,ps,s,r,a,d,rfl,g,h⟩;unfold aP at h;simp only[qS];walk_at"dl";refine⟨⟨aF,aF⟩,?_⟩;rw[bJ];cases t:(a==AA1 "room") with
 |true=>rw[t,p9 rfl]at h;exact aM ⟨n,_,s,r,d,rfl,g,ar.now h⟩
 |false =>
 rw[t,q9 K0]at h;refine bc ?_;simp only[lB];walk_at"dl";refine⟨⟨aF,aF⟩,?_⟩;rw[bJ];cases l:(a==AA1 "under") with
 |true =>
  rw[l,p9 rfl]at h;refine aM ?_;have h1:uQ d=a9->ar M R (.bl a9) M:=λe=>by rw[e,Bool.true_or]at h;exact ar.now h
  have h2:uQ d=b7->bx [.tup<|.tup (ps.map aw)::.tup (s.map aV)::r,d] M (ar M R):=λe=>by rw[e,Bool.false_or]at h;exact⟨n,ps,_,d,rfl,g,ar.now h⟩
  cases d<;>first|exact h1 rfl|exact h2 rfl|exact aM (h1 rfl)|exact bc<|h2 rfl
 |false =>
 rw[l,q9 K0]at h;refine bc ?_;simp only[lA];walk_at"dl";refine⟨⟨aF,aF⟩,?_⟩;rw[bJ];cases b:(a==AA1 "message") with
 |true=>rw[b,p9 rfl]at h;exact aM ⟨n,ps,_,d,rfl,g,ar.now h⟩
 |false =>
 rw[b,q9 K0]at h;refine bc ?_;simp only[lz];walk_at"dl";refine⟨⟨aF,aF⟩,?_⟩;rw[bJ];cases J:(a==AA1 "saying") with
 |true=>rw[J,p9 rfl]at h;exact aM ⟨d,rfl,g.thing,ar.now h⟩
 |false =>
 rw[J,q9 K0]at h;refine bc ?_;simp only[lr];walk_at"dl";refine⟨⟨aF,aF⟩,?_⟩;rw[bJ];cases c:(a==AA1 "sort") with
 |true=>rw[c,p9 rfl]at h;exact aM ⟨d,rfl,g.thing,ar.now h⟩
 |false =>
 rw[c,q9 K0]at h;refine bc ?_;simp only[lh];walk_at"dl";refine⟨⟨aF,aF⟩,?_⟩;rw[bJ];cases f:(a==AA1 "vector") with
 |true=>rw[f,p9 rfl]at h;exact aM ⟨n,ps,_,d,rfl,g,ar.now h⟩
 |false =>
 rw[f,q9 K0]at h;refine bc ?_;simp only[lg];walk_at"dl";refine⟨⟨aF,aF⟩,?_⟩;rw[bJ];cases i:(a==AA1 "what") with
 |true=>rw[i,p9 rfl]at h;exact aM ⟨n,ps,s,r,d,rfl,g,ar.now h⟩
 |false =>
 rw[i,q9 K0]at h;refine bc ?_;simp only[lc];walk_at"dl";refine⟨⟨aF,aF⟩,?_⟩;rw[bJ];cases j:(a==AA1 "on") with
 |true=>rw[j,E5]at h;walk_at"ifs";refine⟨⟨g.thing.1,by decide⟩,?_⟩;have e:=Bh g;simp only[A1]at e;rw[e];exact ar.now h
 |false=>rw[j,J7]at h;walk_at"ifs";exact ar.now h
theorem xB(T:Tops P w K mg base):x5 P w K mg base 5 "is_part" mf fU:=x5.byD (N:=["house","part","thing"]) T.b T.f_is_part (by walk_at"sc") uF (by have:=xC T;have:=rY T;have:=nX T;have:=gH T;have:=rX T;have:=xz T;walk_at"dv") wV
theorem wC:cutD (a::xs) (a7 1) a8=xs:=by unfold cutD;rw[show (a7 (1:Int))=a7 ((1:Nat):Int)from rfl,HT.sIx_nat,HT.sIx_none,C5,Qa (by lia),List.drop_one,List.tail_cons,Nat.add_sub_cancel,Oh]
noncomputable def pT(M:u8)(ps:List (c9×Int))(rs:List (c9×List c9)):D->Bool
 |.tup (.str z::xs)=>match aG.find? (λp=>p.1==z) with
  |some p=>(xs.length==p.2.length)&&(p.2.zip xs).all λq=>aP M ps rs q.1 q.2
  |none=>b7
 |_=>b7
section
variable{M:u8}{ps:List (c9×Int)}{rs:List (c9×List c9)}{z:c9}{xs:List D}
theorem fP(h:aG.find? (λp=>p.1==z)=a7 p):pT M ps rs (.tup<|.str z::xs)=((xs.length==p.2.length)&&(p.2.zip xs).all λq=>aP M ps rs q.1 q.2):=by simp only[pT,h]
theorem wJ(h:aG.find? (λp=>p.1==z)=a8):pT M ps rs (.tup<|.str z::xs)=b7:=by simp only[pT,h]
theorem wK(h:∀x,a≠.str x):pT M ps rs (.tup<|a::xs)=b7:=by
 cases a with
 |str x=>exact r9 rfl<|h x
 |_=>rfl
theorem wL(h:∀xs,d≠.tup xs):pT M ps rs d=b7:=by
 cases d with
 |tup x=>exact r9 rfl<|h x
 |_=>rfl
end
theorem Fs{ks:List c9}{xs:List D}{y:D}(h:y∈yo (ks.map .str) xs):∃q x,x∈xs/\y=.tup [.str q,x]:=by unfold yo at h;obtain⟨p,a,rfl⟩:=A8.mp h;have h1:=Q6 a;obtain⟨q,_,e⟩:=A8.mp h1.1;exact⟨q,p.2,h1.2,by rw[<-e]⟩
theorem yq{f:c9->D->Bool}:∀(ks:List c9) (xs:List D),(yo (ks.map .str) xs).map (λd=>match d with|.tup [.str q,x]=>.bl (f q x)|_=>.bl b7)=bls ((ks.zip xs).map λq=>f q.1 q.2)
 | [],_=>rfl
 |_::_,[]=>rfl
 |k::ks,x::xs=>by have:=yq (f:=f) ks xs;unfold yo bls at this ⊢;rw[B9,Ol,Ol,B9,B9,B9,B9,this]
def iK:A4:=λds M R=>∃(n:Nat) (ps:List (c9×Int)) (a:List (c9×List c9)) (r:List D) (d:D),ds=[.tup<|.tup (ps.map aw)::.tup (a.map aV)::r,d]/\w6 M n d/\R (.bl<|pT M ps a d) M
theorem xL:bZ iK oY:=by rintro ds M R ⟨n,ps,a,r,d,rfl,_⟩;rfl
def nK:u7:=aK<|u5 Ce<|aa (F7 2 [0] (dZip<|aa (ac 2)<|aa (E7 (ac 1) (bu<|dC<|.int 1) aL) ad) (jW 2<|bE (av 0)<|bE (av 1) jX) je<|u5 fU<|aa (ac 2)<|aa (ac 0)<|aa (ac 1) ad) ad
def nL:u7:=aB (z9 (al<|u4 MZ (u5 eJ<|aa (ac 1) ad)<|u4 aI (u5 eJ<|aa (ac 2) ad)<|dC<|.int 1) (aK<|dC<|.bl b7) ay)<|nK
def nN:u7:=aB (bL (Ev aG<|u4 w9 (ac 1)<|dC<|.int 0) 2)<|nL
def nO:u7:=aB (z9 (G4 (dz<|al<|u5 fg<|aa (u4 w9 (ac 1)<|dC<|.int 0)<|aa (dC<|.ty "str") ad)<|al<|dGIn a9 aG<|u4 w9 (ac 1)<|dC<|.int 0) (aK<|dC<|.bl b7) ay)<|nN
def vQ:u7:=aB (z9 (G4 (dz<|al<|u5 fg<|aa (ac 1)<|aa (dC<|.ty "tuple") ad)<|al<|u4 A6 (u5 eJ<|aa (ac 1) ad)<|dC<|.int 0) (aK<|dC<|.bl b7) ay)<|nO
theorem yw:C6 iK 3 vQ:=by
 rintro ds M R ⟨n,ps,s,r,d,rfl,g,h⟩;simp only[vQ];rcases eL M g with⟨xs,rfl⟩|⟨t,l⟩
 obtain⟨v,m,rfl,i⟩:=g.tup;walk_at"dl";refine⟨by decide,?_⟩;rw[show fK "tuple" "tuple" = a9 from rfl];walk_at"ifs";refine⟨⟨af,af⟩,?_⟩;rw[aY];cases xs with
 |nil=>exact aM<|ar.now h
 |cons a xs =>
  rw[show ((((a::xs).length:Nat):Int)==0)=b7 from beq_eq_false_iff_ne.mpr<|by rw[C5];lia];refine bc ?_;have e:=i a (by simp);simp only[nO];rcases vZ M e with⟨z,rfl⟩|⟨c,N⟩
  walk_at"dl";refine⟨by decide,?_⟩;rw[show fK "str" "str" = a9 from rfl];walk_at"ifs";rw[pS];cases f:aG.find? (λp=>p.1==z) with
  |none=>rw[wJ f]at h;exact aM<|ar.now h
  |some p =>
   refine bc ?_;rw[fP f]at h;simp only[nN];walk_at"dl";refine⟨p,f,?_⟩;simp only[nL];walk_at"dl";refine⟨⟨af,af⟩,?_⟩;have k:v7 M v6 (D.int ((xs.length+1:Nat):Int)) (D.int<|((p.2.map D.str).length:Int)+1)=(xs.length==p.2.length):=by rw[aY,x6,Ni,t4,t4];lia
   simp only[k];cases j:(xs.length==p.2.length) with
   |false=>rw[j,J7]at h;exact aM<|ar.now h
   |true=>rw[j,E5]at h;refine bc ?_;simp only[nK];walk_at"dl";refine⟨p.2.map D.str,xs,_,_,⟨rfl,rfl⟩,⟨wC.symm,rfl⟩,?_⟩;refine bb (λd=>match d with|.tup [.str q,x]=>.bl (aP M ps s q x)|_=>.bl b7) (λS=>∃a b,S=[a,b,a7<|.tup<|.tup (ps.map aw)::.tup (s.map aV)::r]) ⟨trivial,trivial⟩ _ _ _ (λy Q S o=>?_) ⟨_,_,rfl⟩ ?_ ?_;obtain⟨a,b,rfl⟩:=o;obtain⟨q,x,w,rfl⟩:=Fs Q;refine⟨[a7<|.str q,a7 x,a7<|.tup<|.tup (ps.map aw)::.tup (s.map aV)::r],⟨_,_,rfl⟩,λY u=>?_⟩;walk_at"dl";exact⟨trivial,m,ps,s,r,q,x,rfl,i x<|C0 _ w,u⟩;rw[Fn];unfold yo;rw[x6,List.length_zip];rw[C5]at v;exact aq (by lia);rw[G5,yq];refine⟨(p.2.zip xs).map λq=>aP M ps s q.1 q.2,ae,?_⟩;rw[Ou];exact ar.bl h dg
  walk_at"dl";refine⟨⟨e.thing.1,by decide⟩,?_⟩;simp only[A1]at c;rw[c];walk_at"ifs";rw[wK N]at h;exact ar.now h
 rw[wL l]at h;walk_at"dl";refine⟨⟨g.thing.1,by decide⟩,?_⟩;simp only[A1]at t;rw[t];walk_at"ifs";exact ar.now h
theorem Aq(T:Tops P w K mg base):x5 P w K mg base 6 "is_act" oY iK:=x5.byD (N:=["house","thing","parts"]) T.b T.f_is_act (by walk_at"sc") xL (by have:=T.g_ACT_PARTS;have:=xB T;walk_at"dv") yw
noncomputable def bV(M:u8)(ps:List (c9×Int))(rs:List (c9×List c9)):D->Bool
 |.tup [a,b,c,e]=>bm ps (.tup [a,b])&&(aH 0 c&&pT M ps rs e)
 |_=>b7
theorem uW(d:D):(∃a b c e,d=.tup [a,b,c,e])\/(oG 4 d=b7/\∀a b c e,d≠.tup [a,b,c,e]):=by
 cases d with
 |tup xs =>
  match xs with
  | []=>exact .inr ⟨rfl,λ_ _ _ _ z=>by simp at z⟩
  | [_]=>exact .inr ⟨rfl,λ_ _ _ _ z=>by simp at z⟩
  | [_,_]=>exact .inr ⟨rfl,λ_ _ _ _ z=>by simp at z⟩
  | [_,_,_]=>exact .inr ⟨rfl,λ_ _ _ _ z=>by simp at z⟩
  | [a,b,c,e]=>exact .inl ⟨a,b,c,e,rfl⟩
  |_::_::_::_::_::_=>exact .inr ⟨by simp[oG];lia,λ_ _ _ _ z=>by simp at z⟩
 |_=>exact .inr ⟨rfl,λ_ _ _ _ z=>by cases z⟩
theorem ki(h:∀a b c e,d≠.tup [a,b,c,e]):bV M ps rs d=b7:=by unfold bV;split;exact r9 rfl<|h _ _ _ _;rfl
theorem Ff(g:w6 M (m+1) (.tup xs))(f:w6 M m a)(e:w6 M m b):w6 M (m+1) (.tup [a,b]):=w6.mk (by simp) g.1 λx h=>by simp only[A5,MV,or_false]at h;rcases h with rfl|rfl;exact f;exact e
def fW:A4:=λds M R=>∃(n:Nat) (ps:List (c9×Int)) (a:List (c9×List c9)) (r:List D) (d:D),ds=[.tup<|.tup (ps.map aw)::.tup (a.map aV)::r,d]/\w6 M n d/\R (.bl<|bV M ps a d) M
theorem uI:bZ fW mj:=by rintro ds M R ⟨n,ps,a,r,d,rfl,_⟩;rfl
def lF:u7:=aK<|bt (u5 aZ<|aa (dC<|.int 0)<|aa (u4 w9 (ac 1)<|dC<|.int 2) ad)<|u5 iK<|aa (ac 0)<|aa (u4 w9 (ac 1)<|dC<|.int 3) ad
def qV:u7:=aB (z9 (G4 (dz<|al<|u5 aU<|aa (dC<|.int 4)<|aa (ac 1) ad)<|dz<|al<|u5 bx<|aa (ac 0)<|aa (E7 (ac 1) aL<|bu<|dC<|.int 2) ad) (aK<|dC<|.bl b7) ay)<|lF
theorem wY:C6 fW 2 qV:=by
 rintro ds M R ⟨n,ps,s,r,d,rfl,g,h⟩;simp only[qV];rcases uW d with⟨a,b,c,e,rfl⟩|⟨t,l⟩
 obtain⟨p,m,rfl,x⟩:=g.tup;have i:=x a (by simp);have j:=x b (by simp);have k:=x c (by simp);have o:=x e (by simp);walk_at"dl";refine⟨4,_,rfl,g.thing.1,?_⟩;rw[show oG 4 (.tup [a,b,c,e])=a9 from rfl];walk_at"ifs";refine⟨m+1,ps,_,_,rfl,Ff g i j,?_⟩;simp only[bV]at h;simp only[show cutD [a,b,c,e] a8 (a7 2)=[a,b]from rfl];cases es:bm ps (.tup [a,b]) with
 |false=>rw[es]at h;walk_at"ifs";exact ar.now h
 |true =>
  rw[es]at h;walk_at"ifs";simp only[lF];walk_at"dl";refine⟨0,c,rfl,k.thing.1,?_⟩;cases f:aH 0 c with
  |false=>rw[f]at h;walk_at"ifs";exact ar.now h
  |true=>rw[f]at h;walk_at"ifs";exact⟨m,ps,s,r,e,rfl,o,ar.now h⟩
 rw[ki l]at h;simp only[aB,z9,dz,G4,al,u5,aa,ad,dC,ac,EE,Rx,bT,B9,Oc,Oy,G5,OF,On,C5,Fn,Pw,Nu,OV];refine⟨4,d,rfl,g.thing.1,?_⟩;rw[t];walk_at"dl";exact ar.now h
theorem xD(T:Tops P w K mg base):x5 P w K mg base 7 "is_deed" mj fW:=x5.byD (N:=["house","thing"]) T.b T.f_is_deed (by walk_at"sc") uI (by have:=cu T;have:=bD T;have:=gH T;have:=Aq T;walk_at"dv") wY
def ef:A4:=λds M R=>∃(a b:D) (r:List D),ds=[.tup<|a::b::r]/\R (.tup [a,b]) M
theorem su:bZ ef iS:=by rintro ds M R ⟨a,b,r,rfl,_⟩;rfl
def nB:u7:=aK<|cR<|aa (u4 w9 (ac 0)<|dC<|.int 0)<|aa (u4 w9 (ac 0)<|dC<|.int 1) ad
theorem tz:C6 ef 1 nB:=by rintro ds M R ⟨a,b,r,rfl,h⟩;simp only[nB];walk_at"dl";exact⟨aq (by lia),ar.now h⟩
theorem ul(T:Tops P w K mg base):x5 P w K mg base 1 "stamp_of" iS ef:=x5.byD (N:=["deed"]) T.b T.f_stamp_of (by walk_at"sc") su (by walk_at"dv") tz
noncomputable def fX:List D->List D->Bool
 |_,[]=>a9
 |done,x::xs=>decide (wo x=(many done (bg x):Int))&&fX (done++[x]) xs
def bW:A4:=λds M R=>∃g:List D,ds=[.tup g]/\(∀d∈g,∃(t:Int) (h:D) (b:Int) (a:D),d=.tup [.int t,h,.int b,a]/\Hd h)/\g.length<=100/\R (.bl<|fX [] g) M
theorem jU:bZ bW de:=by rintro ds M R ⟨g,rfl,_⟩;rfl
def eE:u7:=aK<|dC<|.bl a9
def eF:u7:=va (ac 1) (u4 w9 (ac 2)<|dC<|.int 1)<|u4 aI (u4 w9 (ac 2)<|dC<|.int 2)<|dC<|.int 1
def eG:u7:=aB (sN (bF<|ac 0) (av 2)<|aB (z9 (al<|u4 MZ (u4 w9 (ac 2)<|dC<|.int 2)<|Pb lP (ac 1)<|aa (u4 w9 (ac 2)<|dC<|.int 1)<|aa (dC<|.int 0) ad) (aK<|dC<|.bl b7) ay)<|eF)<|eE
def fZ:u7:=aB (bL (vb) 1)<|eG
theorem kw:C6 bW 3 fZ:=by
 rintro ds M R ⟨g,rfl,r,v,h⟩;simp only[fZ,eG];walk_at"dl";refine λ_=>?_;refine fN (λys S j=>∃done kvs a,j=M++[.dkt kvs]/\g=done++ys/\(∀x,(gK kvs x).getD (.int 0)=.int (many done x))/\kvs.length+ys.length<=g.length/\fX [] g=fX done ys/\S=[a7<|.tup g,a7<|.ref M.length,a]) ?_ ?_ _ _ _ ⟨[],[],_,rfl,rfl,λ_=>rfl,by simp,rfl,rfl⟩;rintro S j ⟨done,kvs,a,rfl,_,_,_,n,rfl⟩;refine⟨trivial,?_⟩;simp only[eE];walk_at"dl";rw[n]at h;exact ar.bl h dg;rintro x xs S j ⟨done,kvs,a,rfl,m,o,l,n,rfl⟩ G p;refine⟨trivial,?_⟩;have u:x∈g:=by rw[m];simp
 obtain⟨t,s,b,f,rfl,z,i,rfl⟩:=r x u;have n:fX [] g=(decide (b=(many done (.tup [.str z,.int i]):Int))&&fX (done++[.tup [.int t,.tup [.str z,.int i],.int b,f]]) xs):=n;rw[C5]at l;simp only[eF];walk_at"dl";refine⟨⟨kvs,aE⟩,kvs,aE,rfl,?_⟩;rw[o];refine⟨⟨af,af⟩,?_⟩;rw[aY];by_cases c:b=(many done (.tup [.str z,.int i]):Int)
 rw[beq_iff_eq.mpr c];rw[dT_ c,E5]at n;have w:=jZ (kvs:=kvs) (k:=.tup [.str z,.int i]) (d:=.int<|b+1);refine bc ⟨kvs,aE,rfl,small1000 (by lia),F5.now<|p _ _ ⟨done++[_],mW kvs (.tup [.str z,.int i])<|.int<|b+1,_,?_,by rw[m,Nk];rfl,λy=>?_,by lia,n,rfl⟩⟩;rw[iP];rw[kb];by_cases e:y=.tup [.str z,.int i];subst e;rw[mI,p9<|show bg (.tup [.int t,.tup [.str z,.int i],.int b,f])=.tup [.str z,.int i]from rfl,c];rfl;rw[uU e,o,q9<|λq=>e<|show y=_ from q.symm];rfl;rw[beq_eq_false_iff_ne.mpr c];rw[dF_ c,J7]at n;rw[n]at h;exact aM<|ar.bl h dg
theorem my(T:Tops P w K mg base):x5 P w K mg base 1 "are_numbered" de bW:=x5.byD (N:=["deeds","counts","deed"]) T.b T.f_are_numbered (by walk_at"sc") jU (by walk_at"dv") kw
structure DeedV(ps:List (c9×Int))(rs:List (c9×List c9))(d:D):Prop where
 ok:∀M:u8,bV M ps rs d=a9
 gd:∀M:u8,w6 M 6 d
noncomputable def logB(M:u8)(ps:List (c9×Int))(rs:List (c9×List c9)):D->Bool
 |.tup xs=>xs.all (bV M ps rs)&&(aN M (xs.map D5)&&fX [] xs)
 |_=>b7
def QN(M:u8)(d:D):Prop:=(∃xs,d=.tup xs/\xs.length<=59/\∀x∈xs,w6 M 15 x)\/d=.non\/(∃b,d=.bl b)\/(∃i,d=.int i)\/(∃x,d=.str x)\/∃k xs,d=.ref k/\ao M k xs
theorem oQ:∀{xs:List D},(∀x∈xs,Ix x)->aN M xs=aN M' xs
 | [],_=>rfl
 | [_],_=>rfl
 |a::b::r,h=>by
  show (z7 M v6 a b&&aN M (b::r))=(z7 M' v6 a b&&aN M' (b::r))
  rw[zt (M':=M') (h a<|by simp) (h b<|by simp),oQ λx hx=>h x<|C0 _ hx]
theorem pN(h:bV M ps rs d=a9):∃(t:Int) (hd:D) (num:Int) (act:D),d=.tup [.int t,hd,.int num,act]/\Hd hd:=by
 rcases uW d with⟨a,b,c,e,rfl⟩|⟨_,l⟩
 simp only[bV,bm,B8]at h;obtain⟨⟨h1,h2⟩,f,_⟩:=h;cases a with
 |int t =>
  cases c with
  |int num=>exact⟨t,b,num,e,rfl,mH h2⟩
  |_=>cases f
 |_=>cases h1
 rw[ki l]at h;cases h
def cN:A4:=λds M R=>∃(ps:List (c9×Int)) (a:List (c9×List c9)) (r:List D) (d:D),ds=[.tup<|.tup (ps.map aw)::.tup (a.map aV)::r,d]/\QN M d/\R (.bl<|logB M ps a d) M
theorem xK:bZ cN oX:=by rintro ds M R ⟨ps,a,r,d,rfl,_⟩;rfl
def nJ:u7:=aK<|bt (u5 cq<|aa (F7 1 [] (bF<|ac 1) (av 0) je<|u5 ef<|aa (ac 0) ad) ad)<|u5 bW<|aa (ac 1) ad
def oK:u7:=aB (z9 (G4 (dz<|al<|u5 fg<|aa (ac 1)<|aa (dC<|.ty "tuple") ad)<|dz<|al<|u5 Ce<|aa (F7 1 [0] (bF<|ac 1) (av 0) je<|u5 fW<|aa (ac 1)<|aa (ac 0) ad) ad) (aK<|dC<|.bl b7) ay)<|nJ
theorem yu:C6 cN 2 oK:=by
 rintro ds M R ⟨ps,s,r,d,rfl,o,h⟩;rcases o with⟨xs,rfl,v,q⟩|o;simp only[oK];walk_at"dl";refine⟨by decide,?_⟩;rw[show fK "tuple" "tuple" = a9 from rfl];walk_at"ifs";intro z;refine bb (λx=>.bl<|bV M ps s x) (λS=>∃a,S=[a,a7<|.tup<|.tup (ps.map aw)::.tup (s.map aV)::r]) trivial _ _ _ ?_ ⟨_,rfl⟩ (by simpa using z) ?_;rintro y Q S ⟨a,rfl⟩;exact⟨[a7 y,a7<|.tup<|.tup (ps.map aw)::.tup (s.map aV)::r],⟨_,rfl⟩,λY l=>⟨15,ps,s,r,y,rfl,q y Q,l⟩⟩;refine⟨xs.map<|bV M ps s,Fp (by rw[G5];exact ae),?_⟩;have e:(xs.map<|bV M ps s).all id=xs.all (bV M ps s):=by rw[Ou];rfl
 rw[e];have h:R (.bl<|xs.all (bV M ps s)&&(aN M (xs.map D5)&&fX [] xs)) M:=h;cases g:xs.all (bV M ps s) with
 |false=>rw[g]at h;exact aM<|ar.bl h dg
 |true =>
  rw[g,E5]at h;have j:∀x∈xs,∃(t:Int) (f:D) (m:Int) (c:D),x=.tup [.int t,f,.int m,c]/\Hd f:=λx n=>pN<|D7.mp g x n;refine bc ?_;simp only[nJ];walk_at"dl";intro z;have hs:∀x∈xs.map D5,Ix x:=λx n=>by obtain⟨d,f,rfl⟩:=A8.mp n;obtain⟨t,h',m,c,rfl,u⟩:=j d f;exact⟨t,h',rfl,u⟩
  refine bb D5 (λS=>∃a,S=[a]) trivial _ _ _ ?_ ⟨_,rfl⟩ (by simpa using z) ?_;rintro y Q S ⟨a,rfl⟩;obtain⟨t,f,m,c,rfl,_⟩:=j y Q;exact⟨[a7 _],⟨_,rfl⟩,λY l=>⟨_,_,_,rfl,l⟩⟩;rw[G5];refine⟨_,xs.map D5,rfl,.inl ⟨_,rfl,ae⟩,.inr hs,by rw[x6];lia,?_⟩;rw[oQ (M':=M) hs];cases p:aN M (xs.map D5) with
  |false=>rw[p,J7]at h;walk_at"ifs";exact ar.bl h<|dg.trans dg
  |true=>rw[p,E5]at h;walk_at"ifs";exact⟨xs,rfl,j,by lia,ar.bl h<|dg.trans dg⟩
 simp only[oK];rcases o with rfl|⟨b,rfl⟩|⟨i,rfl⟩|⟨x,rfl⟩|⟨k,xs,rfl,L⟩
 walk_at"dl";exact⟨⟨by decide,by decide⟩,aM<|ar.now h⟩;walk_at"dl";exact⟨⟨by decide,by decide⟩,aM<|ar.now h⟩;walk_at"dl";exact⟨⟨by decide,by decide⟩,aM<|ar.now h⟩;walk_at"dl";exact⟨⟨by decide,by decide⟩,aM<|ar.now h⟩;have e:=L.ty;simp only[A1]at e;walk_at"dl";rw[e];exact⟨⟨by decide,by decide⟩,aM<|ar.now h⟩
theorem Ap(T:Tops P w K mg base):x5 P w K mg base 8 "is_log" oX cN:=x5.byD (N:=["house","thing"]) T.b T.f_is_log (by walk_at"sc") xK (by have:=jH T;have:=xD T;have:=ul T;have:=my T;walk_at"dv") yu
noncomputable def ox(ns:List Int)(k:Nat):Int:=ns.getD k 0
def cB:A4:=λds M R=>∃(n:Nat) (ns:List Int) (k:Nat),ds=[.ref n,.int k]/\ao M n (ns.map D.int)/\R (.int<|ox ns k) M
theorem uJ:bZ cB mn:=by rintro ds M R ⟨n,ns,k,rfl,_⟩;rfl
def lJ:u7:=aK<|dC<|.int 0
def rp:u7:=aB (z9 (al<|u4 Nc (ac 1)<|u5 eJ<|aa (ac 0) ad) (aK<|u4 w9 (ac 0)<|ac 1) ay)<|lJ
theorem wZ:C6 cB 2 rp:=by rintro ds M R ⟨n,ns,k,rfl,L,h⟩;simp only[rp,lJ];walk_at"dl";refine⟨_,L,?_⟩;unfold ox at h;by_cases a:k<ns.length;rw[dT_<|by simpa using a];refine aM ⟨_,L,?_⟩;rw[bp (v:=.int ns[k])<|by rw[G2,C4 a];rfl];rw[L3,C4 a]at h;exact ar.now h;rw[dF_<|by simpa using a];rw[L3,O2<|by lia]at h;exact bc<|ar.now h
theorem nZ(T:Tops P w K mg base):x5 P w K mg base 1 "_law_cell_at" mn cB:=x5.byD (N:=["_law_script","_law_k"]) T.b T.f_cell_at (by walk_at"sc") uJ (by walk_at"dv") wZ
noncomputable def ah(c:Int):MO:=.lst [.int c]
def am:A4:=λds M R=>∃(n:Nat) (c m:Int),ds=[.ref n,.int m]/\M[n]?=a7 (ah c)/\0<m/\m<1000000000000000/\∀i U:Int,0<=i->i<m->R (.int i) (M.set n<|ah U)
theorem Dw:bZ am Ag:=by rintro ds M R ⟨n,c,m,rfl,_⟩;rfl
theorem set_set{M:u8}{n:Nat}{a b:MO}:(M.set n a).set n b=M.set n b:=List.set_set ..
theorem cI{M:u8}{n:Nat}{a b:MO}(h:M[n]?=a7 b):(M.set n a)[n]?=a7 a:=O5 (A3.mp h).1
def WM(M:u8)(n:Nat)(B:u8):Prop:=∃c L,B=M.set n (ah c)++L
section
variable{M B C:u8}{n:Nat}{c0:Int}
theorem WM.drawn:WM M n (M.set n<|ah c):=⟨c,[],by simp⟩
theorem WM.now(h:M[n]?=a7 (ah c0)):WM M n M:=⟨c0,[],by rw[NZ];refine(Ra λi=>?_).symm;by_cases e:n=i;subst e;rw[cI h,h];rw[NB e]⟩
theorem WM.get(w:WM M n B)(h:M[n]?=a7 (ah c0)):∃c,B[n]?=a7 (ah c):=by obtain⟨c,L,rfl⟩:=w;have g:=(A3.mp h).1;exact⟨c,by rw[J0 (by rw[MU];exact g),cI h]⟩
theorem WM.set(w:WM M n B)(h:M[n]?=a7 (ah c0))(c:Int):WM M n (B.set n<|ah c):=by obtain⟨U,L,rfl⟩:=w;have g:=(A3.mp h).1;refine⟨c,L,?_⟩;rw[List.set_append_left _ _ (by rw[MU];exact g),set_set]
theorem WM.app(w:WM M n B)(L:u8):WM M n (B++L):=by obtain⟨U,b,rfl⟩:=w;exact⟨U,b++L,by rw[Nk]⟩
theorem WM.trans(w:WM M n B)(h:M[n]?=a7 (ah c0))(v:WM B n C):WM M n C:=by obtain⟨c,L,rfl⟩:=v;exact(w.set h c).app L
theorem WM.len(w:WM M n B):M.length<=B.length:=by obtain⟨c,L,rfl⟩:=w;rw[A7,MU];lia
theorem WM.other(w:WM M n B)(d:m≠n)(h:M[m]?=a7 x):B[m]?=a7 x:=by obtain⟨c,L,rfl⟩:=w;rw[J0 (by rw[MU];exact(A3.mp h).1),NB<|D3 d];exact h
end
def vG:u7:=aK<|ac 2
def vH:u7:=aB (IM (u4 oS (u4 w9 (ac 0)<|dC<|.int 0)<|ac 1)<|xW (ac 0)<|dC<|.int 0)<|vG
def EM:u7:=aB (bL (u4 xr (u4 w9 (ac 0)<|dC<|.int 0)<|ac 1) 2)<|vH
theorem Fw:C6 am 3 EM:=by rintro ds M R ⟨n,c,m,rfl,f,a,h1,h⟩;simp only[EM,vH,vG];walk_at"dl";refine⟨_,.inl f,?_⟩;rw[PJ];refine⟨a,_,.inl f,?_⟩;rw[PJ];exact⟨⟨a,by lia⟩,_,0,f,rfl,.inl<|h _ _ (Qb _<|by lia)<|Ql _ a⟩
theorem bR(T:Tops P w K mg base):x5 P w K mg base 1 "_law_take" Ag am:=x5.byD (N:=["_law_well_here","_law_many","_law_found"]) T.b T.f_take (by walk_at"sc") Dw (by walk_at"dv") Fw
def wN:A4:=λds M R=>∃(c:Int) (k:Int),ds=[.int c,.int k]/\0<=k/\k<100000/\∀i:Int,R (.int i) M
theorem GF:bZ wN Gn:=by rintro ds M R ⟨c,k,rfl,_⟩;rfl
def yN:u7:=aK<|u4 xr (u4 aI (u4 aI (u4 jR (ac 2)<|ac 2)<|u4 jR (dC<|.int 69621)<|ac 2)<|dC<|.int 7)<|dC<|.int 2147483629
def yO:u7:=aB (bL (u4 xr (u4 aI (u4 aI (u4 aI (u4 jR (ac 2)<|ac 2)<|u4 jR (dC<|.int 48271)<|ac 2)<|dC<|.int 13)<|ac 1)<|dC<|.int 2147483647) 2)<|yN
def Jc:u7:=aB (bL (u4 xr (u4 aI (u4 aI (u4 xr (ac 0)<|dC<|.int 2147483647)<|u4 jR (dC<|.int 7919)<|ac 1)<|dC<|.int 11)<|dC<|.int 2147483647) 2)<|yO
theorem IS:C6 wN 3 Jc:=by
 rintro ds M R ⟨c,k,rfl,e,h1,h⟩;simp only[Jc,yO,yN];walk_at"dl";have p:∀z:Int,0<=z % 2147483647/\z % 2147483647<2147483647:=λz=>⟨Qb _ (by decide),Ql _<|by decide⟩
 refine⟨by decide,.inl ⟨by decide,by decide⟩,by decide,?_⟩;have q:=p<|c % 2147483647+7919*k+11;generalize (c % 2147483647+7919*k+11) % 2147483647=a at q;refine⟨.inl ⟨by lia,by lia⟩,.inl ⟨by decide,by decide⟩,by decide,?_⟩;have d:=p<|a*a+48271*a+13+k;generalize (a*a+48271*a+13+k) % 2147483647=b at d;exact⟨.inl ⟨by lia,by lia⟩,.inl ⟨by decide,by decide⟩,by decide,ar.now<|h _⟩
theorem Ki(T:Tops P w K mg base):x5 P w K mg base 1 "_law_mix" Gn wN:=x5.byD (N:=["_law_cell","_law_k","_law_number"]) T.b T.f_mix (by walk_at"sc") GF (by walk_at"dv") IS
def mU:A4:=λds M R=>∃(c:Int) (k:Int),ds=[.int c,.int k]/\0<=k/\k<1000/\∀i:Int,R (.int i) M
theorem Dx:bZ mU Ah:=by rintro ds M R ⟨c,k,rfl,_⟩;rfl
def vJ:u7:=aK<|ac 2
def vK:u7:=aB (sN (cw<|aa (dC<|.int 8) ad) (av 3)<|bL (u4 aI (u4 jR (ac 2)<|dC<|.int 2147483629)<|u5 wN<|aa (ac 0)<|aa (u4 aI (u4 jR (dC<|.int 8)<|ac 1)<|ac 3) ad) 2)<|vJ
def EN:u7:=aB (bL (dC<|.int 0) 2)<|vK
theorem Fx:C6 mU 4 EN:=by rintro ds M R ⟨c,k,rfl,e,h1,h⟩;simp only[EN,vK];walk_at"dl";refine⟨⟨by decide,by decide⟩,?_⟩;refine cA (λi S b=>b=M/\∃(f:Int) (a:Option D),S=[a7<|.int c,a7<|.int k,a7<|.int f,a]) ?_ ?_ ⟨rfl,_,_,rfl⟩;rintro S b ⟨rfl,f,a,rfl⟩;refine⟨trivial,?_⟩;simp only[vJ];walk_at"dl";exact ar.now<|h _;rintro i y S b Q ⟨rfl,f,a,rfl⟩ G p;obtain⟨hi,rfl⟩:=ik.mp Q;have d:i<8:=hi;refine⟨trivial,?_⟩;walk_at"dl";exact⟨.inr ⟨by decide,by decide⟩,.inl ⟨by decide,by decide⟩,c,_,rfl,by lia,by lia,λz=>F5.now<|p _ _ ⟨rfl,_,_,rfl⟩⟩
theorem Ao(T:Tops P w K mg base):x5 P w K mg base 2 "_law_rich" Ah mU:=x5.byD (N:=["_law_cell","_law_k","_law_found","_law_j"]) T.b T.f_rich (by walk_at"sc") Dx (by have:=Ki T;walk_at"dv") Fx
def mT:A4:=λds M R=>∃(c:Int) (k:Int),ds=[.int c,.int k]/\0<=k/\k<1000/\∀i:Int,R (.ref M.length)<|M++[ah i]
theorem Dv:bZ mT Af:=by rintro ds M R ⟨c,k,rfl,_⟩;rfl
def vD:u7:=aK<|fM<|aa (u5 mU<|aa (u4 oS (ac 0)<|dC<|.int 2)<|aa (ac 1) ad) ad
def EL:u7:=aB (z9 (al<|u4 A6 (u4 xr (ac 0)<|dC<|.int 2)<|dC<|.int 0) (aK<|fM<|aa (u4 oS (ac 0)<|dC<|.int 2) ad) ay)<|vD
theorem Fv:C6 mT 2 EL:=by
 rintro ds M R ⟨c,k,rfl,a,h1,h⟩;simp only[EL,vD];walk_at"dl";refine⟨by decide,⟨rfl,rfl⟩,?_⟩;cases v7 M v6 (.int<|c % 2) (.int 0) with
 |true=>exact aM ⟨⟨by decide,by decide⟩,aq (by lia),.inl<|h _⟩
 |false=>exact bc ⟨⟨by decide,by decide⟩,_,k,rfl,a,h1,λz=>⟨aq (by lia),.inl<|h _⟩⟩
theorem Gv(T:Tops P w K mg base):x5 P w K mg base 3 "_law_well" Af mT:=x5.byD (N:=["_law_cell","_law_k"]) T.b T.f_well (by walk_at"sc") Dv (by have:=Ao T;walk_at"dv") Fv
def kj:A4:=λds M R=>∃(p:Nat) (ns:List Int) (s m:Nat),ds=[.ref p,.int s,.int m]/\ao M p (ns.map D.int)/\ns.length<=100/\m<=100/\s<=10 /\∀(ws:List Nat) (B:u8),M <+: B->ws.length<=m->(∀w∈ws,M.length<=w/\∃c,B[w]?=a7 (ah c))->R (.ref B.length) (B++[.lst<|ws.map .ref])
theorem AH:bZ kj ud:=by rintro ds M R ⟨p,ns,s,m,rfl,_⟩;rfl
theorem DR{ns:List Int}{lo hi:Option Int}:∃l:List Int,cutD (ns.map D.int) lo hi=l.map D.int:=by unfold cutD;rw[<-List.map_drop,<-List.map_take];exact⟨_,rfl⟩
theorem Ew{xs:List D}{s m:Nat}:(cutD xs (a7<|(s:Int)+1)<|a7<|(s:Int)+1+(m:Int)).length<=m:=by unfold cutD;rw[H9,show ((s:Int)+1)=((s+1:Nat):Int) by lia,show (((s+1:Nat):Int)+(m:Int))=((s+1+m:Nat):Int) by lia,HT.sIx_nat,HT.sIx_nat];lia
def IE(M M':u8)(acc:List D):Prop:=∃ws:List Nat,acc=ws.map .ref/\M <+: M'/\∀w∈ws,M.length<=w/\∃c,M'[w]?=a7 (ah c)
theorem IE.nil:IE M M []:=⟨[],rfl,Qe _,λ_ z=>nomatch z⟩
theorem IE.more{M M':u8}{acc:List D}{c:Int}(h:IE M M' acc):IE M (M'++[ah c]) (acc++[.ref M'.length]):=by obtain⟨ws,rfl,p,a⟩:=h;refine⟨ws++[M'.length],by simp,p.trans dg,λw m=>?_⟩;rcases F6.mp m with m|m;obtain⟨h1,U,h2⟩:=a w m;exact⟨h1,U,au h2⟩;rw[G1.mp m];exact⟨p.length_le,c,aE⟩
def qD:u7:=aK<|F7 1 [] (bF<|E7 (ac 0) (bu<|u4 aI (ac 1)<|dC<|.int 1)<|bu<|u4 aI (u4 aI (ac 1)<|dC<|.int 1)<|ac 2) (av 0) je<|fM<|aa (ac 0) ad
def qE:u7:=aB (z9 (al<|u4 A6 (u4 xr (ac 3)<|dC<|.int 2)<|dC<|.int 1) (aK<|F7 1 [3] (cw<|aa (u4 xr (u4 oS (ac 3)<|dC<|.int 2)<|u4 aI (ac 2)<|dC<|.int 1) ad) (av 0) je<|fM<|aa (u5 mU<|aa (u4 oS (ac 1)<|dC<|.int 2)<|aa (ac 0) ad) ad) ay)<|qD
def yJ:u7:=aB (bL (u5 cB<|aa (ac 0)<|aa (ac 1) ad) 3)<|qE
theorem Ck:C6 kj 4 yJ:=by
 rintro ds M R ⟨p,ns,s,m,rfl,L,n,f,o,h⟩;simp only[yJ,qE];walk_at"dl";refine⟨p,ns,s,rfl,L,by decide,⟨af,af⟩,?_⟩;cases v7 M v6 (.int<|ox ns s % 2) (.int 1) with
 |true=>have r:0<=ox ns s / 2 % ((m:Int)+1):=Qb _ (by lia);have t:ox ns s / 2 % ((m:Int)+1)<(m:Int)+1:=Ql _ (by lia);refine aM ⟨⟨by decide,by decide⟩,by lia,⟨by lia,by lia⟩,?_⟩;refine cS (λxs acc S b=>∃a,S=[a,a7<|.int<|ox ns s]/\IE M b acc/\acc.length+xs.length<=m/\∀x∈xs,∃i:Int,x=.int i/\0<=i/\i<1000) ?_ ?_ _ _ _ _ ⟨_,rfl,.nil,?_,?_⟩;rintro acc S b ⟨a,rfl,⟨ws,rfl,p,w⟩,g,_⟩;exact⟨trivial,.inl<|h ws b p (by simpa using g) w⟩;rintro y xs acc S b ⟨a,rfl,w,g,c⟩ K B;obtain⟨i,rfl,j,k⟩:=c y (by simp);refine⟨trivial,?_⟩;walk_at"dl";rw[C5]at g;refine⟨⟨by decide,by decide⟩,_,i,rfl,j,k,λz=>⟨aq (by lia),small1000 (by lia),B _ _ _ ⟨_,rfl,w.more,?_,λx d=>c x<|C0 _ d⟩⟩⟩;rw[A7,J4];lia;rw[cO,Fn];lia;intro x d;obtain⟨i,hi⟩:=NP d;obtain⟨h1,rfl⟩:=ik.mp hi;exact⟨_,rfl,by lia,by lia⟩
 |false =>
  refine bc ?_;simp only[qD];walk_at"dl";obtain⟨cs,e⟩:=DR (ns:=ns) (lo:=a7<|(s:Int)+1) (hi:=a7<|(s:Int)+1+(m:Int));have q:cs.length<=m:=by have:=Ew (xs:=ns.map D.int) (s:=s) (m:=m);rw[e,x6]at this;exact this
  refine⟨_,L,?_⟩;rw[e];refine⟨_,ae,λ_=>?_⟩;refine cS (λxs acc S b=>∃a,S=[a]/\IE M b acc/\ao b M.length (cs.map D.int)/\acc.length+xs.length<=m/\∀x∈xs,∃i:Int,x=.int i) ?_ ?_ _ _ _ _ ⟨_,rfl,⟨[],rfl,dg,λ_ z=>nomatch z⟩,ae,?_,?_⟩;rintro acc S b ⟨a,rfl,⟨ws,rfl,p,w⟩,l,g,_⟩;exact⟨l,.inl<|h ws b p (by simpa using g) w⟩;rintro y xs acc S b ⟨a,rfl,w,l,g,d⟩ K B;obtain⟨i,rfl⟩:=d y (by simp);refine⟨l,?_⟩;walk_at"dl";rw[C5]at g;refine⟨aq (by lia),small1000 (by lia),B _ _ _ ⟨_,rfl,w.more,l.more _,?_,λx c=>d x<|C0 _ c⟩⟩;rw[A7,J4];lia;rw[x6,Fn];lia;intro x d;obtain⟨i,_,rfl⟩:=A8.mp d;exact⟨i,rfl⟩
theorem CZ(T:Tops P w K mg base):x5 P w K mg base 3 "_law_wells" ud kj:=x5.byD (N:=["_law_script","_law_start","_law_most","_law_head"]) T.b T.f_wells (by walk_at"sc") AH (by have:=nZ T;have:=Ao T;walk_at"dv") Ck
def IG(x:c9):Prop:=∀c∈x.cps.toList,97<=c/\c<=122
def fF(x:c9):Prop:=1<=x.length/\x.length<=8/\IG x
def jg:A4:=λds M R=>∃(n:Nat) (c:Int),ds=[.ref n]/\M[n]?=a7 (ah c)/\∀(x:c9) (B:u8),fF x->WM M n B->R (.str x) B
theorem Dt:bZ jg Ad:=by rintro ds M R ⟨n,c,rfl,_⟩;rfl
noncomputable def one(c:Nat):c9:=⟨#[c]⟩
theorem nS:∀cs:List Nat,(N7 (AA1 "")<|cs.map one).cps.toList=cs
 | []=>by decide +kernel
 | [c]=>rfl
 |c::d::r=>by have ih:=nS<|d::r;show ((one c++AA1 "")++N7 (AA1 "") ((d::r).map one)).cps.toList=_;rw[bC,bC,ih];rfl
theorem dm(cs:List Nat):(Ot (AA1 "")<|cs.map one).cps.toList=cs:=by unfold Ot;rw[RJ];exact nS cs
theorem oN:∀cs:List Nat,((cs.map one).map<|λx=>x.length).sum=cs.length
 | []=>rfl
 |c::r=>by rw[B9,B9,List.sum_cons,oN r,C5];show 1+r.length=r.length+1;lia
theorem wI(a:0<=i)(h1:i<26):∃c:Nat,atI (AA1 "abcdefghijklmnopqrstuvwxyz").cps.toList i=a7 c/\97<=c/\c<=122:=by
 have g:(AA1 "abcdefghijklmnopqrstuvwxyz").cps.toList=(C3 26).map (· + 97):=by decide +kernel
 obtain⟨j,L,e,z⟩:=cy (xs:=(AA1 "abcdefghijklmnopqrstuvwxyz").cps.toList) a (by rw[g];simpa using h1);have d:=G6 L;refine⟨_,e,?_⟩;generalize (AA1 "abcdefghijklmnopqrstuvwxyz").cps.toList[j]=c at d;rw[g]at d;obtain⟨k,h,rfl⟩:=A8.mp d;have:=I9.mp h;lia
def vt:u7:=aK<|OJ tZ (dC<|.str "")<|aa (F7 1 [1,0] (cw<|aa (u4 aI (dC<|.int 1)<|u5 am<|aa (ac 0)<|aa (dC<|.int 8) ad) ad) (av 0) je<|u4 w9 (ac 1)<|u5 am<|aa (ac 2)<|aa (dC<|.int 26) ad) ad
def EJ:u7:=aB (bL (dC<|.str "abcdefghijklmnopqrstuvwxyz") 1)<|vt
theorem Ft:C6 jg 2 EJ:=by rintro ds M R ⟨n,c,rfl,k,h⟩;simp only[EJ,vt];walk_at"dl";refine⟨n,c,8,rfl,k,by decide,by decide,λi U t u=>⟨⟨by lia,by lia⟩,?_⟩⟩;refine cS (λxs acc S d=>∃(cs:List Nat) (a:Option D),acc=(cs.map one).map .str/\(∀c∈cs,97<=c/\c<=122)/\cs.length+xs.length=(1+i).toNat/\WM M n d/\S=[a,a7<|.str<|AA1 "abcdefghijklmnopqrstuvwxyz",a7<|.ref n]) ?_ ?_ _ _ _ _ ⟨[],_,rfl,(λ_ z=>nomatch z),by rw[cO];simp,WM.drawn,rfl⟩;rintro acc S d ⟨cs,a,rfl,f,l,b,rfl⟩;simp only[Fn,Nat.add_zero]at l;refine⟨trivial,cs.map one,ae,?_,.inl<|h _ _ ⟨?_,?_,?_⟩<|b.app _⟩;rw[oN,x6,show (AA1 "").length=0 by decide +kernel];lia;rw[aA,dm];lia;rw[aA,dm];lia;intro c m;rw[dm]at m;exact f c m;rintro y xs acc S d ⟨cs,a,rfl,f,l,b,rfl⟩ K B;refine⟨trivial,?_⟩;obtain⟨w,q⟩:=b.get k;walk_at"dl";refine⟨n,w,26,rfl,q,by decide,by decide,λj s r o=>⟨by decide +kernel,?_⟩⟩;obtain⟨p,e,g⟩:=wI r o;rw[e];rw[C5]at l;refine⟨by rw[x6,x6];exact small1000 (by lia),B _ _ _ ⟨cs++[p],_,by simp[one],λc m=>?_,by rw[A7,J4];lia,b.set k _,rfl⟩⟩;rcases F6.mp m with m|m;exact f c m;rw[G1.mp m];exact g
theorem Al(T:Tops P w K mg base):x5 P w K mg base 2 "_law_word" Ad jg:=x5.byD (N:=["_law_well_here","_law_letters"]) T.b T.f_word (by walk_at"sc") Dt (by have:=bR T;walk_at"dv") Ft
theorem DU(u:Option Int)(n:Nat):PB a8 u 1 n=PB (a7 ((0:Nat):Int)) u 1 n:=by unfold PB;simp only[show (1:Int) > 0 by decide,t6];congr 1
theorem Le(l:Option Int)(n:Nat):PB l a8 1 n=PB l (a7 ((n:Nat):Int)) 1 n:=by unfold PB;simp only[show (1:Int) > 0 by decide,t6];congr 1;rw[q9<|by lia];lia
theorem oO(x:c9)(b:Nat):(J6 x a8<|a7 (b:Int)).cps.toList=x.cps.toList.take b:=by have e:=rG x (a:=0) (b:=b)<|D4 _;rw[dD]at e ⊢;rw[DU];rw[e];simp
theorem xp(x:c9)(a:Nat)(h:a<=x.length):(J6 x (a7 (a:Int)) a8).cps.toList=x.cps.toList.drop a:=by have e:=rG x (a:=a) (b:=x.length) h;rw[dD]at e ⊢;rw[Le];rw[e];rw[Qw];rw[N0,aA];lia
theorem jK(e:x.cps.toList=l)(h1:1<=l.length)(f:l.length<=8)(h:∀c∈l,97<=c/\c<=122):fF x:=by subst e;refine⟨by rw[aA];exact h1,by rw[aA];exact f,h⟩
theorem WM.hi(w:WM M n B)(h:M.length<=q):WM M n (B.set q x):=by obtain⟨c,L,rfl⟩:=w;refine⟨c,L.set (q-M.length) x,?_⟩;rw[List.set_append_right _ _ (by rw[MU];exact h),MU]
theorem zE{M:u8}{xs:List c9}(h:yi M (xs.map .str)):xs.Pairwise (λa b=>bh b a=b7):=by unfold yi at h;exact List.pairwise_map.mp h
def dY:A4:=λds M R=>∃(n m:Nat) (c:Int),ds=[.ref n,.int m]/\1<=m/\m<=4/\M[n]?=a7 (ah c)/\∀(xs:List c9) (B:u8),1<=xs.length->xs.length<=4->(∀x∈xs,fF x)->(xs.Nodup/\xs.Pairwise λa b=>bh b a=b7)->WM M n B->R (.ref B.length) (B++[.lst<|xs.map .str])
theorem AG:bZ dY uc:=by rintro ds M R ⟨n,m,c,rfl,_⟩;rfl
structure WdOk(kvs:List (c9×D)):Prop where
 nd:(kvs.map (·.1)).Nodup
 ok:∀p∈kvs,fF p.1
def qu:u7:=aK<|u5 io<|aa (ac 6) ad
def qv:u7:=z9 (al<|u4 A6 (ac 3)<|dC<|.int 0) (xZ (ac 6) (u5 jg<|aa (ac 0) ad)<|dC<|.bl a9)<|z9 (Fl (al<|u4 A6 (ac 3)<|dC<|.int 1)<|al<|u4 Nc (u4 aI (u5 eJ<|aa (ac 4) ad)<|ac 7)<|dC<|.int 9) (xZ (ac 6) (u4 aI (ac 4)<|E7 (dC<|.str "abc") aL<|bu<|ac 7)<|dC<|.bl a9)<|xZ (ac 6) (u4 aI (u4 aI (E7 (ac 4) aL<|bu<|ac 5)<|ac 8)<|E7 (ac 4) (bu<|u4 aI (ac 5)<|dC<|.int 1) aL)<|dC<|.bl a9
def qx:u7:=aB (sN (jf<|aa (dC<|.int 1)<|aa (ac 1) ad) (av 7)<|aB (bL (u4 w9 (ac 2)<|u4 xr (u4 aI (OJ lQ (ac 2)<|aa (u4 w9 (ac 4)<|ac 5) ad)<|ac 7)<|dC<|.int 26) 8)<|qv)<|qu
def qy:u7:=aB (bL (sO 4 a9) 6)<|qx
def qz:u7:=aB (bL (u5 am<|aa (ac 0)<|aa (u5 eJ<|aa (ac 4) ad) ad) 5)<|qy
def qA:u7:=aB (bL (u5 jg<|aa (ac 0) ad) 4)<|qz
def qC:u7:=aB (bL (u5 am<|aa (ac 0)<|aa (dC<|.int 3) ad) 3)<|qA
def yI:u7:=aB (bL (dC<|.str "abcdefghijklmnopqrstuvwxyz") 2)<|qC
theorem Cj:C6 dY 9 yI:=by
 rintro ds M R ⟨n,m,c,rfl,m1,m4,A,h⟩;have nM:n<M.length:=(A3.mp A).1;have hz:(AA1 "abcdefghijklmnopqrstuvwxyz").length<=sizeLine:=by decide +kernel
 simp only[yI,qC,qA,qz,qy];walk_at"dl";refine⟨n,c,3,rfl,A,by decide,by decide,λu c1 w0 w3=>?_⟩;refine⟨n,c1,rfl,cI A,λbase U s z=>?_⟩;obtain⟨b1,b8,T⟩:=id s;have z:WM M n U:=WM.drawn.trans A z;obtain⟨c2,Y⟩:=z.get A;refine⟨aq (by lia),n,c2,base.length,rfl,Y,by lia,by lia,λat_ c3 a0 a1=>?_⟩;have J:WM M n (U.set n<|ah c3):=z.set A _;generalize U.set n (ah c3)=V at J;have q0:M.length<=V.length:=J.len;obtain⟨g,rfl⟩:∃k:Nat,at_=(k:Int):=⟨at_.toNat,by lia⟩
 have ha:g < base.length:=by lia
 have O:g < base.cps.toList.length:=by rw[<-aA];exact ha
 simp only[qx];walk_at"dl";refine⟨⟨by lia,by lia,by lia,by lia⟩,?_⟩;generalize hq:V.length=q at q0;refine cA (λi S o=>∃(kvs:List (c9×D)) (a b:Option D),WdOk kvs/\1<=kvs.length/\kvs.length<=i+1/\WM M n o/\o[q]?=a7 (.dct kvs)/\S=[a7<|.ref n,a7<|.int m,a7<|.str<|AA1 "abcdefghijklmnopqrstuvwxyz",a7<|.int u,a7<|.str base,a7<|.int (g:Int),a7<|.ref q,a,b]) ?_ ?_ ⟨[(base,.bl a9)],_,_,⟨by simp,by simp[s]⟩,by simp,by simp,J.app _,by rw[<-hq];simp,rfl⟩;rintro S o ⟨kvs,a,b,ok,k1,k4,K,v,rfl⟩;rw[cO]at k4;refine⟨trivial,?_⟩;simp only[qu];walk_at"dl";unfold io;refine⟨(kvs.map (·.1)).map .str,.inr ⟨kvs,v,by rw[F9];rfl⟩,xk (by rw[x6];lia),λys aj C=>?_⟩;obtain⟨xs,rfl,E⟩:=zU aj;have xl:xs.length=kvs.length:=by rw[E.length_eq,x6]
 refine .inl<|h xs o (by lia) (by lia) (λx Q=>?_) ⟨E.nodup_iff.mpr ok.nd,zE C⟩ K;obtain⟨p,hp,rfl⟩:=A8.mp<|E.mem_iff.mp Q;exact ok.ok p hp;rintro i y S o hy ⟨kvs,a,b,ok,k1,k4,K,v,rfl⟩ G hG;obtain⟨hi,rfl⟩:=ik.mp hy;have ap:i<3:=by lia
 refine⟨trivial,?_⟩;walk_at"dl";have ai:=T _<|G6 O;have e1:atI base.cps.toList (g:Int)=a7 base.cps.toList[g]:=bp<|C4 O;refine⟨aq (by lia),?_⟩;rw[e1];generalize base.cps.toList[g]=L at ai;obtain⟨oi,F,ho⟩:∃(i:Nat) (aX:List Nat),Qy (AA1 "abcdefghijklmnopqrstuvwxyz") ⟨#[L]⟩ 0 (AA1 "abcdefghijklmnopqrstuvwxyz").length 1=i::aX:=by
  have f:=StrLaws.found_one (AA1 "abcdefghijklmnopqrstuvwxyz") L;have hl:(AA1 "abcdefghijklmnopqrstuvwxyz").cps.toList=(C3 26).map (· + 97):=by decide +kernel
  have hm:L∈(AA1 "abcdefghijklmnopqrstuvwxyz").cps.toList:=by rw[hl];exact A8.mpr ⟨L-97,I9.mpr (by lia),by lia⟩
  rw[dT_ hm]at f;cases e:Qy (AA1 "abcdefghijklmnopqrstuvwxyz") ⟨#[L]⟩ 0 (AA1 "abcdefghijklmnopqrstuvwxyz").length 1 with
  |nil=>rw[e]at f;cases f
  |cons i r=>exact⟨i,r,rfl⟩
 refine⟨oi,F,ho,by decide,hz,?_⟩;obtain⟨H,e4,Z⟩:=wI (i:=((oi:Int)+(1+(i:Int))) % 26) (Qb _<|by decide) (Ql _<|by decide);rw[e4];have I:∀(x:c9) (B:u8) (a b:Option D),fF x->WM M n B->B[q]?=a7 (.dct kvs)->G [a7<|.ref n,a7<|.int m,a7<|.str<|AA1 "abcdefghijklmnopqrstuvwxyz",a7<|.int u,a7<|.str base,a7<|.int (g:Int),a7<|.ref q,a,b] (B.set q<|.dct<|wj kvs x<|.bl a9):=λx B a b Q w v=>by have pl:=CI (kvs:=kvs) (k:=x) (d:=.bl a9);exact hG _ _ ⟨wj kvs x<|.bl a9,a,b,⟨zP ok.nd,CJ ok.ok Q⟩,pl.2,by lia,w.hi q0,O5 (A3.mp v).1,rfl⟩
 simp only[qv];walk_at"dl";refine⟨⟨af,af⟩,?_⟩;cases v7 o v6 (.int u) (.int 0) with
 |true=>refine aM ?_;obtain⟨c5,ab⟩:=K.get A;refine⟨n,c5,rfl,ab,λx B Q w=>?_⟩;have P:B[q]?=a7 (.dct kvs):=w.other (by lia) v;exact⟨kvs,P,small1000 (by lia),F5.now<|I x B _ _ Q (K.trans A w) P⟩
 |false =>
  refine bc ⟨⟨af,af⟩,?_⟩;have s1:(J6 base a8<|a7 (g:Int)).length<=8:=by have:=Txt.slice_le base a8<|a7 (g:Int);lia
  have s2:(J6 base (a7<|(g:Int)+1) a8).length<=8:=by have:=Txt.slice_le base (a7<|(g:Int)+1) a8;lia
  have X:=aA (a:=base);have an:fF (J6 base a8 (a7 (g:Int))++⟨#[H]⟩++J6 base (a7<|(g:Int)+1) a8):=by
   have e:(J6 base a8 (a7 (g:Int))++⟨#[H]⟩++J6 base (a7<|(g:Int)+1) a8).cps.toList=base.cps.toList.take g++[H]++base.cps.toList.drop (g+1):=by have e2:=xp base (g+1) (by lia);rw[show ((g+1:Nat):Int)=(g:Int)+1 by lia]at e2;rw[bC,bC,oO,e2]
   refine jK e (by simp;lia) (by rw[A7,A7,H9,N0,J4];lia) λc j=>?_;rcases F6.mp j with j|j;rcases F6.mp j with j|j;exact T c<|Qt j;rw[G1.mp j];exact Z;exact T c<|Rh j
  have t:base.length<=sizeLine/\(J6 base a8<|a7 (g:Int)).length+(⟨#[H]⟩:c9).length<=sizeLine/\base.length<=sizeLine/\(J6 base a8 (a7 (g:Int))++⟨#[H]⟩).length+(J6 base (a7<|(g:Int)+1) a8).length<=sizeLine /\ ∃kvs,o[q]?=a7 (MO.dct kvs)/\kvs.length<sizeLine/\F5 (V++[MO.dct [(base,D.bl a9)]]) G [a7<|D.ref n,a7<|D.int m,a7<|D.str<|AA1 "abcdefghijklmnopqrstuvwxyz",a7<|D.int u,a7<|D.str base,a7<|D.int (g:Int),a7<|D.ref q,a7<|D.int<|1+(i:Int),a7<|D.str ⟨#[H]⟩] (List.set o q<|MO.dct<|wj kvs (J6 base a8 (a7 (g:Int))++⟨#[H]⟩++J6 base (a7<|(g:Int)+1) a8)<|D.bl a9):=⟨aq (by lia),by rw[Ak];exact aq (by lia),aq (by lia),by rw[IA,Ak];exact aq (by lia),kvs,v,small1000 (by lia),F5.now<|I _ o _ _ an K v⟩
  cases v7 o v6 (.int u) (.int 1) with
  |false=>exact bc t
  |true =>
   refine aM ⟨aq (by lia),?_⟩;by_cases h9:(base.length:Int)+(1+(i:Int))<9;rw[dT_ h9];have W:(J6 (AA1 "abc") a8<|a7<|1+(i:Int)).cps.toList=(AA1 "abc").cps.toList.take (1+i):=by
    have:=oO (AA1 "abc")<|1+i
    rwa [show ((1+i:Nat):Int)=1+(i:Int) by lia]at this
   have N:(AA1 "abc").cps.toList=[97,98,99]:=by decide +kernel
   rw[N]at W;have l3:(J6 (AA1 "abc") a8<|a7<|1+(i:Int)).length=1+i:=by rw[aA,W,H9];simp;lia
   refine aM ⟨by decide +kernel,aq (by lia),kvs,v,small1000 (by lia),F5.now<|I _ o _ _ ?_ K v⟩;refine jK (l:=base.cps.toList++[97,98,99].take (1+i)) (by rw[bC,W]) (by rw[A7];lia) (by rw[A7,H9,<-X];have:min (1+i) ([97,98,99]:List Nat).length<=1+i:=Nat.min_le_left ..;lia) λc j=>?_;rcases F6.mp j with j|j;exact T c j;have:=Qt j;simp at this;lia;rw[dF_ h9];exact bc t
theorem CY(T:Tops P w K mg base):x5 P w K mg base 3 "_law_words" uc dY:=x5.byD (N:=["_law_well_here","_law_many","_law_letters","_law_way","_law_base","_law_at","_law_words_here","_law_k","_law_sign"]) T.b T.f_words (by walk_at"sc") AG (by have:=bR T;have:=Al T;walk_at"dv") Cj
structure HouseW(ps:List (c9×Int))(rs:List (c9×List c9)):Prop where
 nd:(ps.map (·.1)).Nodup
 len:1<=ps.length/\ps.length<=4
 many:∀p∈ps,1<=p.2/\p.2<=3
 nm:∀p∈ps,fF p.1
 up:(ps.map (·.1)).Pairwise λa b=>bh b a=b7
 rl:1<=rs.length/\rs.length<=4
 rn:∀r∈rs,fF r.1
 rnd:(rs.map (·.1)).Nodup
 rup:(rs.map (·.1)).Pairwise λa b=>bh b a=b7
 mem:∀r∈rs,r.2≠[]/\r.2.Sublist (ps.map (·.1))
noncomputable def sG(ps:List (c9×Int))(a:List (c9×List c9)):D:=.tup [.tup<|ps.map aw,.tup<|a.map aV]
def ku:A4:=λds M R=>∃(n:Nat) (c:Int),ds=[.ref n]/\M[n]?=a7 (ah c)/\∀ps a B,HouseW ps a->WM M n B->R (sG ps a) B
theorem AM:bZ ku ui:=by rintro ds M R ⟨n,c,rfl,_⟩;rfl
theorem pc(h:ao M n xs)(ok:∀x∈xs,x3 (M++[MO.lst []]) 29 x=a9):(x3 (M++[MO.lst []]) v6 (.ref n)=a9/\x3 (M++[MO.lst []]) v6 (.ref M.length)=a9)/\v7 (M++[MO.lst []]) v6 (.ref n) (.ref M.length)=xs.isEmpty:=by have h1:ao (M++[MO.lst []]) n xs:=h.more _;have h2:ao (M++[MO.lst []]) M.length []:=ae;refine⟨⟨cv (n:=29) h1 ok,cv (n:=29) h2 λ_ z=>nomatch z⟩,?_⟩;exact(fL (n:=29) h1 h2).trans By
theorem bo(h:m≠n)(l:ao M m xs):ao (M.set n x) m xs:=by rcases l with l|l|l;exact .inl (by rw[NB<|D3 h];exact l);exact .inr (.inl<|by rw[NB<|D3 h];exact l);exact .inr<|.inr<|by rw[NB<|D3 h];exact l
theorem aJ{M:u8}{m n:Nat}{x y:MO}(h:m≠n)(l:M[m]?=a7 y):(M.set n x)[m]?=a7 y:=by rw[NB<|D3 h];exact l
theorem cg{M:u8}{m:Nat}{y:MO}(l:M[m]?=a7 y):m<M.length:=(A3.mp l).1
theorem bY{B:u8}{q:Nat}{x a:MO}(h:B[q]?=a7 x):(B++[a])[q]?=a7 x:=by rw[J0 (A3.mp h).1];exact h
def qW:u7:=aK<|cR<|aa (u5 eZ<|aa (ac 1) ad)<|aa (u5 eZ<|aa (ac 3) ad) ad
def lG:u7:=nq<|NF dc (ac 3)<|aa (cR<|aa (ac 4)<|aa (u5 eZ<|aa (ac 5) ad) ad) ad
def qX:u7:=aB (z9 (al<|u4 A6 (ac 5)<|fM ad) (bL (fM<|aa (u4 w9 (u4 w9 (ac 1)<|u5 am<|aa (ac 0)<|aa (u5 eJ<|aa (ac 1) ad) ad)<|dC<|.int 0) ad) 5) ay)<|lG
def qY:u7:=aB (sN (bF<|u5 dY<|aa (ac 0)<|aa (u4 aI (dC<|.int 1)<|u5 am<|aa (ac 0)<|aa (dC<|.int 4) ad) ad) (av 4)<|aB (iG 2 [0] (bF<|ac 1) (jW 2<|bE (av 0)<|bE (av 1) jX) (al<|u4 N5 (u5 am<|aa (ac 2)<|aa (dC<|.int 4) ad)<|dC<|.int 0) (ac 0) 5)<|qX)<|qW
def lH:u7:=aB (bL (fM ad) 3)<|qY
def qZ:u7:=aB (sN (bF<|u5 dY<|aa (ac 0)<|aa (u4 aI (dC<|.int 1)<|u5 am<|aa (ac 0)<|aa (dC<|.int 4) ad) ad) (av 2)<|nq<|NF dc (ac 1)<|aa (cR<|aa (ac 2)<|aa (u4 aI (dC<|.int 1)<|u5 am<|aa (ac 0)<|aa (dC<|.int 3) ad) ad) ad)<|lH
def zc:u7:=aB (bL (fM ad) 1)<|qZ
theorem uS{M M':u8}{R:DK}{n:Nat}{c:Int}{xs:List c9}{ps:List (c9×Int)}{a:Option D}(C:M[n]?=a7 (ah c))(h:∀ps rs B,HouseW ps rs->WM M n B->R (sG ps rs) B)(w:WM M n M')(g:M'[M.length]?=a7 (.lst<|ps.map aw))(l:ps.map (·.1)=xs)(O:∀p∈ps,1<=p.2/\p.2<=3)(x1:1<=xs.length)(x4:xs.length<=4)(xn:∀x∈xs,fF x)(be:xs.Nodup)(bk:xs.Pairwise λa b=>bh b a=b7):lH (EE M R) [a7<|.ref n,a7<|.ref M.length,a,a8,a8,a8] M':=by
 have nM:n<M.length:=(A3.mp C).1;have pl:ps.length=xs.length:=by rw[<-l,x6]
 have mq:=cg g;simp only[lH,qY];walk_at"dl";obtain⟨c1,as⟩:=(w.app [MO.lst []]).get C;refine⟨D4 _,n,c1,4,rfl,as,by decide,by decide,λi c2 i0 i4=>?_⟩;obtain⟨m,hm⟩:∃k:Nat,(k:Int)=1+i:=⟨(1+i).toNat,by lia⟩
 have V:WM M n ((M'++[MO.lst []]).set n<|ah c2):=(w.app _).set C _;have F:((M'++[MO.lst []]).set n<|ah c2)[M'.length]?=a7 (.lst []):=aJ (by lia) aE;have Z:((M'++[MO.lst []]).set n<|ah c2)[M.length]?=a7 (.lst<|ps.map aw):=aJ (by lia)<|bY g;generalize (M'++[MO.lst []]).set n (ah c2)=B0 at V F Z;generalize M'.length=T at F mq;obtain⟨c3,aD⟩:=V.get C;show dY [D.ref n,D.int<|1+i] B0 _;rw[<-hm];refine⟨n,m,c3,rfl,by lia,by lia,aD,?_⟩;rintro ys U y1 y4 yn ⟨bl,bs⟩ w1;have ap:WM M n (U++[.lst<|ys.map .str]):=(V.trans C w1).app _;have ai:(U++[.lst<|ys.map .str])[T]?=a7 (.lst []):=bY<|w1.other (by lia) F;have ab:(U++[.lst<|ys.map .str])[M.length]?=a7 (.lst<|ps.map aw):=bY<|w1.other (by lia) Z;have I:ao (U++[.lst<|ys.map .str]) U.length (ys.map .str):=ae;have wl:T<U.length:=cg<|w1.other (by lia) F;generalize U++[MO.lst<|ys.map .str]=C1 at ap ai ab I;generalize U.length=wq at I wl;refine⟨_,I,λ_=>?_⟩;refine cA (λi S M'=>∃(rs:List (c9×List c9)) (a b d:Option D),rs.map (·.1)=ys.take i/\(∀r∈rs,r.2≠[]/\r.2.Sublist xs)/\WM M n M'/\M'[M.length]?=a7 (.lst<|ps.map aw)/\M'[T]?=a7 (.lst<|rs.map aV)/\ao M' wq (ys.map .str)/\S=[a7<|.ref n,a7<|.ref M.length,a,a7<|.ref T,b,d]) ?_ ?_ ⟨[],_,_,_,rfl,(λ_ z=>nomatch z),ap,ab,ai,I,rfl⟩;rintro S M2 ⟨rs,a,b,d,s,t,w,g,o,u,rfl⟩;rw[x6,Oh]at s;have rl:rs.length=ys.length:=by rw[<-s,x6]
 refine⟨u,?_⟩;simp only[qW];walk_at"dl";refine⟨_,.inl g,_,.inl o,aq (by lia),.inl<|h ps rs M2 ⟨by rw[l];exact be,by lia,O,λp hp=>xn _ (by rw[<-l];exact OE hp),by rw[l];exact bk,by lia,λr H=>yn _ (by rw[<-s];exact OE H),by rw[s];exact bl,by rw[s];exact bs,λr H=>by rw[l];exact t r H⟩ w⟩;rintro i y S M2 hy ⟨rs,a,b,d,s,t,w,g,o,u,rfl⟩ G hG;rw[G2]at hy;obtain⟨x,hx,rfl⟩:=O4.mp hy;refine⟨u,?_⟩;have bS:i<ys.length:=(A3.mp hx).1;have rl:rs.length=i:=by have:=t7 Ob s;rw[x6,H9]at this;lia
 have Y:∀(E:DEnds) (B:u8) (k:Nat) (ms:List c9) (a:Option D),E.nx=F5 C1 G->ms≠[]->ms.Sublist xs->WM M n B->B[M.length]?=a7 (.lst<|ps.map aw)->B[T]?=a7 (.lst<|rs.map aV)->ao B wq (ys.map .str)->ao B k (ms.map .str) -> lG E [a7<|.ref n,a7<|.ref M.length,a,a7<|.ref T,a7<|.str x,a7<|.ref k] B:=λE B k ms a hE m0 ba w g o u lm=>by simp only[lG];walk_at"dl";refine⟨⟨_,.inl o⟩,_,lm,aq (by lia),_,o,by rw[x6];exact small1000 (by lia),?_⟩;rw[hE];refine F5.now<|hG _ _ ⟨rs++[(x,ms)],_,_,_,?_,λr H=>?_,w.hi (by lia),aJ (by lia) g,?_,bo (by lia) u,rfl⟩;rw[MI,s,NM,hx];rfl;rcases F6.mp H with H|H;exact t r H;rw[G1.mp H];exact⟨m0,ba⟩;rw[cI o];simp[aV]
 walk_at"dl";refine⟨_,.inl g,λ_=>?_⟩;refine cS (λzs acc S A=>∃(j:Nat) (ms:List c9) (a b:Option D),zs=(ps.map aw).drop j/\acc=ms.map .str/\ms.Sublist (xs.take j)/\WM M n A/\A[M.length]?=a7 (.lst<|ps.map aw)/\A[T]?=a7 (.lst<|rs.map aV)/\ao A wq (ys.map .str)/\S=[a,b,a7<|.ref n]) ?_ ?_ _ _ _ _ ⟨0,[],_,_,rfl,rfl,List.nil_sublist _,w,g,o,u,rfl⟩;rintro acc S A ⟨j,ms,a,b,_,rfl,P,w,g,o,u,rfl⟩;have f:ms.Sublist xs:=P.trans<|Qi _ _;refine⟨.inl g,?_⟩;have l4:ao (A++[MO.lst<|ms.map .str]) A.length (ms.map .str):=ae;have q:=bY (a:=MO.lst<|ms.map .str) g;have L:=bY (a:=MO.lst<|ms.map .str) o;have Q:=u.more [MO.lst<|ms.map .str];have J:=w.app [MO.lst<|ms.map .str];generalize A++[MO.lst<|ms.map .str]=M4 at l4 q L Q J;generalize A.length=k at l4;simp only[qX];walk_at"dl";obtain⟨bd,X⟩:=pc (M:=M4) l4 λy hy=>by obtain⟨z,_,rfl⟩:=A8.mp hy;exact aF
 refine⟨D4 _,bd,?_⟩;rw[X];cases an:(ms.map D.str).isEmpty with
 |false=>refine bc<|Y _ _ k ms _ rfl (λz=>by rw[z]at an;cases an) f (J.app _) (bY q) (bY L) (Q.more _)<|l4.more _
 |true =>
  refine aM ?_;obtain⟨c5,N⟩:=(J.app [MO.lst []]).get C;refine⟨_,.inl<|bY q,n,c5,_,rfl,N,by rw[x6];lia,by rw[x6];lia,λv c6 v0 v1=>⟨_,.inl<|aJ (by lia)<|bY q,?_⟩⟩;obtain⟨j,W,ej,_⟩:=cy (xs:=ps.map aw) v0 v1;rw[ej,OX];rw[x6]at W;simp only[aw];walk_at"dl";have aT:(ps[j]).1∈xs:=by rw[<-l];exact OE<|G6 W
  refine⟨aq (by lia),?_⟩;refine Y _ _ _ [(ps[j]).1] _ rfl (by simp) (List.singleton_sublist.mpr aT) (((J.app _).set C _).app _) (bY<|aJ (by lia)<|bY q) (bY<|aJ (by lia)<|bY L) ((bo (by lia)<|Q.more _).more _) ae
 rintro y zs acc S A ⟨j,ms,a,b,hz,rfl,f,w,g,o,u,rfl⟩ K hK;have W:j<(ps.map aw).length:=by refine Oo λz=>?_;rw[RO<|by lia]at hz;cases hz
 rw[List.drop_eq_getElem_cons W]at hz;injection hz with e1 e2;subst e1;refine⟨.inl g,?_⟩;rw[OX];have aS:j<ps.length:=by rw[x6]at W;exact W
 have aj:j<xs.length:=by lia
 have ex:(ps[j]).1=xs[j]:=by
  have e:(ps.map (·.1))[j]?=xs[j]?:=by rw[l]
  rw[G2,C4 aS,C4 aj]at e;exact F3 e
 simp only[aw];obtain⟨c5,N⟩:=w.get C;walk_at"dl";refine⟨trivial,n,c5,4,rfl,N,by decide,by decide,λv c6 v0 v4=>?_⟩;have ml:=f.length_le;rw[H9]at ml;dsimp only;by_cases hv:0<v;rw[dT_ hv];refine aM ⟨by rw[x6];exact small1000 (by lia),hK _ _ _ ⟨j+1,ms++[(ps[j]).1],_,_,e2,by simp,?_,w.set C _,aJ (by lia) g,aJ (by lia) o,bo (by lia) u,rfl⟩⟩;rw[ex,NM,C4 aj];exact f.append<|List.Sublist.refl _;rw[dF_ hv];refine bc<|hK _ _ _ ⟨j+1,ms,_,_,e2,rfl,?_,w.set C _,aJ (by lia) g,aJ (by lia) o,bo (by lia) u,rfl⟩;rw[NM];exact f.trans<|List.sublist_append_left _ _
theorem Cp:C6 ku 6 zc:=by
 rintro ds M R ⟨n,c,rfl,f,h⟩;have N:n<M.length:=(A3.mp f).1;simp only[zc,qZ];walk_at"dl";have L:(M++[MO.lst []])[n]?=a7 (ah c):=by rw[J0 N];exact f
 have A:WM M n (M++[MO.lst []]):=(WM.now f).app _;refine⟨D4 _,n,c,4,rfl,L,by decide,by decide,λi q i0 i4=>?_⟩;obtain⟨m,J⟩:∃k:Nat,(k:Int)=1+i:=⟨(1+i).toNat,by lia⟩
 have V:WM M n ((M++[MO.lst []]).set n<|ah q):=A.set f _;have r:((M++[MO.lst []]).set n<|ah q)[M.length]?=a7 (.lst []):=aJ (by lia) aE;generalize (M++[MO.lst []]).set n (ah q)=E at V r;obtain⟨F,s⟩:=V.get f;show dY [D.ref n,D.int<|1+i] E _;rw[<-J];refine⟨n,m,F,rfl,by lia,by lia,s,?_⟩;rintro xs U W X Y ⟨B,C⟩ u;have w:WM M n (U++[.lst<|xs.map .str]):=(V.trans f u).app _;have g1:(U++[.lst<|xs.map .str])[M.length]?=a7 (.lst []):=bY<|u.other (by lia) r;have e:ao (U++[.lst<|xs.map .str]) U.length (xs.map .str):=ae;have P:M.length<U.length:=cg<|u.other (by lia) r;generalize U++[MO.lst<|xs.map .str]=Z at w g1 e;generalize U.length=T at e P;refine⟨_,e,λ_=>?_⟩;refine cA (λi S b=>∃(ps:List (c9×Int)) (a:Option D),ps.map (·.1)=xs.take i/\(∀p∈ps,1<=p.2/\p.2<=3)/\WM M n b/\b[M.length]?=a7 (.lst<|ps.map aw)/\ao b T (xs.map .str)/\S=[a7<|.ref n,a7<|.ref M.length,a,a8,a8,a8]) ?_ ?_ ⟨[],_,rfl,(λ_ z=>nomatch z),w,g1,e,rfl⟩;rintro S b ⟨ps,a,l,O,o,g,j,rfl⟩;rw[x6,Oh]at l;refine⟨j,?_⟩;exact uS f h o g l O W X Y B C;rintro i y S b Q ⟨ps,a,l,O,o,g,j,rfl⟩ G I;rw[G2]at Q;obtain⟨x,K,rfl⟩:=O4.mp Q;refine⟨j,?_⟩;obtain⟨H,t⟩:=o.get f;walk_at"dl";refine⟨⟨_,.inl g⟩,n,H,3,rfl,t,by decide,by decide,λv c4 v0 v3=>⟨aq (by lia),_,aJ (by lia) g,?_,?_⟩⟩;have:=t7 Ob l;rw[x6,H9]at this;rw[x6];exact small1000 (by lia);refine F5.now<|I _ _ ⟨ps++[(x,1+v)],_,?_,λp d=>?_,(o.set f _).hi<|z5 _,?_,bo (by lia)<|bo (by lia) j,rfl⟩;rw[MI,l,NM,K];rfl;rcases F6.mp d with d|d;exact O p d;rw[G1.mp d];dsimp only;lia;rw[cI<|aJ (by lia) g];simp[aw]
theorem Dc(T:Tops P w K mg base):x5 P w K mg base 4 "_law_house" ui ku:=x5.byD (N:=["_law_well_here","_law_people","_law_name","_law_rooms","_law_room","_law_members"]) T.b T.f_house (by walk_at"sc") AM (by have:=bR T;have:=CY T;walk_at"dv") Cp
noncomputable def cH(p:c9×Int):List D:=(lN 0 p.2.toNat).map λk=>.tup [.str p.1,k]
noncomputable def ak(ps:List (c9×Int)):List D:=ps.flatMap cH
def MT(ps:List (c9×Int)):Prop:=ps.length<=4/\∀p∈ps,0<=p.2/\p.2<=3
def eB:A4:=λds M R=>∃(ps:List (c9×Int)) (r:List D),ds=[.tup<|.tup (ps.map aw)::r]/\MT ps/\R (.ref M.length) (M++[.lst<|ak ps])
theorem AN:bZ eB uj:=by rintro ds M R ⟨ps,r,rfl,_⟩;rfl
theorem gJ:(cH p).length=p.2.toNat:=by simp[cH,lN]
theorem cb(h:∀p∈ps,0<=p.2/\p.2<=3):(ak ps).length<=3*ps.length:=by
 induction ps with
 |nil=>simp[ak]
 |cons p ps i =>
  have:=i λq a=>h q<|C0 _ a;have h1:=h p C7;have e:(ak<|p::ps).length=p.2.toNat+(ak ps).length:=by rw[ak,List.flatMap_cons,A7,gJ];rfl
  rw[e,C5];lia
theorem xS:Bels k (ak ps):=Bels.of λd a=>by unfold ak at a;obtain⟨p,_,h⟩:=List.mem_flatMap.mp a;unfold cH lN at h;simp only[F9,A8]at h;obtain⟨i,_,rfl⟩:=h;exact .tup<|.cons (.str _)<|.cons (.int _) .nil
theorem iD(h:d∈ak ps):∃p∈ps,∃k:Nat,d=.tup [.str p.1,.int (k:Int)]/\k<p.2.toNat:=by unfold ak at h;obtain⟨p,b,a⟩:=List.mem_flatMap.mp h;unfold cH at a;obtain⟨q,c,rfl⟩:=A8.mp a;obtain⟨i,hi⟩:=NP c;obtain⟨h1,rfl⟩:=ik.mp hi;exact⟨p,b,i,by rw[Int.zero_add],h1⟩
def rh:u7:=aK<|ac 1
def rj:u7:=aB (sN (bF<|u4 w9 (ac 0)<|dC<|.int 0) (jW 2<|bE (av 2)<|bE (av 3) jX)<|nq<|NF lS (ac 1)<|aa (F7 1 [2] (cw<|aa (ac 3) ad) (av 0) je<|cR<|aa (ac 1)<|aa (ac 0) ad) ad)<|rh
def zd:u7:=aB (bL (fM ad) 1)<|rj
theorem Cq:C6 eB 4 zd:=by
 rintro ds M R ⟨ps,r,rfl,⟨m,f⟩,h⟩;simp only[zd,rj];walk_at"dl";refine⟨D4 _,λ_=>?_⟩;have l:∀qs:List (c9×Int),(∀p∈qs,p∈ps)->qs.length<=4->(ak qs).length<=12:=λqs h1 h2=>by have:=cb (ps:=qs) λp g=>f p<|h1 p g;lia
 refine fN (λys S d=>∃qs s a b L,ps=qs++s/\ys=s.map aw/\d=M++(.lst (ak qs)::L)/\S=[a7<|.tup<|.tup (ps.map aw)::r,a7<|.ref M.length,a,b]) ?_ ?_ _ _ _ ⟨[],ps,_,_,[],rfl,rfl,rfl,rfl⟩;rintro S d ⟨qs,s,a,b,L,e,c,rfl,rfl⟩;have:s=[]:=by cases s<;>simp_all
 subst this;rw[NZ]at e;subst e;refine⟨trivial,?_⟩;simp only[rh];walk_at"dl";exact ar.lst h (z5 _) (by simp) xS;rintro x xs S d ⟨qs,s,a,b,L,e,c,rfl,rfl⟩ G i;cases s with
 |nil=>cases c
 |cons p s =>
  rw[B9]at c;injection c with e1 e2;subst e1;have g:=f p (by rw[e];simp);refine⟨trivial,?_⟩;unfold aw;walk_at"dl";refine⟨trivial,⟨ak qs,.inl<|by simp⟩,⟨by lia,by lia⟩,?_⟩;refine bb (λk=>.tup [.str p.1,k]) (λS=>∃a,S=[a,a7<|.str p.1]) trivial _ _ _ (λk n S j=>?_) ⟨_,rfl⟩ ?_ ?_;obtain⟨a,rfl⟩:=j;refine⟨[a7 k,a7<|.str p.1],⟨_,rfl⟩,λY D=>?_⟩;walk_at"dl";exact⟨aq (by lia),D⟩;simp only[Fn,cO];exact aq (by lia);have y:ps.length=qs.length+(s.length+1):=by rw[e];simp
  have o:=l qs (λq c=>by rw[e];simp[c]) (by lia);refine⟨ak qs,cH p,by simp,by simp[cH],by simp,?_,?_⟩;rw[gJ];exact aq (by lia);refine F5.now<|i _ _ ⟨qs++[p],s,_,_,L++[.lst<|cH p],by rw[e];simp,e2,?_,rfl⟩;have:ak (qs++[p])=ak qs++cH p:=by simp[ak]
  rw[this,Nk,Oy,iP];rfl
theorem ka(T:Tops P w K mg base):x5 P w K mg base 1 "_law_hands" uj eB:=x5.byD (N:=["_law_house_here","_law_hands_here","_law_name","_law_many"]) T.b T.f_hands (by walk_at"sc") AN (by walk_at"dv") Cq
def pX(c:Nat):Prop:=32<=c/\c<=126
def SayS(x:c9):Prop:=1<=x.length/\x.length<=60/\∀c∈x.cps.toList,pX c
def OM(x:c9):Prop:=1<=x.length/\x.length<=10/\∀c∈x.cps.toList,pX c
theorem CA(z:c9):∀{xs:List c9},(∀x∈xs,1<=x.length)->1<=xs.length->1<=(N7 z xs).length
 | [],_,h=>by simp at h
 | [x],h,_=>h x<|by simp
 |x::y::r,h,_=>by have:=h x (by simp);show 1<=((x++z)++N7 z (y::r)).length;rw[aA,bC,bC,A7,A7,<-aA];lia
theorem rJ(z:c9):∀{xs:List c9},c∈(N7 z xs).cps.toList->c∈z.cps.toList\/∃x∈xs,c∈x.cps.toList
 | [],h=>nomatch h
 | [x],h=>.inr ⟨x,by simp,h⟩
 |x::y::r,h=>by
  have h:c∈((x++z)++N7 z (y::r)).cps.toList:=h;rw[bC,bC,F6,F6]at h;rcases h with(h|h)|h;exact .inr ⟨x,by simp,h⟩;exact .inl h;rcases rJ z h with h|⟨w,hw,h⟩
  exact .inl h;exact .inr ⟨w,C0 _ hw,h⟩
theorem Js(h1:1<=xs.length)(hz:∀c∈z.cps.toList,pX c)(b:∀x∈xs,OM x):SayS (J6 (Ot z xs) a8<|a7 60):=by
 have e:(J6 (Ot z xs) a8<|a7 60).cps.toList=(N7 z xs).cps.toList.take 60:=by rw[show (a7 (60:Int))=a7 ((60:Nat):Int)from rfl,oO];unfold Ot;rw[RJ]
 have g:=CA z (λx a=>(b x a).1) h1;rw[aA]at g;refine⟨by rw[aA,e,H9];lia,by rw[aA,e,H9];lia,λc f=>?_⟩;rw[e]at f;rcases rJ z (Qt f)with h|⟨x,a,h⟩
 exact hz c h;exact(b x a).2.2 c h
def fE:A4:=λds M R=>∃(n:Nat) (c:Int) (p:c9×Int) (ps:List (c9×Int)) (r:List D),ds=[.ref n,.tup<|.tup ((p::ps).map aw)::r]/\M[n]?=a7 (ah c)/\MT (p::ps)/\(∀q∈p::ps,fF q.1)/\∀(x:c9) (B:u8),SayS x->WM M n B->R (.str x) B
theorem xJ:bZ fE oW:=by rintro ds M R ⟨n,c,p,ps,r,rfl,_⟩;rfl
theorem EO:∀xs:List c9,(∀x∈xs,x.length<=k)->(xs.map<|λx=>x.length).sum<=k*xs.length
 | [],_=>D4 _
 |x::r,h=>by have ih:=EO r λy hy=>h y<|C0 _ hy;have h0:=h x (by simp);rw[B9,List.sum_cons,C5,Nat.mul_succ];lia
theorem wc(z:c9):∀xs:List c9,(N7 z xs).length<=(xs.map<|λx=>x.length).sum+xs.length*z.length
 | []=>D4 _
 | [x]=>by show x.length<=x.length+0+1*z.length;lia
 |x::y::r=>by have ih:=wc z<|y::r;show ((x++z)++N7 z (y::r)).length<=_;rw[aA,bC,bC,A7,A7,<-aA,<-aA,<-aA,B9,List.sum_cons,C5,Nat.succ_mul];lia
theorem Hj(z:c9)(xs:List c9):(Ot z xs).length<=(xs.map<|λx=>x.length).sum+xs.length*z.length:=by unfold Ot;rw[RJ];exact wc z xs
def nC:u7:=aK<|E7 (OJ tZ (u4 w9 (ac 2)<|u5 am<|aa (ac 0)<|aa (dC<|.int 12) ad)<|aa (ac 5) ad) aL<|bu<|dC<|.int 60
def nD:u7:=aB (iG 1 [4,0] (cw<|aa (u4 aI (dC<|.int 1)<|u5 am<|aa (ac 0)<|aa (dC<|.int 4) ad) ad) (av 0) je (u4 w9 (ac 1)<|u5 am<|aa (ac 2)<|aa (u5 eJ<|aa (ac 1) ad) ad) 5)<|nC
def iM:u7:=aB (z9 (al<|u4 A6 (u5 am<|aa (ac 0)<|aa (dC<|.int 3) ad)<|dC<|.int 0) (aK<|OJ tZ (dC<|.str "")<|aa (F7 1 [3,0] (cw<|aa (u4 aI (dC<|.int 1)<|u5 am<|aa (ac 0)<|aa (dC<|.int 60) ad) ad) (av 0) je<|u4 w9 (ac 1)<|u5 am<|aa (ac 2)<|aa (dC<|.int 94) ad) ad) ay)<|nD
def nE:u7:=aB (bL (u4 aI (F7 2 [] (bF<|u4 w9 (ac 1)<|dC<|.int 0) (jW 2<|bE (av 0)<|bE (av 1) jX) je<|u4 aI (dC<|.str "@")<|ac 0)<|fM<|aa (dC<|.str "hi")<|aa (dC<|.str "a")<|aa (u4 aI (u4 aI (dC<|.str "@")<|u4 w9 (u4 w9 (u4 w9 (ac 1)<|dC<|.int 0)<|dC<|.int 0)<|dC<|.int 0)<|dC<|.str "x") ad) 4)<|iM
def nF:u7:=aB (bL (dC<|.str " !\"#$&'()*+,-./0123456789:;<=>?@ABCDEFGHIJKLMNOPQRSTUVWXYZ[\\]^_`abcdefghijklmnopqrstuvwxyz{|}~") 3)<|nE
def vI:u7:=aB (bL (dC<|.str " @abz.,Z0~!-") 2)<|nF
theorem CD{M B:u8}{R:DK}{n k:Nat}{c:Int}{g l:c9}{y1:Option D}{xs:List c9}(f:M[n]?=a7 (ah c))(hs:g.cps.toList.length=12)(he:l.cps.toList.length=94)(X:∀c∈g.cps.toList,pX c)(U:∀c∈l.cps.toList,pX c)(hx:∀x∈xs,OM x)(x1:1<=xs.length)(x9:xs.length<=9)(b:WM M n B)(u:B[k]?=a7 (.lst<|xs.map .str))(I:k≠n)(h:∀(x:c9) (B:u8),SayS x->WM M n B->R (.str x) B):iM (EE M R) [a7<|.ref n,y1,a7<|.str g,a7<|.str l,a7<|.ref k,a8] B:=by
 have sl:g.length=12:=by rw[aA];exact hs
 have el:l.length=94:=by rw[aA];exact he
 simp only[iM];walk_at"dl";obtain⟨c1,T⟩:=b.get f;refine⟨n,c1,3,rfl,T,by decide,by decide,λi O i0 i3=>⟨⟨af,af⟩,?_⟩⟩;have J:WM M n (B.set n<|ah O):=b.set f _;have E:(B.set n<|ah O)[k]?=a7 (.lst<|xs.map .str):=aJ I u;generalize B.set n (ah O)=V at J E;obtain⟨c3,C⟩:=J.get f;cases v7 V v6 (.int i) (.int 0) with
 |true=>refine aM ⟨n,c3,60,rfl,C,by decide,by decide,λj H j0 an=>⟨⟨by lia,by lia⟩,?_⟩⟩;have r:WM M n (V.set n<|ah H):=J.set f _;refine cS (λys acc S d=>∃(cs:List Nat) (a:Option D),acc=(cs.map one).map .str/\(∀c∈cs,pX c)/\cs.length+ys.length=(1+j).toNat/\WM M n d/\S=[a,a7<|.str l,a7<|.ref n]) ?_ ?_ _ _ _ _ ⟨[],_,rfl,(λ_ z=>nomatch z),by rw[cO];simp,r,rfl⟩;rintro acc S d ⟨cs,a,rfl,o,p,b,rfl⟩;simp only[Fn,Nat.add_zero]at p;refine⟨trivial,cs.map one,ae,?_,.inl<|h _ _ ⟨by rw[aA,dm];lia,by rw[aA,dm];lia,by rw[dm];exact o⟩<|b.app _⟩;rw[oN,x6,show (AA1 "").length=0 by decide +kernel];lia;rintro y ys acc S d ⟨cs,a,rfl,o,p,b,rfl⟩ K Q;refine⟨trivial,?_⟩;obtain⟨w,Z⟩:=b.get f;walk_at"dl";refine⟨n,w,94,rfl,Z,by decide,by decide,λv P Y aj=>⟨aq (by lia),?_⟩⟩;obtain⟨e,L,A,_⟩:=cy (xs:=l.cps.toList) Y (by rw[he];exact aj);rw[A];rw[C5]at p;exact⟨by rw[x6,x6];exact small1000 (by lia),Q _ _ _ ⟨cs++[l.cps.toList[e]],_,by simp[one],λc F=>(F6.mp F).elim (o c) λq=>by rw[G1.mp q];exact U _<|G6 L,by rw[A7,J4];lia,b.set f _,rfl⟩⟩
 |false=>refine bc ?_;simp only[nD];walk_at"dl";refine⟨n,c3,4,rfl,C,by decide,by decide,λj H j0 j4=>⟨⟨by lia,by lia⟩,?_⟩⟩;have r:WM M n (V.set n<|ah H):=J.set f _;have W:(V.set n<|ah H)[k]?=a7 (.lst<|xs.map .str):=aJ I E;refine cS (λys acc S d=>∃(s:List c9) (a:Option D),acc=s.map .str/\(∀z∈s,OM z)/\s.length+ys.length=(1+j).toNat/\WM M n d/\d[k]?=a7 (.lst<|xs.map .str)/\S=[a,a7<|.ref k,a7<|.ref n]) ?_ ?_ _ _ _ _ ⟨[],_,rfl,(λ_ z=>nomatch z),by rw[cO];simp,r,W,rfl⟩;rintro acc S d ⟨s,a,rfl,G,p,b,u,rfl⟩;simp only[Fn,Nat.add_zero]at p;refine⟨trivial,?_⟩;simp only[nC];walk_at"dl";have t:=b.app [MO.lst<|s.map D.str];have l5:ao (d++[MO.lst<|s.map D.str]) d.length (s.map D.str):=ae;have ml:=b.len;obtain⟨P,N⟩:=t.get f;have nM:n<M.length:=(A3.mp f).1;generalize d++[MO.lst<|s.map D.str]=B5 at t l5 N;generalize d.length=q at l5 ml;refine⟨n,P,12,rfl,N,by decide,by decide,λv c6 Y ai=>⟨aq (by lia),?_⟩⟩;obtain⟨e,L,A,_⟩:=cy (xs:=g.cps.toList) Y (by rw[hs];exact ai);rw[A];have s1:=EO s λz ab=>(G z ab).2.1;have e1:({ cps:=#[g.cps.toList[e]] }:c9).length=1:=rfl;have j1:=Hj { cps:=#[g.cps.toList[e]] } s;rw[e1]at j1;refine⟨s,bo (by lia) l5,by rw[e1];lia,aq (by lia),.inl<|h _ _ (Js (by lia) (λc F=>by rw[show ({ cps:=#[g.cps.toList[e]] }:c9).cps.toList=[g.cps.toList[e]]from rfl,G1]at F;rw[F];exact X _<|G6 L) G)<|t.set f _⟩;rintro y ys acc S d ⟨s,a,rfl,G,p,b,u,rfl⟩ K Q;refine⟨trivial,?_⟩;obtain⟨w,Z⟩:=b.get f;walk_at"dl";refine⟨_,.inl u,?_⟩;rw[x6];refine⟨n,w,xs.length,rfl,Z,by lia,by lia,λv P Y v1=>⟨_,.inl<|aJ I u,?_⟩⟩;obtain⟨e,L,A,_⟩:=cy (xs:=xs.map D.str) Y (by rw[x6];exact v1);rw[A];rw[x6]at L;rw[C5]at p;refine⟨by rw[x6];exact small1000 (by lia),Q _ _ _ ⟨s++[xs[e]],_,by simp,λz m=>?_,by rw[A7,J4];lia,b.set f _,aJ I u,rfl⟩⟩;rcases F6.mp m with m|m;exact G z m;rw[G1.mp m];exact hx _<|G6 L
theorem yt:C6 fE 6 vI:=by
 rintro ds M R ⟨n,c,⟨z,m⟩,ps,r,rfl,s,j,g,h⟩;have l:∀q∈(z,m)::ps,q.1.length<=8:=λq f=>(g q f).2.1;have N:n<M.length:=(A3.mp s).1;have G:=j.1;have K:z.length<=8:=l (z,m) (by simp);rw[C5]at G;rw[B9,show aw (z,m)=.tup [.str z,.int m]from rfl];simp only[vI,nF,nE];walk_at"dl";intro _;refine bb (λd=>match d with|.tup (.str x::_)=>.str (AA1 "@" ++ x)|_=>.non) (λS=>∃a b,S=[a,b]) trivial _ _ _ (λk o S H=>?_) ⟨_,_,rfl⟩ ?_ ?_;obtain⟨a,b,rfl⟩:=H;have:∃q∈(z,m)::ps,k=.tup [.str q.1,.int q.2]:=by rcases A5.mp o with rfl|o;exact⟨(z,m),by simp,rfl⟩;obtain⟨q,f,rfl⟩:=A8.mp o;exact⟨q,C0 _ f,rfl⟩
 obtain⟨q,f,rfl⟩:=this;have:=l q f;refine⟨[a7<|.str q.1,a7<|.int q.2],⟨_,_,rfl⟩,λY I=>?_⟩;walk_at"dl";refine⟨trivial,?_,I⟩;rw[show (AA1 "@").length=1 by decide +kernel];exact aq (by lia);rw[Fn,C5,x6];exact aq (by lia);have e:∀q:List (c9×Int),(q.map aw).map (λd=>match d with|.tup (.str x::_)=>.str (AA1 "@" ++ x)|_=>.non)=(q.map λy=>AA1 "@" ++ y.1).map D.str:=λq=>by rw[F9,F9];rfl
 have E:(AA1 "@").length=1:=by decide +kernel
 have W:(AA1 "x").length=1:=by decide +kernel
 have J:(AA1 "@" ++ z).length=1+z.length:=by rw[aA,bC,A7,<-aA,<-aA,E]
 have B:∀{x:c9},fF x->∀c∈x.cps.toList,pX c:=λt c i=>by have:=t.2.2 c i;exact⟨by lia,by lia⟩
 have at1:∀c∈(AA1 "@").cps.toList,pX c:=by unfold pX;decide +kernel
 have p:∀{x y:c9},(∀c∈x.cps.toList,pX c)->(∀c∈y.cps.toList,pX c)->∀c∈(x++y).cps.toList,pX c:=λt Q c i=>by rw[bC,F6]at i;exact i.elim (t c)<|Q c
 have v:∀y∈((z,m)::ps).map (λy=>AA1 "@" ++ y.1),OM y:=λy Q=>by
  obtain⟨q,f,rfl⟩:=A8.mp Q;have:=l q f;have e:(AA1 "@" ++ q.1).length=1+q.1.length:=by rw[aA,bC,A7,<-aA,<-aA,E]
  exact⟨by lia,by lia,p at1<|B<|g q f⟩
 have C:∀c∈(AA1 "@" ++ z).cps.toList,pX c:=p at1 (B<|g (z,m)<|by simp);rw[show (D.tup [.str z,.int m])=aw (z,m)from rfl,<-B9,e<|(z,m)::ps,G5];have A:(((z,m)::ps).map<|λy=>AA1 "@" ++ y.1).length=ps.length+1:=by rw[x6,C5]
 generalize ((z,m)::ps).map (λy=>AA1 "@" ++ y.1)=ns at v A;generalize AA1 "@" ++ z=w at J C;refine⟨aq (by lia),aq (by lia),aq (by lia),_,_,au aE,aE,?_,?_⟩;rw[x6];exact aq (by simp only[C5,Fn];lia);rw[show [D.str<|AA1 "hi",D.str<|AA1 "a",D.str<|w++AA1 "x"]=[AA1 "hi",AA1 "a",w++AA1 "x"].map D.str from rfl,<-MI];have u:∀y∈ns++[AA1 "hi",AA1 "a",w++AA1 "x"],OM y:=λy Q=>by
  rcases F6.mp Q with Q|Q;exact v y Q;simp only[A5,MV,or_false]at Q;rcases Q with rfl|rfl|rfl;unfold OM pX;decide +kernel;unfold OM pX;decide +kernel;have e:(w++AA1 "x").length=w.length+1:=by rw[aA,bC,A7,<-aA,<-aA,W]
  exact⟨by lia,by lia,p C<|by unfold pX;decide +kernel⟩
 have P:(ns++[AA1 "hi",AA1 "a",w++AA1 "x"]).length=ps.length+4:=by rw[A7,A];rfl
 generalize ns++[AA1 "hi",AA1 "a",w++AA1 "x"]=F at u P;refine CD s (by decide +kernel) (by decide +kernel) (by unfold pX;decide +kernel) (by unfold pX;decide +kernel) u (by lia) (by lia) ((((WM.now s).app _).app _).app _) aE ?_ h;simp only[A7,J4];lia
theorem An(T:Tops P w K mg base):x5 P w K mg base 2 "_law_saying" oW fE:=x5.byD (N:=["_law_well_here","_law_house_here","_law_signs","_law_every","_law_some","_law_parts"]) T.b T.f_saying (by walk_at"sc") xJ (by have:=bR T;walk_at"dv") yt
def fQ:A4:=λds M R=>∃(n q:Nat) (c:Int) (ps:List (c9×Int)) (r s:List D),ds=[.ref n,.tup<|.tup (ps.map aw)::r,.ref q]/\M[n]?=a7 (ah c)/\ao M q s/\q≠n/\(∀x∈s,∀B:u8,x3 B 29 x=a9)/\s.length<=1000/\MT ps/\1<=(ak ps).length /\(∀(d:D) (B:u8),d∈s->WM M n B->R d B)/\∀(t:Int) (d:D) (B:u8),1<=t->d∈ak ps->WM M n B->R (.tup [.int t,d]) B
theorem AK:bZ fQ ug:=by rintro ds M R ⟨n,q,c,ps,r,s,rfl,_⟩;rfl
def qH:u7:=aK<|cR<|aa (u4 aI (dC<|.int 1)<|u5 am<|aa (ac 0)<|aa (u4 w9 (fM<|aa (dC<|.int 4)<|aa (u4 FP (dC<|.int 10)<|dC<|.int 9) ad)<|u5 am<|aa (ac 0)<|aa (dC<|.int 2) ad) ad)<|aa (u4 w9 (ac 3)<|u5 am<|aa (ac 0)<|aa (u5 eJ<|aa (ac 3) ad) ad) ad
def kB:u7:=aB (bL (u5 eB<|aa (ac 1) ad) 3)<|qH
def yL:u7:=aB (z9 (Fl (al<|u4 MZ (ac 2)<|fM ad)<|al<|u4 N5 (u5 am<|aa (ac 0)<|aa (dC<|.int 8) ad)<|dC<|.int 0) (aK<|u4 w9 (ac 2)<|u5 am<|aa (ac 0)<|aa (u5 eJ<|aa (ac 2) ad) ad) ay)<|kB
theorem zr{M B:u8}{R:DK}{n:Nat}{c:Int}{ps:List (c9×Int)}{r:List D}{S:Option D}(a:M[n]?=a7 (ah c))(f:MT ps)(h1:1<=(ak ps).length)(x:WM M n B)(h:∀(t:Int) (d:D) (B:u8),1<=t->d∈ak ps->WM M n B->R (.tup [.int t,d]) B):kB (EE M R) [a7<|.ref n,a7<|.tup<|.tup (ps.map aw)::r,S,a8] B:=by
 have nM:n<M.length:=(A3.mp a).1;have Y:=cb f.2;have X:=f.1;simp only[kB];walk_at"dl";refine⟨ps,r,rfl,f,?_⟩;have z:=x.app [MO.lst<|ak ps];have o:(B++[MO.lst<|ak ps])[B.length]?=a7 (.lst<|ak ps):=aE;have A:=x.len;generalize B++[MO.lst<|ak ps]=U at z o;generalize B.length=k at o A;simp only[qH];walk_at"dl";have J:=z.app [MO.lst [D.int 4,D.int<|10 ^ NR 9]];have s:(U++[MO.lst [D.int 4,D.int<|10 ^ NR 9]])[k]?=a7 (.lst<|ak ps):=bY o;have E:ao (U++[MO.lst [D.int 4,D.int<|10 ^ NR 9]]) U.length [D.int 4,D.int<|10 ^ NR 9]:=ae;have y:=z.len;obtain⟨C,g⟩:=J.get a;generalize U++[MO.lst [D.int 4,D.int<|10 ^ NR 9]]=V at J s E g;generalize U.length=k2 at E y;refine⟨by unfold MB;decide,aq (by lia),n,C,2,rfl,g,by decide,by decide,λi G i0 i2=>⟨_,bo (by lia) E,?_⟩⟩;have b:WM M n (V.set n<|ah G):=J.set a _;have u:(V.set n<|ah G)[k]?=a7 (.lst<|ak ps):=aJ (by lia) s;obtain⟨H,Z⟩:=b.get a;generalize V.set n (ah G)=m at b u Z;obtain⟨w,K,Q,q⟩:∃w:Int,atI [D.int 4,D.int<|10 ^ NR 9] i=a7 (.int w)/\0<w/\w<1000000000000000:=by
  have:i=0\/i=1:=by lia
  rcases this with rfl|rfl;exact⟨4,bp (j:=0) rfl,by decide,by decide⟩;exact⟨10 ^ NR 9,bp (j:=1) rfl,by decide,by decide⟩
 rw[K];refine⟨n,H,w,rfl,Z,Q,q,λv P v0 v1=>?_⟩;have e:WM M n (m.set n<|ah P):=b.set a _;have p:(m.set n<|ah P)[k]?=a7 (.lst<|ak ps):=aJ (by lia) u;obtain⟨F,l⟩:=e.get a;generalize m.set n (ah P)=T at e p l;refine⟨_,.inl p,n,F,_,rfl,l,by lia,by lia,λj W N O=>⟨_,.inl<|aJ (by lia) p,?_⟩⟩;obtain⟨jn,L,I,_⟩:=cy N O;rw[I];exact⟨aq (by lia),.inl<|h _ _ _ (by lia) (G6 L)<|e.set a _⟩
theorem Cn:C6 fQ 4 yL:=by
 rintro ds M R ⟨n,q,c,ps,r,s,rfl,f,d,g,ok,l,w,h1,p,h⟩;simp only[yL];walk_at"dl";obtain⟨k,X⟩:=pc d λx u=>ok x u _;refine⟨D4 _,k,?_⟩;rw[X];have z:WM M n (M++[MO.lst []]):=(WM.now f).app _;obtain⟨m,T⟩:=z.get f;cases hs:s.isEmpty with
 |true=>exact bc<|zr f w h1 z h
 |false =>
  refine aM ⟨n,m,8,rfl,T,by decide,by decide,λv a Y C=>?_⟩;have J:WM M n ((M++[MO.lst []]).set n<|ah a):=z.set f _;have b:ao ((M++[MO.lst []]).set n<|ah a) q s:=bo g<|d.more _;generalize (M++[MO.lst []]).set n (ah a)=V at J b;dsimp only;by_cases e:0<v;rw[dT_ e];have B:1<=s.length:=by cases s<;>simp_all
  obtain⟨G,t⟩:=J.get f;refine aM ⟨s,b,n,G,_,rfl,t,by lia,by lia,λi H y A=>⟨s,bo g b,?_⟩⟩;obtain⟨j,L,o,_⟩:=cy y A;rw[o];exact .inl<|p _ _ (G6 L)<|J.set f _;rw[dF_ e];exact bc<|zr f w h1 J h
theorem wk(T:Tops P w K mg base):x5 P w K mg base 2 "_law_stamp" ug fQ:=x5.byD (N:=["_law_well_here","_law_house_here","_law_stamps","_law_hands_here"]) T.b T.f_stamp (by walk_at"sc") AK (by have:=bR T;have:=ka T;walk_at"dv") Cn
def IF(ps:List (c9×Int))(vs:List D):Prop:=∃hs:List (D×Int),vs=hs.map (λp=>.tup [p.1,.int p.2])/\(hs.map (·.1)).Sublist (ak ps)/\∀p∈hs,1<=p.2
def iJ:A4:=λds M R=>∃(n:Nat) (c:Int) (ps:List (c9×Int)) (r:List D),ds=[.ref n,.tup<|.tup (ps.map aw)::r]/\M[n]?=a7 (ah c)/\MT ps/\∀(vs:List D) (B:u8),IF ps vs->WM M n B->R (.tup vs) B
theorem xI:bZ iJ oV:=by rintro ds M R ⟨n,c,ps,r,rfl,_⟩;rfl
def nv:u7:=aK<|u5 eZ<|aa (ac 2) ad
def nA:u7:=aB (sN (bF<|u5 eB<|aa (ac 1) ad) (av 3)<|z9 (al<|u4 N5 (u5 am<|aa (ac 0)<|aa (dC<|.int 3) ad)<|dC<|.int 0) (nq<|NF dc (ac 2)<|aa (cR<|aa (ac 3)<|aa (u4 aI (dC<|.int 1)<|u5 am<|aa (ac 0)<|aa (u4 w9 (fM<|aa (dC<|.int 4)<|aa (dC<|.int 200) ad)<|u5 am<|aa (ac 0)<|aa (dC<|.int 2) ad) ad) ad) ad) ay)<|nv
def vF:u7:=aB (bL (fM ad) 2)<|nA
theorem yr:C6 iJ 4 vF:=by
 rintro ds M R ⟨n,c,ps,r,rfl,f,d,h⟩;have nM:n<M.length:=(A3.mp f).1;have hl:=cb d.2;have f4:=d.1;simp only[vF,nA];walk_at"dl";refine⟨D4 _,ps,r,rfl,d,?_⟩;dsimp only;have x:WM M n (M++[MO.lst []]++[MO.lst<|ak ps]):=((WM.now f).app _).app _;have E:ao (M++[MO.lst []]++[MO.lst<|ak ps]) (M++[MO.lst []]).length (ak ps):=ae;have g1:(M++[MO.lst []]++[MO.lst<|ak ps])[M.length]?=a7 (.lst ([]:List D)):=bY aE;have kq:M.length<(M++[MO.lst []]).length:=by simp
 generalize M++[MO.lst []]++[MO.lst<|ak ps]=C1 at x E g1;generalize (M++[MO.lst []]).length=k at E kq;refine⟨_,E,λ_=>?_⟩;refine cA (λi S b=>∃(hs:List (D×Int)) (a:Option D),(hs.map (·.1)).Sublist ((ak ps).take i)/\(∀p∈hs,1<=p.2)/\WM M n b/\b[M.length]?=a7 (.lst<|hs.map λp=>.tup [p.1,.int p.2])/\ao b k (ak ps)/\S=[a7<|.ref n,a7<|.tup<|.tup (ps.map aw)::r,a7<|.ref M.length,a]) ?_ ?_ ⟨[],_,List.nil_sublist _,(λ_ z=>nomatch z),x,g1,E,rfl⟩;rintro S b ⟨hs,a,e,s,F,g,l,rfl⟩;refine⟨l,?_⟩;simp only[nv];walk_at"dl";exact⟨_,.inl g,.inl<|h _ _ ⟨hs,rfl,e.trans<|Qi _ _,s⟩ F⟩;rintro i y S b U ⟨hs,a,e,s,F,g,l,rfl⟩ G Q;refine⟨l,?_⟩;have ab:=(A3.mp U).1;have K:=e.length_le;rw[x6,H9]at K;have skip:(hs.map (·.1)).Sublist ((ak ps).take<|i+1):=by rw[NM];exact e.trans<|List.sublist_append_left _ _
 obtain⟨c2,I⟩:=F.get f;walk_at"dl";refine⟨n,c2,3,rfl,I,by decide,by decide,λv A v0 v3=>?_⟩;have J:WM M n (b.set n<|ah A):=F.set f _;have C:(b.set n<|ah A)[M.length]?=a7 (.lst<|hs.map λp=>.tup [p.1,.int p.2]):=aJ (by lia) g;have L:ao (b.set n<|ah A) k (ak ps):=bo (by lia) l;generalize b.set n (ah A)=V at J C L;dsimp only;by_cases T:0<v;rw[dT_ T];refine aM ⟨⟨_,.inl C⟩,aq (by lia),?_⟩;have m:=J.app [MO.lst [D.int 4,D.int 200]];have g3:=bY (a:=MO.lst [D.int 4,D.int 200]) C;have W:=L.more [MO.lst [D.int 4,D.int 200]];have N:ao (V++[MO.lst [D.int 4,D.int 200]]) V.length [D.int 4,D.int 200]:=ae;have Y:=J.len;obtain⟨c4,Z⟩:=m.get f;generalize V++[MO.lst [D.int 4,D.int 200]]=B at m g3 W N Z;generalize V.length=k3 at N Y;refine⟨n,c4,2,rfl,Z,by decide,by decide,λw P w0 w2=>⟨_,bo (by lia) N,?_⟩⟩;obtain⟨z,hz,z0,O⟩:∃z:Int,atI [D.int 4,D.int 200] w=a7 (.int z)/\0<z/\z<1000000000000000:=by
  have:w=0\/w=1:=by lia
  rcases this with rfl|rfl;exact⟨4,bp (j:=0) rfl,by decide,by decide⟩;exact⟨200,bp (j:=1) rfl,by decide,by decide⟩
 rw[hz];have o:WM M n (B.set n<|ah P):=m.set f _;have H:(B.set n<|ah P)[M.length]?=a7 (.lst<|hs.map λp=>.tup [p.1,.int p.2]):=aJ (by lia) g3;have X:ao (B.set n<|ah P) k (ak ps):=bo (by lia) W;obtain⟨c6,q⟩:=o.get f;generalize B.set n (ah P)=B4 at o H X q;refine⟨n,c6,z,rfl,q,z0,O,λu c7 u0 u1=>⟨aq (by lia),_,aJ (by lia) H,by rw[x6];exact small1000 (by lia),?_⟩⟩;refine F5.now<|Q _ _ ⟨hs++[(y,1+u)],_,?_,λp t=>?_,(o.set f _).hi<|z5 _,?_,bo (by lia)<|bo (by lia) X,rfl⟩;rw[MI,NM,U];exact e.append<|List.Sublist.refl _;rcases F6.mp t with t|t;exact s p t;rw[G1.mp t];dsimp only;lia;rw[cI<|aJ (by lia) H];simp;rw[dF_ T];exact bc<|F5.now<|Q _ _ ⟨hs,_,skip,s,J,C,L,rfl⟩
theorem Am(T:Tops P w K mg base):x5 P w K mg base 2 "_law_vector" oV iJ:=x5.byD (N:=["_law_well_here","_law_house_here","_law_vector_here","_law_hand"]) T.b T.f_vector (by walk_at"sc") xI (by have:=bR T;have:=ka T;walk_at"dv") yr
theorem iC(h:d∈ak ps):Hd d:=by obtain⟨p,_,k,rfl,_⟩:=iD h;exact⟨_,_,rfl⟩
theorem FI(h1:bh x y=b7)(h2:bh y x=b7):x=y:=by unfold bh at h1 h2;rw[decide_eq_false_iff_not]at h1 h2;exact tU<|List.le_antisymm (List.not_lt.mp h2)<|List.not_lt.mp h1
theorem rB:bh a a=b7:=by unfold bh;exact dF_<|OT _
theorem Cw(h:bh a b=a9):bh b a=b7:=by unfold bh at *;rw[s9]at h;exact dF_<|List.not_lt.mpr<|List.le_of_lt h
def QJ:D->D->Prop
 |.tup [.str x,.int k],.tup [.str y,.int l]=>bh x y=a9\/x=y/\k<l
 |_,_=>False
theorem Ks(h:QJ a b):z7 M (n+1) a b=a9/\z7 M (n+1) b a=b7:=by
 unfold QJ at h;split at h;rename_i x k y l;have e:∀(x y:c9) (k l:Int),z7 M (n+1) (.tup [.str x,.int k]) (.tup [.str y,.int l])=if (x==y)=a9 then(if (k==l)=a9 then b7 else decide (k<l))else bh x y:=λx y k l=>by rw[<-bJ (M:=M) (n:=n),<-aY (M:=M) (n:=n)];cases n<;>rfl
 rw[e,e];rcases h with h|⟨rfl,h⟩
 have F:x≠y:=λz=>by rw[z,rB]at h;cases h
 rw[beq_eq_false_iff_ne.mpr F,beq_eq_false_iff_ne.mpr<|D3 F];exact⟨h,Cw h⟩;rw[t8,beq_eq_false_iff_ne.mpr (show k≠l by lia),beq_eq_false_iff_ne.mpr<|show l≠k by lia];exact⟨dT_ h,dF_<|by lia⟩;exact h.elim
theorem Ed(X:(ps.map (·.1)).Nodup)(u:(ps.map (·.1)).Pairwise λa b=>bh b a=b7):(ak ps).Pairwise QJ:=by
 unfold ak;rw[List.pairwise_flatMap];refine⟨λp _=>?_,?_⟩;unfold cH lN;rw[F9,NN];refine List.pairwise_lt_range.imp λ{i j} h=>?_;exact .inr ⟨rfl,by lia⟩;rw[Pz,NN]at X;rw[NN]at u;refine(u.and X).imp λ{p q} ⟨h1,h2⟩ x hx y hy=>?_;unfold cH lN at hx hy;simp only[F9,A8]at hx hy;obtain⟨i,_,rfl⟩:=hx;obtain⟨j,_,rfl⟩:=hy;refine .inl ?_;cases e:bh p.1 q.1 with
 |true=>rfl
 |false=>exact r9 (FI e h1) h2
structure PV(d:D):Prop where
 gd:∀M:u8,w6 M 4 d
 pl:L4 4 d
def N6(ps:List (c9×Int))(x:D):Prop:=∃(t:Int) (h:D),x=.tup [.int t,h]/\1<=t/\h∈ak ps
theorem rP(h:x.length<=1000):PV (.str x):=⟨λ_=>gf h (by decide),.str _⟩
theorem zM(h:x.length<=1000)(a:(∀M:u8,w6 M 3 d)/\L4 3 d):PV (.tup [.str x,d]):=⟨λM=>Bs (by decide) (gf h<|by decide)<|a.1 M,.tup<|.cons (.str _)<|.cons a.2 .nil⟩
theorem uT(f:∀p∈ps,p.1.length<=8)(a:h∈ak ps)(b:n+1<=30):w6 M (n+1) h:=by obtain⟨p,c,k,rfl,_⟩:=iD a;have:=f p c;exact Bs b (gf (by lia)<|by lia)<|fx<|by lia
theorem Cy(f:∀p∈ps,p.1.length<=8)(h:N6 ps x):(∀n,2<=n->n<=30->∀M:u8,w6 M n x)/\∀k,L4 (k+2) x:=by
 obtain⟨t,h,rfl,_,a⟩:=h;refine⟨λn h2 b M=>?_,λk=>.tup<|.cons (.int _)<|.cons (Lo<|iC a) .nil⟩;obtain⟨m,rfl⟩:∃m,n=m+2:=⟨n-2,by lia⟩
 exact Bs (by lia) (fx<|by lia)<|uT f a<|by lia
theorem wz(X:(ps.map (·.1)).Nodup)(b:h∈ak ps):aW ps h=a9:=by
 obtain⟨p,a,k,rfl,c⟩:=iD b;have e:dk ps (.str p.1)=p.2:=by
  show ((ps.find? λq=>decide<|q.1=p.1).map (·.2)).getD 0=p.2;have:∀{l:List (c9×Int)},(l.map (·.1)).Nodup->p∈l->l.find? (λq=>decide<|q.1=p.1)=a7 p:=by
   intro l;induction l with
   |nil=>intro _ z;nomatch z
   |cons q l i=>intro X a;rw[B9,MR]at X;rw[MQ];rcases A5.mp a with rfl|a;rw[dT_ rfl];rw[dF_<|λz=>X.1<|by rw[z];exact OE a];exact i X.2 a
  rw[this X a];rfl
 show (decide (0<=(k:Int))&&decide ((k:Int)<dk ps (.str p.1)))=a9;rw[e,dT_ (show (0:Int)<=k by lia),dT_<|show (k:Int)<p.2 by lia];rfl
theorem nQ(X:(ps.map (·.1)).Nodup)(h:N6 ps x):bm ps x=a9:=by obtain⟨t,h,rfl,h1,a⟩:=h;show (aH 1 (.int t)&&aW ps h)=a9;rw[wz X a,M9];exact dT_ h1
theorem pf(h:x∈xs):nh xs (.str x)=a9:=by show (xs.any λy=>y==x)=a9;exact List.any_eq_true.mpr ⟨x,h,t8 x⟩
def My(ps:List (c9×Int))(a:List (c9×List c9))(d:D):Prop:=ky ps a d=a9/\PV d
def pU:A4:=λds M R=>∃(n q:Nat) (c:Int) (ps:List (c9×Int)) (a:List (c9×List c9)) (r s:List D),ds=[.ref n,.tup<|.tup (ps.map aw)::.tup (a.map aV)::r,.ref q]/\M[n]?=a7 (ah c)/\ao M q s/\q≠n/\(∀x∈s,∀B:u8,x3 B 29 x=a9)/\(∀x∈s,N6 ps x)/\s.length<=1000/\MT ps/\1<=(ak ps).length/\HouseW ps a /\∀(d:D) (B:u8),My ps a d->WM M n B->R d B
theorem Du:bZ pU Ae:=by rintro ds M R ⟨n,q,c,ps,a,r,s,rfl,_⟩;rfl
def vA:u7:=aK<|cR<|aa (dC<|.str "under")<|aa (u5 fQ<|aa (ac 0)<|aa (ac 1)<|aa (ac 2) ad) ad
def vB:u7:=aB (z9 (al<|u4 A6 (ac 3)<|dC<|.int 1) (aK<|cR<|aa (dC<|.str "person")<|aa (u4 w9 (u4 w9 (u4 w9 (ac 1)<|dC<|.int 0)<|u5 am<|aa (ac 0)<|aa (u5 eJ<|aa (u4 w9 (ac 1)<|dC<|.int 0) ad) ad)<|dC<|.int 0) ad) ay)<|vA
def vC:u7:=aB (z9 (al<|u4 A6 (ac 3)<|dC<|.int 0) (aK<|cR<|aa (dC<|.str "room")<|aa (u4 w9 (u4 w9 (u4 w9 (ac 1)<|dC<|.int 1)<|u5 am<|aa (ac 0)<|aa (u5 eJ<|aa (u4 w9 (ac 1)<|dC<|.int 1) ad) ad)<|dC<|.int 0) ad) ay)<|vB
def EK:u7:=aB (bL (u5 am<|aa (ac 0)<|aa (dC<|.int 3) ad) 3)<|vC
theorem Fu:C6 pU 4 EK:=by
 rintro ds M R ⟨n,q,c,ps,a,r,E,rfl,g,y,H,ok,o,e,k,h1,W,h⟩;obtain⟨S,_⟩:=W.len;obtain⟨T,V⟩:=W.rl;have F:∀q∈ps,q.1.length<=8:=λq y=>(W.nm q y).2.1;have N:=k.1;simp only[EK,vC];walk_at"dl";refine⟨n,c,3,rfl,g,by decide,by decide,λi p P Q=>⟨⟨af,af⟩,?_⟩⟩;have z:WM M n (M.set n<|ah p):=WM.drawn;have G:=bo (x:=ah p) H y;generalize M.set n (ah p)=U at z G;obtain⟨s,b⟩:=z.get g;cases v7 U v6 (.int i) (.int 0) with
 |true=>refine aM ?_;rw[x6];refine⟨n,s,a.length,rfl,b,by lia,by lia,λj I A O=>?_⟩;obtain⟨C,L,v,_⟩:=cy (xs:=a.map aV) A (by rw[x6];exact O);dsimp only;rw[v,OX];have m:=G6 (l:=a) (by rw[x6]at L;exact L);generalize a[C]'(by rw[x6]at L;exact L)=rm at m;have J:=(W.rn rm m).2.1;unfold aV;walk_at"dl";refine⟨aq (by lia),.inl<|h _ _ ⟨?_,zM (by decide +kernel) ⟨λ_=>gf (by lia) (by decide),.str _⟩⟩<|z.set g _⟩;show (if K1 (AA1 "room") (.str<|AA1 "room")=a9 then nh (a.map (·.1)) (.str rm.1)else if K1 (AA1 "person") (.str<|AA1 "room")=a9 then nh (ps.map (·.1)) (.str rm.1)else K1 (AA1 "under") (.str<|AA1 "room")&&bm ps (.str rm.1))=a9;rw[p9<|by decide +kernel];exact pf<|OE m
 |false =>
  refine bc ?_;simp only[vB];walk_at"dl";refine⟨⟨af,af⟩,?_⟩;cases v7 U v6 (.int i) (.int 1) with
  |true=>refine aM ?_;rw[x6];refine⟨n,s,ps.length,rfl,b,by lia,by lia,λj I A O=>?_⟩;obtain⟨C,L,v,_⟩:=cy (xs:=ps.map aw) A (by rw[x6];exact O);dsimp only;rw[v,OX];have m:=G6 (l:=ps) (by rw[x6]at L;exact L);generalize ps[C]'(by rw[x6]at L;exact L)=rm at m;have J:=F rm m;unfold aw;walk_at"dl";refine⟨aq (by lia),.inl<|h _ _ ⟨?_,zM (by decide +kernel) ⟨λ_=>gf (by lia) (by decide),.str _⟩⟩<|z.set g _⟩;show (if K1 (AA1 "room") (.str<|AA1 "person")=a9 then nh (a.map (·.1)) (.str rm.1)else if K1 (AA1 "person") (.str<|AA1 "person")=a9 then nh (ps.map (·.1)) (.str rm.1)else K1 (AA1 "under") (.str<|AA1 "person")&&bm ps (.str rm.1))=a9;rw[q9 (by decide +kernel),p9<|by decide +kernel];exact pf<|OE m
  |false =>
   refine bc ?_;simp only[vA];walk_at"dl";have u:∀d:D,N6 ps d->My ps a (.tup [.str<|AA1 "under",d]):=λd f=>by have sp:=Cy F f;refine⟨?_,zM (by decide +kernel) ⟨λM=>sp.1 3 (by decide) (by decide) M,sp.2 1⟩⟩;show (if K1 (AA1 "room") (.str<|AA1 "under")=a9 then nh (a.map (·.1)) d else if K1 (AA1 "person") (.str<|AA1 "under")=a9 then nh (ps.map (·.1)) d else K1 (AA1 "under") (.str<|AA1 "under")&&bm ps d)=a9;rw[q9 (by decide +kernel),q9 (by decide +kernel),nQ W.nd f,M9];decide +kernel
   refine⟨n,q,s,ps,_,E,rfl,b,G,H,ok,e,k,h1,λd B f w=>⟨aq (by lia),.inl<|h _ _ ?_<|z.trans g w⟩,λt d B K f w=>⟨aq (by lia),.inl<|h _ _ ?_<|z.trans g w⟩⟩;exact u d<|o d f;exact u _ ⟨t,d,rfl,K,f⟩
theorem Gu(T:Tops P w K mg base):x5 P w K mg base 3 "_law_what" Ae pU:=x5.byD (N:=["_law_well_here","_law_house_here","_law_stamps","_law_way"]) T.b T.f_what (by walk_at"sc") Du (by have:=bR T;have:=wk T;walk_at"dv") Fu
theorem zD(h:SayS x):cP (.str x)=a9:=by obtain⟨h1,h2,a⟩:=h;show (decide (1<=x.length)&&decide (x.length<=60)&&x.cps.toList.all ij)=a9;rw[dT_ h1,dT_ h2,E5,E5,D7];intro c f;have:=a c f;show (decide (32<=c)&&decide (c<=126))=a9;rw[dT_ this.1,dT_ this.2];rfl
theorem Dj(h:fF x):iB (.str x)=a9:=by obtain⟨h1,h2,a⟩:=h;show (decide (1<=x.length)&&decide (x.length<=8)&&x.cps.toList.all bI)=a9;rw[dT_ h1,dT_ h2,E5,E5,D7];intro c f;have:=a c f;show (decide (97<=c)&&decide (c<=122))=a9;rw[dT_ this.1,dT_ this.2];rfl
theorem lO:∀{xs:List D},xs.Pairwise QJ->aN M xs=a9
 | [],_=>rfl
 | [_],_=>rfl
 |a::b::r,p=>by show (z7 M v6 a b&&aN M (b::r))=a9;rw[show z7 M v6 a b=a9 from(Ks (M:=M) (n:=29)<|(Nz.mp p).1 b<|by simp).1,E5];exact lO (Nz.mp p).2
theorem Fz(W:HouseW ps rs)(h:IF ps vs):ca M ps (.tup vs)=a9:=by obtain⟨hs,rfl,e,h1⟩:=h;show ((hs.map λp=>D.tup [p.1,.int p.2]).all (bN ps)&&aN M ((hs.map λp=>D.tup [p.1,.int p.2]).map bw))=a9;rw[F9,show (bw ∘ λp:D×Int=>D.tup [p.1,.int p.2])=(·.1)from rfl,lO<|(Ed W.nd W.up).sublist e,M9,D7];intro d b;obtain⟨p,a,rfl⟩:=A8.mp b;show (aW ps p.1&&aH 1 (.int p.2))=a9;rw[wz W.nd<|e.subset<|A8.mpr ⟨p,a,rfl⟩,E5];exact dT_<|h1 p a
theorem IX(b:∀p∈ps,p.1.length<=8)(f:MT ps)(h:IF ps vs):PV (.tup vs):=by obtain⟨hs,rfl,e,_⟩:=h;have i:=cb f.2;have y:=f.1;have l:=e.length_le;rw[x6]at l;refine⟨λM=>w6.mk (by rw[x6];lia) (by decide) λx g=>?_,.tup<|Cb.of λd c=>?_⟩;obtain⟨p,a,rfl⟩:=A8.mp g;exact Bs (by decide) (uT (n:=1) b (e.subset<|A8.mpr ⟨p,a,rfl⟩)<|by decide) (fx<|by decide);obtain⟨p,a,rfl⟩:=A8.mp c;exact .tup<|.cons (Lo<|iC<|e.subset<|A8.mpr ⟨p,a,rfl⟩)<|.cons (.int _) .nil
structure ActV(ps:List (c9×Int))(rs:List (c9×List c9))(a:D):Prop where
 ok:∀M:u8,pT M ps rs a=a9
 gd:∀M:u8,w6 M 5 a
 pl:L4 5 a
theorem ye(d:aG.find? (λp=>p.1==k)=a7 (k,ks))(v:k.length<=1000)(g:(xs.length==ks.length)=a9)(c:xs.length<=29)(b:∀x∈xs,PV x)(h:∀M:u8,∀q∈ks.zip xs,aP M ps rs q.1 q.2=a9):ActV ps rs (.tup<|.str k::xs):=by refine⟨λM=>?_,λM=>w6.mk (by rw[C5];lia) (by decide)<|cJ (gf v<|by decide) λx a=>(b x a).gd M,.tup<|.cons (.str _)<|Cb.of λx a=>(b x a).pl⟩;rw[fP d,g,E5,D7];exact h M
section
variable{M:u8}{ps:List (c9×Int)}{rs:List (c9×List c9)}{d:D}
theorem zZ:aP M ps rs (AA1 "room") d=nh (rs.map (·.1)) d:=by unfold aP;rw[p9<|by decide +kernel]
theorem CU:aP M ps rs (AA1 "under") d=(uQ d||bm ps d):=by unfold aP;rw[q9 (by decide +kernel),p9<|by decide +kernel]
theorem iQ:aP M ps rs (AA1 "message") d=bm ps d:=by unfold aP;rw[q9 (by decide +kernel),q9 (by decide +kernel),p9<|by decide +kernel]
theorem rR:aP M ps rs (AA1 "saying") d=cP d:=by unfold aP;rw[q9 (by decide +kernel),q9 (by decide +kernel),q9 (by decide +kernel),p9<|by decide +kernel]
theorem Gk:aP M ps rs (AA1 "sort") d=iB d:=by unfold aP;rw[q9 (by decide +kernel),q9 (by decide +kernel),q9 (by decide +kernel),q9 (by decide +kernel),p9<|by decide +kernel]
theorem zY:aP M ps rs (AA1 "vector") d=ca M ps d:=by unfold aP;rw[q9 (by decide +kernel),q9 (by decide +kernel),q9 (by decide +kernel),q9 (by decide +kernel),q9 (by decide +kernel),p9<|by decide +kernel]
theorem Gj:aP M ps rs (AA1 "what") d=ky ps rs d:=by unfold aP;rw[q9 (by decide +kernel),q9 (by decide +kernel),q9 (by decide +kernel),q9 (by decide +kernel),q9 (by decide +kernel),q9 (by decide +kernel),p9<|by decide +kernel]
theorem JZ:aP M ps rs (AA1 "on") (.bl b)=a9:=by unfold aP;rw[q9 (by decide +kernel),q9 (by decide +kernel),q9 (by decide +kernel),q9 (by decide +kernel),q9 (by decide +kernel),q9 (by decide +kernel),q9<|by decide +kernel];exact(M9 _).trans<|by decide +kernel
end
theorem all1{α:Type}{P:α->Prop}{a:α}(f:P a):∀x∈[a],P x:=λx h=>by rw[G1.mp h];exact f
theorem IC{α:Type}{P:α->Prop}{a b:α}(f:P a)(d:P b):∀x∈[a,b],P x:=λx h=>(A5.mp h).elim (λe=>by rw[e];exact f)<|all1 d x
theorem all3{α:Type}{P:α->Prop}{a b c:α}(f:P a)(d:P b)(h:P c):∀x∈[a,b,c],P x:=λx g=>(A5.mp g).elim (λe=>by rw[e];exact f)<|IC d h x
def wP:A4:=λds M R=>∃(n q:Nat) (c:Int) (p:c9×Int) (ps:List (c9×Int)) (a:List (c9×List c9)) (r s:List D),ds=[.ref n,.tup<|.tup ((p::ps).map aw)::.tup (a.map aV)::r,.ref q]/\M[n]?=a7 (ah c)/\ao M q s/\q≠n/\(∀x∈s,∀B:u8,x3 B 29 x=a9)/\(∀x∈s,N6 (p::ps) x)/\s.length<=1000/\MT (p::ps)/\1<=(ak<|p::ps).length/\HouseW (p::ps) a /\∀(x:c9) (ds:List D) (B:u8),ActV (p::ps) a (.tup<|.str x::ds)->WM M n B->R (.tup<|.str x::ds) B
theorem GI:bZ wP Gq:=by rintro ds M R ⟨n,q,c,p,ps,a,r,s,rfl,_⟩;rfl
def vY:u7:=aK<|cR<|aa (u4 w9 (fM<|aa (dC<|.str "back")<|aa (dC<|.str "seen")<|aa (dC<|.str "rung") ad)<|NF lR (fM<|aa (dC<|.int 7)<|aa (dC<|.int 8)<|aa (dC<|.int 11) ad)<|aa (ac 3) ad)<|aa (ac 6) ad
def zf:u7:=aB (z9 (G4 (al<|u4 A6 (ac 3)<|dC<|.int 5)<|al<|u4 A6 (ac 3)<|dC<|.int 6) (aK<|cR<|aa (dC<|.str "like")<|aa (ac 6)<|aa (u4 w9 (fM<|aa (dC<|.str "a")<|aa (dC<|.str "ab")<|aa (u5 jg<|aa (ac 0) ad) ad)<|u5 am<|aa (ac 0)<|aa (dC<|.int 3) ad)<|aa (u4 N5 (u5 am<|aa (ac 0)<|aa (dC<|.int 3) ad)<|dC<|.int 0) ad) ay)<|vY
def tO:u7:=aB (z9 (al<|u4 A6 (ac 3)<|dC<|.int 4) (aK<|cR<|aa (dC<|.str "change")<|aa (ac 6)<|aa (u5 fE<|aa (ac 0)<|aa (ac 1) ad) ad) ay)<|zf
def tP:u7:=aB (bL (u5 fQ<|aa (ac 0)<|aa (ac 1)<|aa (ac 2) ad) 6)<|tO
def zg:u7:=aB (z9 (al<|u4 A6 (ac 3)<|dC<|.int 10) (aK<|cR<|aa (dC<|.str "hush")<|aa (u5 pU<|aa (ac 0)<|aa (ac 1)<|aa (ac 2) ad)<|aa (u4 A6 (u5 am<|aa (ac 0)<|aa (dC<|.int 2) ad)<|dC<|.int 1) ad) ay)<|tP
def tQ:u7:=aB (z9 (al<|u4 A6 (ac 3)<|dC<|.int 9) (aK<|cR<|aa (dC<|.str "read")<|aa (ac 4)<|aa (u5 iJ<|aa (ac 0)<|aa (ac 1) ad) ad) ay)<|zg
def tR:u7:=aK<|cR<|aa (dC<|.str "say")<|aa (ac 4)<|aa (ac 5)<|aa (u5 fE<|aa (ac 0)<|aa (ac 1) ad) ad
def zh:u7:=aB (z9 (al<|u4 A6 (u5 am<|aa (ac 0)<|aa (dC<|.int 2) ad)<|dC<|.int 1) (bL (u5 fQ<|aa (ac 0)<|aa (ac 1)<|aa (ac 2) ad) 5) ay)<|tR
def zi:u7:=aB (z9 (al<|u4 Nc (ac 3)<|dC<|.int 4) (aB (bL (dC .non) 5)<|zh) ay)<|tQ
def zj:u7:=aB (bL (u4 w9 (u4 w9 (u4 w9 (ac 1)<|dC<|.int 1)<|u5 am<|aa (ac 0)<|aa (u5 eJ<|aa (u4 w9 (ac 1)<|dC<|.int 1) ad) ad)<|dC<|.int 0) 4)<|zi
def Jf:u7:=aB (bL (u5 am<|aa (ac 0)<|aa (dC<|.int 12) ad) 3)<|zj
theorem act_7{M B:u8}{R:DK}{n q:Nat}{c a:Int}{p:c9×Int}{ps:List (c9×Int)}{K:List (c9×List c9)}{r s:List D}{y4 y5:Option D}(f:M[n]?=a7 (ah c))(wm:WM M n B)(hq:ao B q s)(qn:q≠n)(ok:∀x∈s,∀B:u8,x3 B 29 x=a9)(Q:∀x∈s,N6 (p::ps) x)(C:s.length<=1000)(F:MT (p::ps))(h1:1<=(ak<|p::ps).length)(W:HouseW (p::ps) K)(hw:a=4\/a=5\/a=6\/a=7\/a=8\/a=11) (h:∀(x:c9) (ds:List D) (B:u8),ActV (p::ps) K (.tup<|.str x::ds)->WM M n B->R (.tup<|.str x::ds) B):tP (EE M R) [a7<|.ref n,a7<|.tup<|.tup ((p::ps).map aw)::.tup (K.map aV)::r,a7<|.ref q,a7<|.int a,y4,y5,a8] B:=by
 have nM:n<M.length:=(A3.mp f).1;obtain⟨c1,ai⟩:=wm.get f;have h8:∀q∈p::ps,q.1.length<=8:=λq hq=>(W.nm q hq).2.1;have go:∀(d:D) (U:u8),N6 (p::ps) d->WM B n U->tO (EE M R) [a7<|.ref n,a7<|.tup<|.tup ((p::ps).map aw)::.tup (K.map aV)::r,a7<|.ref q,a7<|.int a,y4,y5,a7 d] U:=λd U I w1=>by
  have e:=wm.trans f w1;have sp:=Cy h8 I;have dv:PV d:=⟨λM=>sp.1 4 (by decide) (by decide) M,sp.2 2⟩
  obtain⟨S,o⟩:=e.get f;simp only[tO];walk_at"dl";refine⟨⟨af,af⟩,?_⟩;rw[aY];by_cases e4:a=4;rw[beq_iff_eq.mpr e4];exact aM ⟨n,S,p,ps,_,rfl,o,F,W.nm,λx V hx H=>⟨aq (by lia),.inl<|h _ _ _ (ye (ks:=[AA1 "message",AA1 "saying"]) (by decide +kernel) (by decide +kernel) rfl (by simp) (IC dv<|rP (by have:=hx.2.1;lia)) λM=>IC (iQ.trans<|nQ W.nd I)<|rR.trans<|zD hx)<|e.trans f H⟩⟩;rw[beq_eq_false_iff_ne.mpr e4];refine bc ?_;simp only[zf];walk_at"dl";refine⟨⟨af,af⟩,?_⟩;rw[aY,aY];by_cases ab:a=5\/a=6;have l:∀z V (v:Int),fF z->WM M n V->ar M R (.tup [.str<|AA1 "like",d,.str z,.bl<|decide<|0<v]) V:=λz V v hz J=>.inl<|h _ _ _ (ye (ks:=[AA1 "message",AA1 "sort",AA1 "on"]) (by decide +kernel) (by decide +kernel) rfl (by simp) (all3 dv (rP (by have:=hz.2.1;lia)) ⟨λ_=>Ef (by decide),.bl _⟩) λM=>all3 (iQ.trans<|nQ W.nd I) (Gk.trans<|Dj hz) JZ) J;have i:∀(z:c9) (v:Int),fF z->0<=v->v<3->∃y:c9,atI [D.str<|AA1 "a",D.str<|AA1 "ab",D.str z] v=a7 (.str y)/\fF y:=λz v G Y L=>by
   have:v=0\/v=1\/v=2:=by lia
   rcases this with rfl|rfl|rfl;exact⟨_,bp (j:=0) rfl,by unfold fF IG;decide +kernel⟩;exact⟨_,bp (j:=1) rfl,by unfold fF IG;decide +kernel⟩;exact⟨_,bp (j:=2) rfl,G⟩
  rcases ab with e5|e6;rw[beq_iff_eq.mpr e5];refine aM ⟨n,S,rfl,o,λz V G H=>⟨aq (by lia),?_⟩⟩;have J:=e.trans f H;have P:=J.len;have b:=J.app [MO.lst [D.str<|AA1 "a",D.str<|AA1 "ab",D.str z]];have E:ao (V++[MO.lst [D.str<|AA1 "a",D.str<|AA1 "ab",D.str z]]) V.length [D.str<|AA1 "a",D.str<|AA1 "ab",D.str z]:=ae;generalize V++[MO.lst [D.str<|AA1 "a",D.str<|AA1 "ab",D.str z]]=O at b E;generalize V.length=k at E P;obtain⟨T,A⟩:=b.get f;refine⟨n,T,3,rfl,A,by decide,by decide,λv X Y L=>⟨_,bo (by lia) E,?_⟩⟩;obtain⟨y,ey,hy⟩:=i z v G Y L;rw[ey];have g:WM M n (O.set n<|ah X):=b.set f _;obtain⟨Z,N⟩:=g.get f;exact⟨n,Z,3,rfl,N,by decide,by decide,λu c6 u0 u3=>⟨aq (by lia),l _ _ _ hy<|g.set f _⟩⟩;rw[beq_eq_false_iff_ne.mpr (show a≠5 by lia),beq_iff_eq.mpr e6];refine bc ⟨⟨af,af⟩,aM ⟨n,S,rfl,o,λz V G H=>⟨aq (by lia),?_⟩⟩⟩;have J:=e.trans f H;have P:=J.len;have b:=J.app [MO.lst [D.str<|AA1 "a",D.str<|AA1 "ab",D.str z]];have E:ao (V++[MO.lst [D.str<|AA1 "a",D.str<|AA1 "ab",D.str z]]) V.length [D.str<|AA1 "a",D.str<|AA1 "ab",D.str z]:=ae;generalize V++[MO.lst [D.str<|AA1 "a",D.str<|AA1 "ab",D.str z]]=O at b E;generalize V.length=k at E P;obtain⟨T,A⟩:=b.get f;refine⟨n,T,3,rfl,A,by decide,by decide,λv X Y L=>⟨_,bo (by lia) E,?_⟩⟩;obtain⟨y,ey,hy⟩:=i z v G Y L;rw[ey];have g:WM M n (O.set n<|ah X):=b.set f _;obtain⟨Z,N⟩:=g.get f;exact⟨n,Z,3,rfl,N,by decide,by decide,λu c6 u0 u3=>⟨aq (by lia),l _ _ _ hy<|g.set f _⟩⟩;rw[beq_eq_false_iff_ne.mpr (show a≠5 by lia),beq_eq_false_iff_ne.mpr<|show a≠6 by lia];refine bc ⟨⟨af,af⟩,bc ?_⟩;simp only[vY];walk_at"dl";obtain⟨j,x,ej,nj,ex,kx,kl⟩:∃(j:Nat) (x:c9),[(7:Int),8,11][j]?=a7 a/\(∀m,m<j->[(7:Int),8,11][m]?≠a7 a)/\atI [D.str<|AA1 "back",D.str<|AA1 "seen",D.str<|AA1 "rung"] (j:Int)=a7 (.str x)/\aG.find? (λp=>p.1==x)=a7 (x,[AA1 "message"])/\x.length<=1000:=by
   have:a=7\/a=8\/a=11:=by lia
   rcases this with rfl|rfl|rfl;exact⟨0,_,rfl,by decide,bp rfl,by decide +kernel,by decide +kernel⟩;exact⟨1,_,rfl,by decide,bp rfl,by decide +kernel,by decide +kernel⟩;exact⟨2,_,rfl,by decide,bp rfl,by decide +kernel,by decide +kernel⟩
  refine⟨aq (by lia),aq (by lia),⟨_,ae⟩,[7,8,11],j,ae,by decide,ej,nj,_,.inl<|bY aE,?_⟩;rw[ex];exact⟨aq (by lia),.inl<|h _ _ _ (ye kx kl rfl (by simp) (all1 dv) λM=>all1<|iQ.trans<|nQ W.nd I)<|(e.app _).app _⟩
 simp only[tP];walk_at"dl";refine⟨n,q,c1,p::ps,_,s,rfl,ai,hq,qn,ok,C,F,h1,λd U hd w=>go _ _ (Q d hd) w,λt d U t1 hd w=>go _ _ ⟨t,d,rfl,t1,hd⟩ w⟩
theorem IV:C6 wP 7 Jf:=by
 rintro ds M R ⟨n,q,c,p,ps,s,r,C,rfl,f,U,o,ok,g,a,e,h1,W,h⟩;have O:∀q∈p::ps,q.1.length<=8:=λq U=>(W.nm q U).2.1;obtain⟨r1,r4⟩:=W.rl;simp only[Jf,zj];walk_at"dl";refine⟨n,c,12,rfl,f,by decide,by decide,λu K w0 ab=>?_⟩;have z:WM M n (M.set n<|ah K):=WM.drawn;have q1:=bo (x:=ah K) o U;generalize M.set n (ah K)=B1 at z q1;obtain⟨c2,Q⟩:=z.get f;rw[x6];refine⟨n,c2,s.length,rfl,Q,by lia,by lia,λj N j0 j1=>?_⟩;obtain⟨jn,L,ej,_⟩:=cy (xs:=s.map aV) j0 (by rw[x6];exact j1);have J:WM M n (B1.set n<|ah N):=z.set f _;have F:=bo (x:=ah N) o q1;generalize B1.set n (ah N)=B2 at J F;dsimp only;rw[ej,OX];have V:=G6 (l:=s) (by rw[x6]at L;exact L);generalize s[jn]'(by rw[x6]at L;exact L)=rm at V;have X:=(W.rn rm V).2.1;have k:rm.1∈s.map (·.1):=OE V;rw[show aV rm=.tup [.str rm.1,.tup<|rm.2.map .str]from rfl];walk_at"dl";generalize rm.1=B at X k;simp only[zi];walk_at"dl";by_cases G:u<4;rw[dT_ G];refine aM ?_;have A:∀(d:D) (m:u8),PV d->(uQ d||bm (p::ps) d)=a9->WM M n m->tR ⟨λS' M'=>tQ (EE M R) S' M',ar M R,λ_ _=>False,λ_ _=>False⟩ [a7<|.ref n,a7<|.tup (aw p::ps.map aw)::.tup (s.map aV)::r |> .tup,a7<|.ref q,a7<|.int u,a7<|.str B,a7 d,a8] m:=λd m I hu b=>by obtain⟨H,Z⟩:=b.get f;simp only[tR];walk_at"dl";exact⟨n,H,p,ps,_,rfl,Z,e,W.nm,λx B4 hx G=>⟨aq (by lia),.inl<|h _ _ _ (ye (ks:=[AA1 "room",AA1 "under",AA1 "saying"]) (by decide +kernel) (by decide +kernel) rfl (by simp) (all3 (rP<|by lia) I<|rP (by have:=hx.2.1;lia)) λM=>all3 (zZ.trans<|pf k) (CU.trans hu)<|rR.trans<|zD hx)<|b.trans f G⟩⟩
 have fs:∀(d:D) (m:u8),N6 (p::ps) d->WM M n m->_:=λd m i=>A d m ⟨λM=>(Cy O i).1 4 (by decide) (by decide) M,(Cy O i).2 2⟩ (by rw[nQ W.nd i,Bool.or_true]);obtain⟨H,Z⟩:=J.get f;simp only[zh];walk_at"dl";refine⟨n,H,2,rfl,Z,by decide,by decide,λv P v0 v2=>⟨⟨af,af⟩,?_⟩⟩;have b:WM M n (B2.set n<|ah P):=J.set f _;have q3:=bo (x:=ah P) o F;generalize B2.set n (ah P)=m at b q3;obtain⟨c6,T⟩:=b.get f;cases v7 m v6 (.int v) (.int 1) with
 |true=>exact aM ⟨n,q,c6,p::ps,_,C,rfl,T,q3,o,ok,a,e,h1,λd B4 i w=>fs _ _ (g d i)<|b.trans f w,λt d B4 t1 i w=>fs _ _ ⟨t,d,rfl,t1,i⟩<|b.trans f w⟩
 |false=>exact bc<|A _ _ ⟨λ_=>Fg (by decide),.non⟩ rfl b
 rw[dF_ G];refine bc ?_;obtain⟨H,Z⟩:=J.get f;simp only[tQ];walk_at"dl";refine⟨⟨af,af⟩,?_⟩;rw[aY];by_cases e9:u=9;rw[beq_iff_eq.mpr e9];refine aM ⟨n,H,p::ps,_,rfl,Z,e,λvs m E Y=>⟨aq (by lia),.inl<|h _ _ _ (ye (ks:=[AA1 "room",AA1 "vector"]) (by decide +kernel) (by decide +kernel) rfl (by simp) (IC (rP<|by lia)<|IX O e E) λM=>IC (zZ.trans<|pf k)<|zY.trans<|Fz W E)<|J.trans f Y⟩⟩;rw[beq_eq_false_iff_ne.mpr e9];refine bc ?_;simp only[zg];walk_at"dl";refine⟨⟨af,af⟩,?_⟩;rw[aY];by_cases y:u=10;rw[beq_iff_eq.mpr y];refine aM ⟨n,q,H,p::ps,s,r,C,rfl,Z,F,o,ok,g,a,e,h1,W,λd m I Y=>?_⟩;have b:=J.trans f Y;obtain⟨P,S⟩:=b.get f;exact⟨n,P,2,rfl,S,by decide,by decide,λv c6 v0 v2=>⟨⟨af,af⟩,aq (by lia),.inl<|h _ _ _ (ye (ks:=[AA1 "what",AA1 "on"]) (by decide +kernel) (by decide +kernel) rfl (by simp) (IC I.2 ⟨λ_=>Ef (by decide),.bl _⟩) λM=>IC (Gj.trans I.1) JZ)<|b.set f _⟩⟩;rw[beq_eq_false_iff_ne.mpr y];refine bc ?_;exact act_7 f J F o ok g a e h1 W (by lia) h
theorem Kk(T:Tops P w K mg base):x5 P w K mg base 4 "_law_act" Gq wP:=x5.byD (N:=["_law_well_here","_law_house_here","_law_stamps","_law_way","_law_room","_law_under","_law_message"]) T.b T.f_act (by walk_at"sc") GI (by have:=bR T;have:=Al T;have:=An T;have:=wk T;have:=Am T;have:=Gu T;walk_at"dv") IV
structure LogV(ps:List (c9×Int))(rs:List (c9×List c9))(log:List D):Prop where
 n:LogN log
 v:∀d∈log,DeedV ps rs d
 h:∀d∈log,bg d∈ak ps
theorem Ma{ps:List (c9×Int)}{a:List (c9×List c9)}{t:Int}{h act:D}{n:Nat}(W:HouseW ps a)(e:1<=t)(b:h∈ak ps)(f:ActV ps a act):DeedV ps a (.tup [.int t,h,.int n,act]):=by have c:∀q∈ps,q.1.length<=8:=λq d=>(W.nm q d).2.1;refine⟨λM=>?_,λM=>w6.mk (by simp) (by decide)<|cJ (fx<|by decide)<|cJ (uT (n:=4) c b<|by decide)<|cJ (fx<|by decide)<|cJ (f.gd M) jc⟩;show (bm ps (.tup [.int t,h])&&(aH 0 (.int n)&&pT M ps a act))=a9;rw[nQ W.nd ⟨t,h,rfl,e,b⟩,f.ok M,E5,M9];exact dT_<|show (0:Int)<=(n:Int) by lia
structure GenOk(ps:List (c9×Int))(rs:List (c9×List c9))(deeds:List D)(las cnt:List (D×D)):Prop where
 deed:∀d∈deeds,Deed d/\bg d∈ak ps
 val:∀d∈deeds,DeedV ps rs d
 nums:∀h,(deeds.filter λd=>decide<|bg d=h).map wo=(C3<|many deeds h).map N9
 up:deeds.Pairwise λa b=>bg a=bg b->tJ a<tJ b
 last:∀h,∃t:Int,(gK las h).getD (.int 0)=.int t/\0<=t/\∀d∈deeds,bg d=h->tJ d<=t
 cnt:∀h,(gK cnt h).getD (.int 0)=.int (many deeds h)
 vals:∀p∈las,∃t:Int,p.2=.int t
theorem HH:GenOk ps rs [] [] []:=⟨(λ_ z=>nomatch z),(λ_ z=>nomatch z),λ_=>rfl,.nil,λ_=>⟨0,rfl,Int.le_refl _,(λ_ z=>nomatch z)⟩,λ_=>rfl,(λ_ z=>nomatch z)⟩
theorem GenOk.step{ps:List (c9×Int)}{r:List (c9×List c9)}{s:List D}{l j:List (D×D)}(g:GenOk ps r s l j)(W:HouseW ps r){c act:D}{T:Int}(p:c∈ak ps)(o:∀t:Int,(gK l c).getD (.int 0)=.int t->t<T)(q:ActV ps r act):GenOk ps r (s++[.tup [.int T,c,.int<|many s c,act]]) (mW l c<|.int T) (mW j c<|.int<|many s c+1):=by
 have n:bg (.tup [.int T,c,.int<|many s c,act])=c:=rfl;have w:1<=T:=by obtain⟨t,i,G,_⟩:=g.last c;have:=o t i;lia
 refine⟨λd f=>?_,λd f=>?_,λh=>?_,?_,λh=>?_,λh=>?_,zO g.vals⟩;rcases F6.mp f with f|f;exact g.deed d f;rw[G1.mp f];exact⟨⟨_,_,_,_,rfl,iC p,q.pl⟩,p⟩;rcases F6.mp f with f|f;exact g.val d f;rw[G1.mp f];exact Ma W w p q;rw[Qk,MI,g.nums h,kb,n,OU,n];by_cases e:c=h;subst e;rw[dT_ rfl,p9 rfl,p9 rfl,QZ,MI];rfl;rw[dF_ e,q9 e];exact NZ _;refine List.pairwise_append.mpr ⟨g.up,Qx _ _,λa u b v=>?_⟩;rw[G1.mp v];intro e;obtain⟨t,i,G,m⟩:=g.last c;have:=m a u e;have:=o t i;show tJ a<T;lia;by_cases e:h=c;subst e;refine⟨T,by rw[mI];rfl,by lia,λd f k=>?_⟩;rcases F6.mp f with f|f;obtain⟨t,i,G,m⟩:=g.last h;have:=m d f k;have:=o t i;lia;rw[G1.mp f];exact Int.le_refl _;obtain⟨t,i,G,m⟩:=g.last h;refine⟨t,by rw[uU e];exact i,G,λd f k=>?_⟩;rcases F6.mp f with f|f;exact m d f k;rw[G1.mp f]at k;exact r9 k.symm e;rw[kb,n];by_cases e:h=c;subst e;rw[mI,p9 rfl];rfl;rw[uU e,q9<|D3 e,g.cnt h];rfl
noncomputable def cK(ds:List D):List (D×D):=ds.map λd=>(D5 d,d)
theorem ER(g:GenOk ps rs deeds las cnt):(deeds.map D5).Nodup:=by unfold List.Nodup;rw[NN];refine(O1.mp g.up).imp λ{a b} ⟨ha,hb,q⟩ e=>?_;obtain⟨⟨t,f,m,d,rfl,_⟩,_⟩:=g.deed a ha;obtain⟨⟨t',h,n,c,rfl,_⟩,_⟩:=g.deed b hb;simp only[D5,D.tup.injEq,Q1,D.int.injEq,and_true]at e;have:=q e.2;simp only[tJ]at this;lia
theorem mJ:∀{ds:List D},(ds.map D5).Nodup->d∈ds->gK (cK ds) (D5 d)=a7 d
 | [],_,h=>nomatch h
 |x::ds,nd,h=>by rw[B9,MR]at nd;unfold gK cK;rw[B9,MQ];by_cases e:D5 x=D5 d;rw[dT_ e];rcases A5.mp h with rfl|h;rfl;exact r9 (A8.mpr ⟨d,h,e.symm⟩) nd.1;rw[dF_ e];rcases A5.mp h with rfl|h;exact r9 rfl e;exact mJ nd.2 h
theorem Bw(h:D5 d∉ds.map D5):mW (cK ds) (D5 d) d=cK (ds++[d]):=by
 have:gK (cK ds) (D5 d)=a8:=by unfold gK cK;rw[Option.map_eq_none_iff,List.find?_eq_none];intro p a;obtain⟨x,b,rfl⟩:=A8.mp a;intro z;exact h<|A8.mpr ⟨x,b,oT_ z⟩
 unfold mW;rw[this];simp[cK]
noncomputable def dU(ds:List D)(s:D):D:=(gK (cK ds) s).getD .non
theorem Ku(g:GenOk ps rs deeds las cnt)(H:deeds.length<=40)(l:ys.Perm (deeds.map D5))(F:yi M ys):LogV ps rs (ys.map<|dU deeds):=by
 have X:=ER g;have s:∀d∈deeds,dU deeds (D5 d)=d:=λd c=>by unfold dU;rw[mJ X c];rfl
 have p:(ys.map<|dU deeds).Perm deeds:=by refine(l.map _).trans<|List.Perm.of_eq ?_;rw[F9];exact(Qr λd c=>s d c).trans<|P0 _
 have G:∀h,(ys.map<|dU deeds).filter (λd=>decide<|bg d=h)=deeds.filter λd=>decide (bg d=h):=λh=>by
  refine List.Perm.eq_of_pairwise (le:=λa b=>tJ a<=tJ b) (λa b f i h1 h2=>?_) ?_ ?_<|p.filter _;have o:=Nj.mp f;have k:=Nj.mp i;have u:bg a=h:=oT_ o.2;have v:bg b=h:=oT_ k.2;have B:a∈deeds:=p.mem_iff.mp o.1;have es:D5 a=D5 b:=by obtain⟨⟨t,c,r,m,rfl,_⟩,_⟩:=g.deed a B;obtain⟨⟨t',e,n,j,rfl,_⟩,_⟩:=g.deed b k.1;have R:c=e:=(show c=h from u).trans (show e=h from v).symm;have J:t=t':=Int.le_antisymm h1 h2;rw[R,J];rfl
  rw[<-s a B,es,s b k.1];have z:(ys.map<|dU deeds).Pairwise λa b=>z7 M v6 (D5 b) (D5 a)=b7:=NN.mpr ((O1.mp F).imp λ{a b} ⟨f,i,q⟩=>by obtain⟨x,w,rfl⟩:=A8.mp<|l.mem_iff.mp f;obtain⟨y,Q,rfl⟩:=A8.mp<|l.mem_iff.mp i;rw[s x w,s y Q];exact q);have A:=O1.mp<|z.filter λd=>decide<|bg d=h;refine A.imp λ{a b} ⟨f,i,q⟩=>?_;have u:bg a=h:=oT_ (Nj.mp f).2;have v:bg b=h:=oT_ (Nj.mp i).2;obtain⟨⟨t,c,r,m,rfl,_⟩,_⟩:=g.deed a<|p.mem_iff.mp (Nj.mp f).1;obtain⟨⟨t',e,n,j,rfl,_⟩,_⟩:=g.deed b<|p.mem_iff.mp (Nj.mp i).1;show t<=t';refine Int.not_lt.mp λlt=>?_;have:z7 M v6 (D5<|.tup [.int t',e,.int n,j]) (D5<|.tup [.int t,c,.int r,m])=a9:=by show (if v7 M 29 (.int t') (.int t)=a9 then tq (v7 M 29) (z7 M 29) [e] [c]else z7 M 29 (.int t') (.int t))=a9;rw[aY,beq_eq_false_iff_ne.mpr<|by lia];exact dT_ lt
  rw[this]at q;cases q;refine((O1.mp<|g.up.filter _)).imp λ{a b} ⟨f,i,q⟩=>?_;have u:bg a=h:=oT_ (Nj.mp f).2;have v:bg b=h:=oT_ (Nj.mp i).2;have:=q (by rw[u,v]);lia
 refine⟨⟨λd c=>(g.deed d<|p.mem_iff.mp c).1,by rw[p.length_eq];exact H,λh=>?_,?_⟩,λd c=>g.val d<|p.mem_iff.mp c,λd c=>(g.deed d<|p.mem_iff.mp c).2⟩;unfold many;rw[G h];exact g.nums h;have C:ys.Nodup:=l.nodup_iff.mpr X;rw[Pz]at C;refine NN.mpr<|(O1.mp<|RF F C).imp λ{a b} ⟨f,i,q,ne⟩=>?_;obtain⟨x,w,rfl⟩:=A8.mp<|l.mem_iff.mp f;obtain⟨y,Q,rfl⟩:=A8.mp<|l.mem_iff.mp i;rw[s x w,s y Q];have D:=mO (g.deed x w).1;have E:=mO (g.deed y Q).1;rw[zt (M':=M) D E];rcases Ji M D E with t|t|t;exact r9 t.1 ne;exact t.2.1;rw[t.2.2.1]at q;cases q
theorem eK:∀{kvs:List (D×D)},(∀p∈kvs,∃t:Int,p.2=.int t)->∃vs:List Int,kvs.map (·.2)=vs.map D.int
 | [],_=>⟨[],rfl⟩
 |p::kvs,h=>by obtain⟨vs,e⟩:=eK λq hq=>h q<|C0 _ hq;obtain⟨t,et⟩:=h p (by simp);exact⟨t::vs,by rw[B9,B9,e,et]⟩
theorem GM(h:(gK las hand).getD (.int 0)=.int t)(B:las.map (·.2)=vs.map D.int)(b:∀a∈0::vs,a<=m):t<=m:=by
 cases e:gK las hand with
 |none=>rw[e]at h;injection h with h;rw[<-h];exact b 0<|by simp
 |some d=>rw[e]at h;have h:d=.int t:=h;subst h;unfold gK at e;obtain⟨q,f,c⟩:=O4.mp e;have:D.int t∈las.map (·.2):=A8.mpr ⟨q,Rp f,c⟩;rw[B]at this;obtain⟨v,g,l⟩:=A8.mp this;injection l with l;subst l;exact b v<|C0 _ g
def OL(ps:List (c9×Int))(s:List D):Prop:=∀x∈s,N6 ps x
theorem OL.ok(h:OL ps sts):∀x∈sts,∀B:u8,x3 B 29 x=a9:=λx b B=>by obtain⟨t,d,rfl,_,a⟩:=h x b;obtain⟨p,_,k,rfl,_⟩:=iD a;rfl
def IP(ws:List Nat)(M B:u8):Prop:=M.length<=B.length/\∀(i:Nat) (x:MO),i∉ws->M[i]?=a7 x->B[i]?=a7 x
theorem IP.lst(k:IP ws M B)(h:q∉ws)(l:ao M q xs):ao B q xs:=by rcases l with l|l|l;exact .inl<|k.2 _ _ h l;exact .inr<|.inl<|k.2 _ _ h l;exact .inr<|.inr<|k.2 _ _ h l
def wO:A4:=λds M R=>∃(q:Nat) (ws:List Nat) (p:c9×Int) (ps:List (c9×Int)) (a:List (c9×List c9)) (r:List D),ds=[.ref q,.tup<|.tup ((p::ps).map aw)::.tup (a.map aV)::r]/\ao M q (ws.map .ref)/\q∉ws/\(∀w∈ws,∃c,M[w]?=a7 (ah c))/\ws.length<=40/\MT (p::ps)/\1<=(ak<|p::ps).length/\HouseW (p::ps) a /\∀(g:List D) (B:u8),LogV (p::ps) a g->IP ws M B->R (.tup g) B
theorem GG:bZ wO Go:=by rintro ds M R ⟨q,ws,p,ps,a,r,rfl,_⟩;rfl
structure LgAt(ws:List Nat)(M B:u8)(hs:List D)(las cnt:List (D×D))(sts deeds:List D):Prop where
 kept:IP ws M B
 wells:∀w∈ws,w<M.length/\∃c,B[w]?=a7 (ah c)
 hands:B[M.length]?=a7 (.lst hs)
 las:B[M.length+1]?=a7 (.dkt las)
 cnt:B[M.length+2]?=a7 (.dkt cnt)
 sts:B[M.length+3]?=a7 (.lst sts)
 deeds:B[M.length+4]?=a7 (.lst deeds)
section
variable{ws:List Nat}{M B C:u8}{hs sts deeds:List D}{las cnt:List (D×D)}
theorem LgAt.wm{w:Nat}{c:Int}(g:LgAt ws M B hs las cnt sts deeds)(a:w∈ws)(f:B[w]?=a7 (ah c))(m:WM B w C):LgAt ws M C hs las cnt sts deeds:=by have P:=(g.wells w a).1;refine⟨⟨MF g.kept.1 m.len,λi x hi b=>m.other (λz=>hi<|z ▸ a)<|g.kept.2 i x hi b⟩,λv h=>⟨(g.wells v h).1,?_⟩,m.other (by lia) g.hands,m.other (by lia) g.las,m.other (by lia) g.cnt,m.other (by lia) g.sts,m.other (by lia) g.deeds⟩;by_cases e:v=w;subst e;exact m.get f;obtain⟨U,h'⟩:=(g.wells v h).2;exact⟨U,m.other e h'⟩
theorem LgAt.set(g:LgAt ws M B hs las cnt sts deeds)(a:M.length<=k):IP ws M (B.set k x)/\(∀w∈ws,w<M.length/\∃c,(B.set k x)[w]?=a7 (ah c)):=by refine⟨⟨by rw[MU];exact g.kept.1,λi y hi Q=>aJ (by have:=cg Q;lia)<|g.kept.2 i y hi Q⟩,λw h=>?_⟩;obtain⟨l,c,f⟩:=g.wells w h;exact⟨l,c,aJ (by lia) f⟩
theorem LgAt.setLas(g:LgAt ws M B hs las cnt sts deeds):LgAt ws M (B.set (M.length+1)<|.dkt las') hs las' cnt sts deeds:=⟨(g.set<|by lia).1,(g.set<|by lia).2,aJ (by lia) g.hands,cI g.las,aJ (by lia) g.cnt,aJ (by lia) g.sts,aJ (by lia) g.deeds⟩
theorem LgAt.setCnt(g:LgAt ws M B hs las cnt sts deeds):LgAt ws M (B.set (M.length+2)<|.dkt cnt') hs las cnt' sts deeds:=⟨(g.set<|by lia).1,(g.set<|by lia).2,aJ (by lia) g.hands,aJ (by lia) g.las,cI g.cnt,aJ (by lia) g.sts,aJ (by lia) g.deeds⟩
theorem LgAt.setSts(g:LgAt ws M B hs las cnt sts deeds):LgAt ws M (B.set (M.length+3)<|.lst sts') hs las cnt sts' deeds:=⟨(g.set<|by lia).1,(g.set<|by lia).2,aJ (by lia) g.hands,aJ (by lia) g.las,aJ (by lia) g.cnt,cI g.sts,aJ (by lia) g.deeds⟩
theorem LgAt.setDeeds(g:LgAt ws M B hs las cnt sts deeds):LgAt ws M (B.set (M.length+4)<|.lst deeds') hs las cnt sts deeds':=⟨(g.set<|by lia).1,(g.set<|by lia).2,aJ (by lia) g.hands,aJ (by lia) g.las,aJ (by lia) g.cnt,aJ (by lia) g.sts,cI g.deeds⟩
end
def vL:u7:=aK<|u5 eZ<|aa (F7 1 [12] (bF<|u5 im<|aa (ac 12) ad) (av 0) je<|Eu (ac 1)<|ac 0) ad
def vM:u7:=aB (sN (bF<|ac 6) (av 11)<|va (ac 12) (E7 (ac 11) aL<|bu<|dC<|.int 2)<|ac 11)<|vL
def oJ:u7:=aB (bL (vb) 12)<|vM
def vN:u7:=z9 (al<|u4 A6 (u4 w9 (u4 w9 (ac 11)<|dC<|.int 3)<|dC<|.int 0)<|dC<|.str "say") (nq<|NF dc (ac 5)<|aa (E7 (ac 11) aL<|bu<|dC<|.int 2) ad) ay
def vO:u7:=aB (nq<|NF dc (ac 6)<|aa (ac 11) ad)<|vN
def vP:u7:=aB (va (ac 4) (ac 8)<|u4 aI (u4 w9 (ac 11)<|dC<|.int 2)<|dC<|.int 1)<|vO
def yP:u7:=aB (va (ac 3) (ac 8)<|ac 10)<|vP
def tL:u7:=aB (bL (cR<|aa (ac 10)<|aa (ac 8)<|aa (Pb lP (ac 4)<|aa (ac 8)<|aa (dC<|.int 0) ad)<|aa (u5 wP<|aa (ac 7)<|aa (ac 1)<|aa (ac 5) ad) ad) 11)<|yP
def yQ:u7:=aB (bL (u4 aI (u4 aI (u4 w9 (ac 9)<|u5 am<|aa (ac 7)<|aa (dC<|.int 2) ad)<|dC<|.int 1)<|u4 jR (u5 am<|aa (ac 7)<|aa (dC<|.int 3) ad)<|u5 am<|aa (ac 7)<|aa (dC<|.int 2) ad) 10)<|tL
def tM:u7:=aB (bL (fM<|aa (Pb lP (ac 3)<|aa (ac 8)<|aa (dC<|.int 0) ad)<|aa (u5 zL<|aa (u4 aI (fM<|aa (dC<|.int 0) ad)<|iF<|ac 3) ad) ad) 9)<|yQ
def yR:u7:=aB (sN (bF<|ac 0) (av 7)<|aB (bL (u4 w9 (ac 2)<|u5 am<|aa (ac 7)<|aa (u5 eJ<|aa (ac 2) ad) ad) 8)<|tM)<|oJ
def yS:u7:=aB (bL (fM ad) 6)<|yR
def yT:u7:=aB (bL (fM ad) 5)<|yS
def yU:u7:=aB (bL (vb) 4)<|yT
def yV:u7:=aB (bL (vb) 3)<|yU
def Jd:u7:=aB (bL (u5 eB<|aa (ac 1) ad) 2)<|yV
theorem log_8{ws:List Nat}{M B:u8}{E:DEnds}{l f:List (D×D)}{h s:List D}{w:Nat}{p:c9×Int}{ps:List (c9×Int)}{n:List (c9×List c9)}{r:List D}{z:c9}{k t T:Int}{y0 Y I u:Option D}(g:LgAt ws M B (ak<|p::ps) l f h s)(N:w∈ws)(G:GenOk (p::ps) n s l f)(C:MT (p::ps))(h1:1<=(ak<|p::ps).length)(W:HouseW (p::ps) n)(m:D.tup [.str z,.int k]∈ak (p::ps)) (L:(gK l<|.tup [.str z,.int k]).getD (.int 0)=.int t) (tT:t<T) (v:OL (p::ps) h) (sl:h.length<=40) (dl:s.length<=40) (ll:l.length<=40) (Z:f.length<=40)(J:∀las' cnt' sts' deeds' B' a b c d,GenOk (p::ps) n deeds' las' cnt'->LgAt ws M B' (ak<|p::ps) las' cnt' sts' deeds'->OL (p::ps) sts'->sts'.length<=h.length+1->deeds'.length<=s.length+1->las'.length<=l.length+1->cnt'.length<=f.length+1->E.nx [y0,a7<|.tup<|.tup ((p::ps).map aw)::.tup (n.map aV)::r,a7<|.ref M.length,a7<|.ref<|M.length+1,a7<|.ref<|M.length+2,a7<|.ref<|M.length+3,a7<|.ref<|M.length+4,a7<|.ref w,a,b,c,d,u] B'):tL E [y0,a7<|.tup<|.tup ((p::ps).map aw)::.tup (n.map aV)::r,a7<|.ref M.length,a7<|.ref<|M.length+1,a7<|.ref<|M.length+2,a7<|.ref<|M.length+3,a7<|.ref<|M.length+4,a7<|.ref w,a7<|.tup [.str z,.int k],Y,a7<|.int T,I,u] B:=by
 obtain⟨wM,c,K⟩:=g.wells w N;simp only[tL];walk_at"dl";refine⟨⟨f,g.cnt⟩,f,g.cnt,rfl,?_⟩;rw[G.cnt];refine⟨w,M.length+3,c,p,ps,n,r,h,rfl,K,.inl g.sts,by lia,v.ok,v,by lia,C,h1,W,λx ds U A H=>⟨aq (by lia),?_⟩⟩;have g1:=g.wm N K H;simp only[yP];walk_at"dl";refine⟨l,g1.las,rfl,aq (by lia),?_⟩;have F:=g1.setLas (las':=mW l (.tup [.str z,.int k])<|.int T);generalize U.set (M.length+1) _=V at F;simp only[vP];walk_at"dl";refine⟨f,F.cnt,rfl,aq (by lia),?_⟩;have g3:=F.setCnt (cnt':=mW f (.tup [.str z,.int k])<|.int<|many s (.tup [.str z,.int k])+1);generalize V.set (M.length+2) _=R at g3;simp only[vO];walk_at"dl";refine⟨⟨_,.inl g3.deeds⟩,s,g3.deeds,aq (by lia),?_⟩;have o:=g3.setDeeds (deeds':=s++[.tup [.int T,.tup [.str z,.int k],.int<|many s<|.tup [.str z,.int k],.tup<|.str x::ds]]);generalize R.set (M.length+4) _=S at o;have q:=G.step W m (T:=T) (act:=.tup<|.str x::ds) (λt' e=>by rw[L]at e;injection e with e;lia) A;have O:=jZ (kvs:=l) (k:=.tup [.str z,.int k]) (d:=.int T);have P:=jZ (kvs:=f) (k:=.tup [.str z,.int k]) (d:=.int<|many s (.tup [.str z,.int k])+1);simp only[vN];walk_at"dl";have X:atI [D.int T,.tup [.str z,.int k],.int<|many s<|.tup [.str z,.int k],.tup<|.str x::ds] 3=a7 (.tup<|.str x::ds):=bp (j:=3) rfl;rw[X];dsimp only;rw[PJ];refine⟨⟨aF,aF⟩,?_⟩;cases v7 S v6 (.str x) (.str<|AA1 "say") with
 |true=>refine aM ⟨⟨_,.inl o.sts⟩,h,o.sts,aq (by lia),J _ _ _ _ _ _ _ _ _ q o.setSts (λy Q=>?_) (by simp) (by simp) O P⟩;rcases F6.mp Q with Q|Q;exact v y Q;rw[G1.mp Q];refine⟨T,_,rfl,?_,m⟩;obtain⟨t',i,t0,_⟩:=G.last<|.tup [.str z,.int k];rw[L]at i;injection i with i;lia
 |false=>exact bc<|J _ _ _ _ _ _ _ _ _ q o v (OQ _) (by simp) O P
theorem Ds{ws:List Nat}{M B:u8}{E:DEnds}{l i:List (D×D)}{n e:List D}{w:Nat}{p:c9×Int}{ps:List (c9×Int)}{A:List (c9×List c9)}{r:List D}{y0 y8 y9 R S G:Option D}(g:LgAt ws M B (ak<|p::ps) l i n e)(H:w∈ws)(K:GenOk (p::ps) A e l i)(o:MT (p::ps))(h1:1<=(ak<|p::ps).length)(hW:HouseW (p::ps) A)(so:OL (p::ps) n) (sl:n.length<=40) (dl:e.length<=40) (ll:l.length<=40) (cl:i.length<=40)(hE:∀las' cnt' sts' deeds' B' a b c d,GenOk (p::ps) A deeds' las' cnt'->LgAt ws M B' (ak<|p::ps) las' cnt' sts' deeds'->OL (p::ps) sts'->sts'.length<=n.length+1->deeds'.length<=e.length+1->las'.length<=l.length+1->cnt'.length<=i.length+1->E.nx [y0,a7<|.tup<|.tup ((p::ps).map aw)::.tup (A.map aV)::r,a7<|.ref M.length,a7<|.ref<|M.length+1,a7<|.ref<|M.length+2,a7<|.ref<|M.length+3,a7<|.ref<|M.length+4,a7<|.ref w,a,b,c,d,G] B'):(aB (bL (u4 w9 (ac 2)<|u5 am<|aa (ac 7)<|aa (u5 eJ<|aa (ac 2) ad) ad) 8)<|tM) E [y0,a7<|.tup<|.tup ((p::ps).map aw)::.tup (A.map aV)::r,a7<|.ref M.length,a7<|.ref<|M.length+1,a7<|.ref<|M.length+2,a7<|.ref<|M.length+3,a7<|.ref<|M.length+4,a7<|.ref w,y8,y9,R,S,G] B:=by
 obtain⟨wM,c,f⟩:=g.wells w H;have f4:=o.1;have aj:=cb o.2;simp only[tM];walk_at"dl";refine⟨_,.inl g.hands,w,c,_,rfl,f,by lia,by lia,λv Y v0 v1=>⟨_,.inl<|aJ (by lia) g.hands,?_⟩⟩;obtain⟨jn,hj,ej,_⟩:=cy v0 v1;rw[ej];have h:=G6 hj;generalize (ak<|p::ps)[jn]=ai at h;obtain⟨z,k,rfl⟩:=iC h;have q:WM B w (B.set w<|ah Y):=WM.drawn;generalize B.set w (ah Y)=U at q;have g1:=g.wm H f q;walk_at"dl";obtain⟨vs,I⟩:=eK K.vals;obtain⟨t,P,_,_⟩:=K.last<|.tup [.str z,.int k];have vl:vs.length<=40:=by have:=t7 Ob I;rw[x6,x6]at this;lia
 refine⟨⟨l,g1.las⟩,l,g1.las,rfl,aq (by lia),l,au g1.las,?_⟩;rw[I,P];refine⟨_,_,au aE,aE,?_,0::vs,ae,by simp,λm _ hm=>⟨aq (by lia),?_⟩⟩;rw[x6];exact aq (by simp only[C5,Fn];lia);have tm:=GM P I hm;have C:=(((q.app [MO.lst [D.int 0]]).app [MO.lst<|vs.map D.int]).app [MO.lst<|[D.int 0]++vs.map D.int])
 have x:=C.app [MO.lst [D.int t,D.int m]];have Q:ao (U++[MO.lst [D.int 0]]++[MO.lst<|vs.map D.int]++[MO.lst<|[D.int 0]++vs.map D.int]++[MO.lst [D.int t,D.int m]]) (U++[MO.lst [D.int 0]]++[MO.lst<|vs.map D.int]++[MO.lst<|[D.int 0]++vs.map D.int]).length [D.int t,D.int m]:=ae;have X:=C.len;have wB:w<B.length:=cg f;generalize (U++[MO.lst [D.int 0]]++[MO.lst<|vs.map D.int]++[MO.lst<|[D.int 0]++vs.map D.int]).length=k3 at Q X;generalize U++[MO.lst [D.int 0]]++[MO.lst<|vs.map D.int]++[MO.lst<|[D.int 0]++vs.map D.int]++[MO.lst [D.int t,D.int m]]=T at x Q;simp only[yQ];walk_at"dl";obtain⟨c3,L⟩:=x.get f;refine⟨w,c3,2,rfl,L,by decide,by decide,λv Z v0 v2=>⟨_,bo (by lia) Q,?_⟩⟩;have J:WM B w (T.set w<|ah Z):=x.set f _;generalize T.set w (ah Z)=V at J;obtain⟨u,eu,tu⟩:∃u:Int,atI [D.int t,D.int m] v=a7 (.int u)/\t<=u:=by
  have:v=0\/v=1:=by lia
  rcases this with rfl|rfl;exact⟨_,bp (j:=0) rfl,Int.le_refl _⟩;exact⟨_,bp (j:=1) rfl,tm⟩
 rw[eu];obtain⟨c5,N⟩:=J.get f;refine⟨w,c5,3,rfl,N,by decide,by decide,λa c6 a0 a3=>?_⟩;have y:WM B w (V.set w<|ah c6):=J.set f _;generalize V.set w (ah c6)=W at y;obtain⟨c7,O⟩:=y.get f;refine⟨w,c7,2,rfl,O,by decide,by decide,λb c8 b0 X=>?_⟩;have F:WM B w (W.set w<|ah c8):=y.set f _;generalize W.set w (ah c8)=B6 at F;have ab:0<=a*b:=Int.mul_nonneg a0 b0;have tT:t<u+1+a*b:=by generalize a*b=s at ab;lia
 refine⟨.inl ⟨by lia,by lia⟩,?_⟩;exact log_8 (g.wm H f F) H K o h1 hW h P tT so sl dl ll cl hE
theorem Kv(o:GenOk ps rs deeds las cnt)(g:LgAt ws M B hs las cnt sts deeds)(q:deeds.length<=40)(h:∀(log:List D) (B:u8),LogV ps rs log->IP ws M B->R (.tup log) B):oJ (EE M R) [y0,y1,y2,y3,y4,y5,a7<|.ref<|M.length+4,y7,y8,y9,y10,y11,a8] B:=by
 simp only[oJ,vM];walk_at"dl";have X:=ER o;refine⟨deeds,.inl<|au g.deeds,λ_=>?_⟩;refine cA (λi S c=>∃a,c=B++[.dkt<|cK<|deeds.take i]/\S=[y0,y1,y2,y3,y4,y5,a7<|.ref<|M.length+4,y7,y8,y9,y10,a,a7<|.ref B.length]) ?_ ?_ ⟨_,rfl,rfl⟩;rintro S c ⟨a,rfl,rfl⟩;rw[Oh];refine⟨.inl<|au g.deeds,?_⟩;simp only[vL];walk_at"dl";have u:(cK deeds).map (·.1)=deeds.map D5:=by unfold cK;rw[F9];rfl
 refine⟨_,aE,?_⟩;rw[u];refine⟨EQ (λx j=>by obtain⟨d,b,rfl⟩:=A8.mp j;exact mO (o.deed d b).1) (by rw[x6];lia),λys n F=>⟨ys,ae,λA=>?_⟩⟩;refine bb (dU deeds) (λS=>∃a,S=[a,a7<|.ref B.length]) ae _ _ _ (λs hs S w=>?_) ⟨_,rfl⟩ (by rw[Fn,Nat.zero_add];exact A) ?_;obtain⟨a,rfl⟩:=w;obtain⟨d,b,rfl⟩:=A8.mp<|n.mem_iff.mp hs;have p:=mJ X b;have r:dU deeds (D5 d)=d:=by unfold dU;rw[p];rfl
 refine⟨[a7<|D5 d,a7<|.ref B.length],⟨_,rfl⟩,λY l=>?_⟩;rw[r]at l;obtain⟨⟨t,f,m,e,rfl,⟨x,k,rfl⟩,_⟩,_⟩:=o.deed d b;simp only[D5]at p ⊢;walk_at"dl";exact⟨_,_,au aE,rfl,p,l⟩;rw[G5];refine⟨_,ae,.inl<|h _ _ (Ku o q n F) ⟨?_,λi x hi j=>au<|au<|au<|g.kept.2 i x hi j⟩⟩;have:=g.kept.1;simp only[A7,J4];lia;rintro i y S c Q ⟨a,rfl,rfl⟩ G v;refine⟨.inl<|au g.deeds,?_⟩;have hi:=(A3.mp Q).1;have C:mW (cK<|deeds.take i) (D5 y) y=cK (deeds.take<|i+1):=by
  rw[Bw];rw[NM,Q];rfl;intro z;have E:((deeds.take i).map D5++[D5 y]).Nodup:=by
   have:(deeds.map D5).take (i+1)=(deeds.take i).map D5++[D5 y]:=by rw[<-List.map_take,NM,Q,MI];rfl
   rw[<-this];exact X.sublist<|Qi _ _
  exact(List.nodup_append.mp E).2.2 _ z _ (List.mem_singleton.mpr rfl) rfl
 obtain⟨⟨t,f,m,e,rfl,⟨x,k,rfl⟩,_⟩,_⟩:=o.deed y<|NA Q;walk_at"dl";refine⟨_,aE,rfl,?_,?_⟩;have:(cK<|deeds.take i).length=i:=by unfold cK;rw[x6,H9];lia
 rw[this];exact small1000 (by lia);refine F5.now<|v _ _ ⟨_,?_,rfl⟩;rw[<-C];exact iP
theorem IT:C6 wO 13 Jd:=by
 rintro ds M R ⟨q,ws,p,ps,K,r,rfl,v,B,A,Y,k,h1,W,h⟩;simp only[Jd,yV,yU,yT,yS];walk_at"dl";have T:=cb k.2;refine⟨p::ps,_,rfl,k,D4 _,D4 _,?_⟩;have E:(M++[MO.lst<|ak<|p::ps]).length=M.length+1:=by simp
 have F:(M++[MO.lst<|ak<|p::ps]++[MO.dkt []]).length=M.length+2:=by simp
 have H:(M++[MO.lst<|ak<|p::ps]++[MO.dkt []]++[MO.dkt []]).length=M.length+3:=by simp
 have J:(M++[MO.lst<|ak<|p::ps]++[MO.dkt []]++[MO.dkt []]++[MO.lst []]).length=M.length+4:=by simp
 rw[E,F,H,J];have o:LgAt ws M (M++[MO.lst<|ak<|p::ps]++[MO.dkt []]++[MO.dkt []]++[MO.lst []]++[MO.lst []]) (ak<|p::ps) [] [] [] []:=by refine⟨⟨by simp,λi x _ U=>au<|au<|au<|au<|au U⟩,λw m=>?_,au<|au<|au<|au aE,?_,?_,?_,?_⟩;obtain⟨c,I⟩:=A w m;exact⟨cg I,c,au<|au<|au<|au<|au I⟩;rw[<-E];exact au<|au<|au aE;rw[<-F];exact au<|au aE;rw[<-H];exact au aE;rw[<-J];exact aE
 generalize M++[MO.lst<|ak<|p::ps]++[MO.dkt []]++[MO.dkt []]++[MO.lst []]++[MO.lst []]=B0 at o;simp only[yR];walk_at"dl";refine⟨_,o.kept.lst B v,λ_=>?_⟩;refine cA (λi S n=>∃l j f s a b c d e,GenOk (p::ps) K s l j/\LgAt ws M n (ak<|p::ps) l j f s/\OL (p::ps) f/\f.length<=i/\s.length<=i/\l.length<=i/\j.length<=i/\S=[a7<|.ref q,a7<|.tup<|.tup (aw p::ps.map aw)::.tup (K.map aV)::r,a7<|.ref M.length,a7<|.ref<|M.length+1,a7<|.ref<|M.length+2,a7<|.ref<|M.length+3,a7<|.ref<|M.length+4,a,b,c,d,e,a8]) ?_ ?_ ⟨[],[],[],[],_,_,_,_,_,HH,o,(λ_ z=>nomatch z),z5 _,z5 _,z5 _,z5 _,rfl⟩;rintro S n ⟨l,j,f,s,a,b,c,d,e,t,g,L,X,D,V,N,rfl⟩;refine⟨g.kept.lst B v,?_⟩;rw[x6]at D;exact Kv t g (by lia) h;rintro i y S n Q ⟨l,j,f,s,a,b,c,d,e,t,g,L,X,D,V,N,rfl⟩ G P;refine⟨g.kept.lst B v,?_⟩;rw[G2]at Q;obtain⟨w,m,rfl⟩:=O4.mp Q;have hi:=(A3.mp m).1;simp only[av,List.set_cons_zero,List.set_cons_succ];exact Ds g (NA m) t k h1 W L (by lia) (by lia) (by lia) (by lia) λlas' cnt' sts' deeds' Z a b c d u O C s1 s2 s3 s4=>F5.now<|P _ _ ⟨las',cnt',sts',deeds',_,_,_,_,_,u,O,C,by lia,by lia,by lia,by lia,rfl⟩
theorem Kj(T:Tops P w K mg base):x5 P w K mg base 5 "_law_log" Go wO:=x5.byD (N:=["_law_wells_here","_law_house_here","_law_hands_here","_law_last","_law_counts","_law_stamps","_law_deeds","_law_well_here","_law_hand","_law_times","_law_time","_law_deed","_law_found"]) T.b T.f_log (by walk_at"sc") GG (by have:=bR T;have:=ka T;have:=Kk T;walk_at"dv") IT
theorem Lz{M:u8}{n:Nat}{c U:Int}(h:M[n]?=a7 (ah c)):∀(k:Nat) (d:D),F4 M k d=a9->F4 (M.set n<|ah U) k d=a9:=by
 intro k;induction k with
 |zero=>intro d b;cases d<;>first|exact b|cases b
 |succ k g =>
  intro d b;cases d with
  |tup xs=>have h':(decide (xs.length<=30+k)&&xs.all (F4 M k))=a9:=b;rw[B8,D7]at h';show (decide (xs.length<=30+k)&&xs.all (F4 (M.set n<|ah U) k))=a9;rw[B8,D7];exact⟨h'.1,λx f=>g x<|h'.2 x f⟩
  |ref i =>
   simp only[F4]at b ⊢;by_cases e:n=i;subst e;rw[cI h];show (a9&&([D.int U].all<|F4 (M.set n<|ah U) k))=a9;cases k<;>rfl;rw[NB e];cases l:M[i]? with
   |none=>rw[l]at b;cases b
   |some a=>rw[l]at b;simp only[B8,D7]at b ⊢;exact⟨b.1,λx f=>g x<|b.2 x f⟩
  |_=>exact b
theorem w6.wm(g:w6 M k d)(h:M[n]?=a7 (ah c))(w:WM M n B):w6 B k d:=by obtain⟨U,L,rfl⟩:=w;exact⟨g.1,Bt (NO _ _) _ _<|Lz h _ _ g.2⟩
def FewT(d:D):Prop:=∀xs,d=.tup xs->xs.length<=59
theorem w6.few(g:w6 M n d):FewT d:=λxs e=>by subst e;exact g.tup.1
def bq:Nat->A4:=λf ds M R=>∃(n:Nat) (c k:Int),ds=[.ref n,.int k]/\M[n]?=a7 (ah c)/\0<=k/\k<f/\k<=5/\∀(d:D) (B:u8),WM M n B->w6 B k.toNat d->R d B
theorem AJ:∀n ds M R,bq n ds M R->ds.length=["_law_well_here","_law_depth"].length:=by rintro n ds M R ⟨n,c,k,rfl,_⟩;rfl
theorem Av:∀ds M R,¬bq 0 ds M R:=by rintro ds M R ⟨n,c,k,rfl,_,a,h1,_⟩;lia
def qF(n:Nat):u7:=aK<|u4 w9 (ac 3)<|u5 am<|aa (ac 0)<|aa (dC<|.int 11) ad
def kz(n:Nat):u7:=aB (bL (fM<|aa (dC .non)<|aa (dC<|.bl a9)<|aa (dC<|.bl b7)<|aa (dC<|.int 0)<|aa (dC<|.int 1)<|aa (QK Jz<|dC<|.int 1)<|aa (u4 zI (u5 am<|aa (ac 0)<|aa (u4 FP (dC<|.int 10)<|dC<|.int 12) ad)<|u4 FP (dC<|.int 10)<|dC<|.int 6)<|aa (dC<|.str "")<|aa (dC<|.str "a")<|aa (dC<|.str "room")<|aa (dC<|.str "say") ad) 3)<|qF n
def kA(n:Nat):u7:=aK<|u4 w9 (fM<|aa (u5 eZ<|aa (ac 3) ad)<|aa (ac 3) ad)<|u5 am<|aa (ac 0)<|aa (dC<|.int 2) ad
def qG(n:Nat):u7:=aB (z9 (Fl (al<|u4 Nc (ac 2)<|dC<|.int 2)<|al<|u4 N5 (ac 1)<|dC<|.int 0) (aB (iG 1 [0,1] (cw<|aa (u5 am<|aa (ac 0)<|aa (dC<|.int 4) ad) ad) (av 0) je (u5 (bq n)<|aa (ac 1)<|aa (u4 zI (ac 2)<|dC<|.int 1) ad) 3)<|kA n) ay)<|kz n
def tK(n:Nat):u7:=aB (bL (u5 am<|aa (ac 0)<|aa (dC<|.int 8) ad) 2)<|qG n
theorem yH(e:M[n]?=a7 (ah c))(F:k<=5)(w:WM M n B)(h:∀(d:D) (B:u8),WM M n B->w6 B k.toNat d->R d B):kz f (EE M R) [a7<|.ref n,a7<|.int k,y2,y3] B:=by
 obtain⟨s,T⟩:=w.get e;simp only[kz];walk_at"dl";refine⟨by unfold MB;decide,n,s,_,rfl,T,by decide,by decide,λi o y A=>⟨by unfold MB;decide,aq (by lia),?_⟩⟩;have J:WM M n (B.set n<|ah o):=w.set e _;have m:=J.len;generalize B.set n (ah o)=V at J m;have a:k.toNat<=30:=by lia
 have l:∀C:u8,∀x∈[D.non,D.bl a9,D.bl b7,D.int 0,D.int 1,D.int (-1),D.int<|i-10 ^ NR 6,D.str<|AA1 "",D.str<|AA1 "a",D.str<|AA1 "room",D.str<|AA1 "say"],w6 C k.toNat x:=λC x p=>by simp only[A5,MV,or_false]at p;rcases p with rfl|rfl|rfl|rfl|rfl|rfl|rfl|rfl|rfl|rfl|rfl;exact Fg a;exact Ef a;exact Ef a;exact fx a;exact fx a;exact fx a;exact fx a;exact gf (by decide +kernel) a;exact gf (by decide +kernel) a;exact gf (by decide +kernel) a;exact gf (by decide +kernel) a
 have g:([D.non,D.bl a9,D.bl b7,D.int 0,D.int 1,D.int (-1),D.int<|i-10 ^ NR 6,D.str<|AA1 "",D.str<|AA1 "a",D.str<|AA1 "room",D.str<|AA1 "say"]).length=11:=rfl;generalize [D.non,D.bl a9,D.bl b7,D.int 0,D.int 1,D.int (-1),D.int<|i-10 ^ NR 6,D.str<|AA1 "",D.str<|AA1 "a",D.str<|AA1 "room",D.str<|AA1 "say"]=a7 at l g;have b:=J.app [MO.lst a7];have u:ao (V++[MO.lst a7]) V.length a7:=ae;have N:n<M.length:=(A3.mp e).1;generalize V++[MO.lst a7]=r at b u;generalize V.length=q at u m;obtain⟨G,t⟩:=b.get e;simp only[qF];walk_at"dl";refine⟨n,G,11,rfl,t,by decide,by decide,λj H v O=>⟨a7,bo (by lia) u,?_⟩⟩;obtain⟨E,L,z,_⟩:=cy (xs:=a7) v (by lia);rw[z];have:=l (r.set n<|ah H) _<|G6 L;exact .inl<|h _ _ (b.set e _) this
theorem FC{M B:u8}{R:DK}{E:DEnds}{n f q:Nat}{c k:Int}{acc:List D}{S:Option D}(l:M[n]?=a7 (ah c))(H:1<=k)(I:k<=5)(s:WM M n B)(m:B[q]?=a7 (.lst acc))(K:M.length<=q)(A:acc.length<=3)(v:∀x∈acc,w6 B (k-1).toNat x)(y:E.rt=ar M R)(h:∀(d:D) (B:u8),WM M n B->w6 B k.toNat d->R d B):kA f E [a7<|.ref n,a7<|.int k,S,a7<|.ref q] B:=by
 have N:n<M.length:=(A3.mp l).1;have Y:k.toNat=(k-1).toNat+1:=by lia
 have t:=s.len;have z:q<B.length:=(A3.mp m).1;simp only[kA];walk_at"dl";refine⟨acc,.inl m,aq (by lia),?_⟩;have J:=s.app [MO.lst [D.tup acc,D.ref q]];have j:=au (a:=MO.lst [D.tup acc,D.ref q]) m;have r:ao (B++[MO.lst [D.tup acc,D.ref q]]) B.length [D.tup acc,D.ref q]:=ae;have g:∀x∈acc,w6 (B++[MO.lst [D.tup acc,D.ref q]]) (k-1).toNat x:=λx o=>(v x o).grow dg;generalize B++[MO.lst [D.tup acc,D.ref q]]=V at J j r g;generalize B.length=p at r t z;obtain⟨u,e⟩:=J.get l;refine⟨n,u,2,rfl,e,by decide,by decide,λi G C F=>⟨_,bo (by lia) r,?_⟩⟩;have w:WM M n (V.set n<|ah G):=J.set l _;have b:∀x∈acc,w6 (V.set n<|ah G) (k-1).toNat x:=λx o=>(g x o).wm e WM.drawn;have U:(V.set n<|ah G)[q]?=a7 (.lst acc):=aJ (by lia) j;rw[y];have:i=0\/i=1:=by lia
 rcases this with rfl|rfl;rw[PJ];refine .inl<|h _ _ w ?_;rw[Y];exact w6.mk (by lia) (by lia) b;rw[at1];refine .inl<|h _ _ w ?_;rw[Y];exact w6.mkr (.inl U) (by lia) b
theorem Cm:∀n ds M R,bq (n+1) ds M R->tK n (EE M R) (bT ["_law_well_here","_law_depth","_law_way","_law_some"] ds) M:=by
 rintro f ds M R ⟨n,c,k,rfl,b,E,I,F,h⟩;have L:n<M.length:=(A3.mp b).1;simp only[tK,qG];walk_at"dl";refine⟨n,c,8,rfl,b,by decide,by decide,λi r v A=>?_⟩;have J:WM M n (M.set n<|ah r):=WM.drawn;generalize M.set n (ah r)=V at J;dsimp only;cases decide (i<2) with
 |false=>exact bc<|yH b F J h
 |true=>refine aM ?_;by_cases s:0<k;rw[dT_ s];obtain⟨G,t⟩:=J.get b;refine aM ⟨n,G,4,rfl,t,by decide,by decide,λj H C D=>⟨⟨by lia,by lia⟩,?_⟩⟩;have l:WM M n (V.set n<|ah H):=J.set b _;generalize V.set n (ah H)=T at l;refine cS (λxs acc S o=>∃a,S=[a,a7<|.ref n,a7<|.int k]/\WM M n o/\acc.length+xs.length<=3/\∀x∈acc,w6 o (k-1).toNat x) ?_ ?_ _ _ _ _ ⟨_,rfl,l,by rw[cO,Fn];lia,λ_ z=>nomatch z⟩;rintro acc S o ⟨a,rfl,m,q,p⟩;exact⟨trivial,FC b (by lia) F (m.app _) aE m.len (by simpa using q) (λx e=>(p x e).grow dg) rfl h⟩;rintro y xs acc S o ⟨a,rfl,m,q,p⟩ K u;obtain⟨P,N⟩:=m.get b;refine⟨trivial,?_⟩;walk_at"dl";rw[C5]at q;refine⟨n,P,k-1,rfl,N,by lia,by lia,by lia,λd B w g=>⟨small1000 (by lia),u _ _ _ ⟨_,rfl,m.trans b w,by rw[A7,J4];lia,λx e=>?_⟩⟩⟩;rcases F6.mp e with e|e;exact(p x e).wm N w;rw[G1.mp e];exact g;rw[dF_ s];exact bc<|yH b F J h
theorem BF(T:Tops P w K mg base)(n:Nat)(C:x5 P w K mg base (1+n) "_law_thing" uf (bq n)):TopB mg B_ C_->List.Nodup (["_law_well_here","_law_depth","_law_way","_law_some"]:List c9)->DerT P w K mg base (1+n) "_law_thing" ["_law_well_here","_law_depth","_law_way","_law_some"] (top 50) (tK n):=by have:=bR T;walk_at"dv"
theorem oZ(T:Tops P w K mg base):∀n,x5 P w K mg base (1+n) "_law_thing" uf (bq n)
 | 0=>x5.never T.f_thing Av
 |n+1=>x5.byD (N:=["_law_well_here","_law_depth","_law_way","_law_some"]) T.b T.f_thing (by walk_at"sc") (AJ<|n+1) (BF T n<|oZ T n)<|Cm n
def eD:Nat->A4:=λf ds M R=>∃(n m:Nat) (c k:Int) (d:D),ds=[d,.ref n,.int k]/\M[n]?=a7 (ah c)/\0<=k/\k<f/\k+3<=m/\m<=29/\w6 M m d/\∀(d:D) (B:u8),WM M n B->w6 B (m+1) d->R d B
theorem Dy:∀n ds M R,eD n ds M R->ds.length=["_law_thing_here","_law_well_here","_law_depth"].length:=by rintro n ds M R ⟨n,m,c,k,d,rfl,_⟩;rfl
theorem Di:∀ds M R,¬eD 0 ds M R:=by rintro ds M R ⟨n,m,c,k,d,rfl,_,a,h1,_⟩;lia
theorem wD(h:0<=j):(cutD xs a8<|a7 j).length<=j.toNat:=by unfold cutD;rw[show (a7 j)=a7 ((j.toNat:Nat):Int) by rw[Px h],HT.sIx_none,HT.sIx_nat,H9];lia
theorem jN(h:0<=j):(cutD xs (a7 j) a8).length<=xs.length-j.toNat:=by unfold cutD;rw[show (a7 j)=a7 ((j.toNat:Nat):Int) by rw[Px h],HT.sIx_none,HT.sIx_nat,H9,N0];lia
theorem Im(h:0<=j):(cutD xs (a7 j)<|a7<|j+1).length<=1:=by unfold cutD;rw[show (a7 j)=a7 ((j.toNat:Nat):Int) by rw[Px h],show (a7<|j+1)=a7 (((j.toNat+1:Nat)):Int) by rw[Int.natCast_add,Px h];rfl,HT.sIx_nat,HT.sIx_nat,H9];lia
theorem ci(h:∀x∈xs,w6 M m x):∀x∈cutD xs lo hi,w6 M m x:=λx a=>h x<|Io a
theorem jb{M B:u8}{n m:Nat}{c:Int}{xs:List D}(h:∀x∈xs,w6 M m x)(f:M[n]?=a7 (ah c))(w:WM M n B):∀x∈xs,w6 B m x:=λx a=>(h x a).wm f w
def vR(n:Nat):u7:=aK<|u4 aI (u4 aI (E7 (ac 0) aL<|bu<|ac 3)<|cR<|aa (u5 (eD n)<|aa (u4 w9 (ac 0)<|ac 3)<|aa (ac 1)<|aa (u4 zI (ac 2)<|dC<|.int 1) ad) ad)<|E7 (ac 0) (bu<|u4 aI (ac 3)<|dC<|.int 1) aL
def vS(n:Nat):u7:=aB (z9 (al<|u4 A6 (ac 2)<|dC<|.int 0) (aK<|u4 aI (u4 aI (E7 (ac 0) aL<|bu<|ac 3)<|cR<|aa (u5 (bq 5)<|aa (ac 1)<|aa (dC<|.int 1) ad) ad)<|E7 (ac 0) (bu<|u4 aI (ac 3)<|dC<|.int 1) aL) ay)<|vR n
def vT(n:Nat):u7:=aB (z9 (al<|u4 A6 (ac 4)<|dC<|.int 3) (aK<|u4 aI (u4 aI (E7 (ac 0) aL<|bu<|ac 3)<|E7 (ac 0) (bu<|ac 3)<|bu<|u4 aI (ac 3)<|dC<|.int 1)<|E7 (ac 0) (bu<|ac 3) aL) ay)<|vS n
def vU(n:Nat):u7:=aB (z9 (al<|u4 A6 (ac 4)<|dC<|.int 2) (aK<|u5 rO<|aa (ac 0) ad) ay)<|vT n
def vV(n:Nat):u7:=aB (z9 (al<|u4 A6 (ac 4)<|dC<|.int 1) (aK<|u4 aI (u4 aI (E7 (ac 0) aL<|bu<|ac 3)<|cR<|aa (u5 (bq 5)<|aa (ac 1)<|aa (dC<|.int 1) ad) ad)<|E7 (ac 0) (bu<|ac 3) aL) ay)<|vU n
def oM(n:Nat):u7:=aB (z9 (al<|u4 A6 (ac 4)<|dC<|.int 0) (aK<|u4 aI (E7 (ac 0) aL<|bu<|ac 3)<|E7 (ac 0) (bu<|u4 aI (ac 3)<|dC<|.int 1) aL) ay)<|vV n
def vW(n:Nat):u7:=aB (bL (u5 am<|aa (ac 1)<|aa (dC<|.int 6) ad) 4)<|oM n
def vX(n:Nat):u7:=aB (bL (u5 am<|aa (ac 1)<|aa (u5 eJ<|aa (ac 0) ad) ad) 3)<|vW n
def ze(n:Nat):u7:=aB (z9 (G4 (dz<|al<|u5 fg<|aa (ac 0)<|aa (dC<|.ty "tuple") ad)<|G4 (al<|u4 A6 (ac 0)<|cR ad)<|al<|u4 A6 (u5 am<|aa (ac 1)<|aa (dC<|.int 5) ad)<|dC<|.int 0) (aK<|u5 (bq 5)<|aa (ac 1)<|aa (dC<|.int 2) ad) ay)<|vX n
theorem Mo{M B:u8}{R:DK}{n m f:Nat}{c k i j:Int}{xs:List D}(p:M[n]?=a7 (ah c))(O:0<=k)(S:k<f+1)(U:k+3<=m)(G:m<=29)(X:xs.length<=30+(m-1))(v:∀x∈xs,w6 B (m-1) x)(r:0<=j)(H:j<xs.length)(b:WM M n B)(h:∀(d:D) (B:u8),WM M n B->w6 B (m+1) d->R d B):oM f (EE M R) [a7<|.tup xs,a7<|.ref n,a7<|.int k,a7<|.int j,a7<|.int i] B:=by
 obtain⟨t,T⟩:=b.get p;have E:m=(m-1)+1:=by lia
 have a:∀(ys:List D) (C:u8),WM M n C->(∀y∈ys,w6 C m y)->ys.length<=30+m->R (.tup ys) C:=λys C w g l=>h _ _ w<|w6.mkw l (by lia) g;have J:∀{C:u8}{y:D},w6 C (m-1) y->w6 C m y:=λg=>g.mono (by lia) (by lia);have u:∀x∈xs,w6 B m x:=λx q=>J<|v x q;have V:=wD (xs:=xs) r;have I:∀(e:Int),j<=e->bq 5 [.ref n,.int 1] B λd z=>1<=sizeLine/\(cutD xs a8<|a7 j).length+1<=sizeLine/\(cutD xs a8 (a7 j)++[d]).length+(cutD xs (a7 e) a8).length<=sizeLine/\ar M R (.tup<|cutD xs a8 (a7 j)++[d]++cutD xs (a7 e) a8) z:=λe K=>by have s:=jN (xs:=xs) (show 0<=e by lia);exact⟨n,t,1,rfl,T,by decide,by decide,by decide,λd C w o=>⟨aq (by lia),aq (by lia),aq (by rw[A7,J4];lia),.inl<|a _ _ (b.trans p w) (cQ (cQ (ci<|jb u T w) λy Q=>by rw[G1.mp Q];exact o.mono (show 1<=m by lia)<|by lia)<|ci<|jb u T w)<|by rw[A7,A7,J4];lia⟩⟩
 simp only[oM];walk_at"dl";refine⟨⟨af,af⟩,?_⟩;cases v7 B v6 (.int i) (.int 0) with
 |true=>have s:=jN (xs:=xs) (show 0<=j+1 by lia);exact aM ⟨aq (by lia),.inl<|a _ _ b (cQ (ci u)<|ci u)<|by rw[A7];lia⟩
 |false =>
  refine bc ?_;simp only[vV];walk_at"dl";refine⟨⟨af,af⟩,?_⟩;cases v7 B v6 (.int i) (.int 1) with
  |true=>exact aM<|I j<|by lia
  |false =>
   refine bc ?_;simp only[vU];walk_at"dl";refine⟨⟨af,af⟩,?_⟩;cases v7 B v6 (.int i) (.int 2) with
   |true=>exact aM<|.inl<|h _ _ (b.app _)<|w6.mkr (xs:=xs) ae (by lia) λx q=>(u x q).grow dg
   |false =>
    refine bc ?_;simp only[vT];walk_at"dl";refine⟨⟨af,af⟩,?_⟩;cases v7 B v6 (.int i) (.int 3) with
    |true=>have s:=Im (xs:=xs) r;have W:=jN (xs:=xs) r;exact aM ⟨aq (by lia),aq (by rw[A7];lia),.inl<|a _ _ b (cQ (cQ (ci u)<|ci u)<|ci u)<|by rw[A7,A7];lia⟩
    |false =>
     refine bc ?_;simp only[vS];walk_at"dl";refine⟨⟨af,af⟩,?_⟩;rw[aY];cases F:(k==0) with
     |true=>exact aM<|I (j+1)<|by lia
     |false =>
      refine bc ?_;have P:k≠0:=by simpa using F
      simp only[vR];walk_at"dl";obtain⟨N,L,A,_⟩:=cy (xs:=xs) r H;rw[A];have s:=jN (xs:=xs) (show 0<=j+1 by lia);refine⟨n,m-1,t,k-1,_,rfl,T,by lia,by lia,by lia,by lia,v _<|G6 L,λd C w o=>⟨aq (by lia),aq (by lia),aq (by rw[A7,J4];lia),.inl<|a _ _ (b.trans p w) (cQ (cQ (ci<|jb u T w) λy Q=>by rw[G1.mp Q,E];exact o)<|ci<|jb u T w)<|by rw[A7,A7,J4];lia⟩⟩
theorem Fy:∀n ds M R,eD (n+1) ds M R->ze n (EE M R) (bT ["_law_thing_here","_law_well_here","_law_depth","_law_at","_law_way"] ds) M:=by
 rintro f ds M R ⟨n,m,c,k,d,rfl,a,Q,Z,U,G,g,h⟩;have y:∀(C:u8),WM M n C->bq 5 [.ref n,.int 2] C (ar M R):=λC s=>by obtain⟨A,T⟩:=s.get a;exact⟨n,A,2,rfl,T,by decide,by decide,by decide,λd B w E=>.inl<|h _ _ (s.trans a w)<|E.mono (show 2<=m+1 by lia)<|by lia⟩
 simp only[ze];rcases eL M g with⟨xs,rfl⟩|⟨r,S⟩
 obtain⟨_,m1,rfl,I⟩:=g.tup;have u:=g.wid;walk_at"dl";refine⟨by decide,?_⟩;rw[show fK "tuple" "tuple" = a9 from rfl];walk_at"ifs";refine⟨D4 _,⟨g.ok,rfl⟩,?_⟩;cases xs with
 |nil=>exact aM<|y _<|WM.now a
 |cons x xs =>
  refine bc ⟨n,c,5,rfl,a,by decide,by decide,λv p v0 v5=>⟨⟨af,af⟩,?_⟩⟩;have J:WM M n (M.set n<|ah p):=WM.drawn;have b:=jb I a J;generalize M.set n (ah p)=V at J b;generalize K:x::xs=X at b u;have x1:1<=X.length:=by rw[<-K];simp
  cases v7 V v6 (.int v) (.int 0) with
  |true=>exact aM<|y _ J
  |false=>refine bc ?_;obtain⟨D,t⟩:=J.get a;simp only[vX];walk_at"dl";refine⟨n,D,_,rfl,t,by lia,by lia,λj H L O=>?_⟩;have e:WM M n (V.set n<|ah H):=J.set a _;have l:=jb b t<|WM.drawn (c:=H);generalize V.set n (ah H)=z at e l;obtain⟨P,N⟩:=e.get a;simp only[vW];walk_at"dl";refine⟨n,P,6,rfl,N,by decide,by decide,λi q W Y=>?_⟩;have F:WM M n (z.set n<|ah q):=e.set a _;have o:=jb l N<|WM.drawn (c:=q);exact Mo a Q (by lia) U G u o L O F h
 walk_at"dl";refine⟨⟨g.thing.1,by decide⟩,?_⟩;simp only[A1]at r;rw[r];walk_at"ifs";exact y _<|WM.now a
theorem Es(T:Tops P w K mg base)(n:Nat)(C:x5 P w K mg base (6+n) "_law_bent" Ai (eD n)):TopB mg B_ C_->List.Nodup (["_law_thing_here","_law_well_here","_law_depth","_law_at","_law_way"]:List c9)->DerT P w K mg base (6+n) "_law_bent" ["_law_thing_here","_law_well_here","_law_depth","_law_at","_law_way"] (top 51) (ze n):=by have:=bR T;have:=oZ T 5;walk_at"dv"
theorem Ar(T:Tops P w K mg base):∀n,x5 P w K mg base (6+n) "_law_bent" Ai (eD n)
 | 0=>x5.never T.f_bent Di
 |n+1=>x5.byD (N:=["_law_thing_here","_law_well_here","_law_depth","_law_at","_law_way"]) T.b T.f_bent (by walk_at"sc") (Dy<|n+1) (Es T n<|Ar T n)<|Fy n
def br:A4:=λds M R=>∃(k:Int) (d:D),ds=[d,.int k]/\A1 M d∈mV/\R (.bl<|aH k d) M
theorem nk:bZ br fi:=by rintro ds M R ⟨k,d,rfl,_⟩;rfl
def jk:u7:=aK<|bt (u5 fg<|aa (ac 0)<|aa (dC<|.ty "int") ad)<|bt (BI<|u5 fg<|aa (ac 0)<|aa (dC<|.ty "bool") ad)<|u4 Pa (ac 0)<|ac 1
theorem oA:C6 br 2 jk:=by
 rintro ds M R ⟨k,d,rfl,D,h⟩;unfold jk;cases d with
 |ref n=>have e:=bv D;simp only[A1]at e;walk_at"dl";simp only[e];exact⟨by decide,bc<|ar.now h⟩
 |ty n=>simp only[A1]at D;exact r9 D<|by decide
 |int i=>walk_at"dl";exact⟨by decide,aM ⟨by decide,aM<|ar.now h⟩⟩
 |bl i=>walk_at"dl";exact⟨by decide,aM ⟨by decide,bc<|ar.now h⟩⟩
 |_=>walk_at"dl";exact⟨by decide,bc<|ar.now h⟩
theorem cz(T:Tops P w K mg base):x5 P w K mg base 1 "_law_is_whole" fi br:=x5.byD (N:=["_law_thing_here","_law_low"]) T.b T.f_l_is_whole (by walk_at"sc") nk (by walk_at"dv") oA
theorem ED(X:(ps.map (·.1)).Nodup)(x:c9)(k:Int)(a:0<=k):(ps.any λp=>(p.1==x)&&decide (k<p.2))=decide (k<dk ps (.str x)):=by
 induction ps with
 |nil=>show b7=decide (k<0);rw[dF_<|by lia]
 |cons p ps i =>
  rw[B9,MR]at X;rw[Nh,i X.2,mB p ps (.str x) []];show ((p.1==x)&&decide (k<p.2)||_)=decide (k<if (p.1==x)=a9 then p.2 else dk ps (.str x));by_cases e:p.1=x;subst e;have d:dk ps (.str p.1)=0:=by show ((ps.find? λq=>decide<|q.1=p.1).map (·.2)).getD 0=0;rw[List.find?_eq_none.mpr λq h z=>X.1<|A8.mpr ⟨q,h,by simpa using z⟩];rfl
  rw[d,t8,dF_<|show ¬k<0 by lia];simp;rw[show (p.1==x)=b7 by simpa using e];simp
def cj:A4:=λds M R=>∃(n:Nat) (ps:List (c9×Int)) (r:List D) (d:D),ds=[.tup<|.tup (ps.map aw)::r,d]/\(ps.map (·.1)).Nodup/\w6 M n d/\R (.bl<|aW ps d) M
theorem pq:bZ cj gn:=by rintro ds M R ⟨n,ps,r,d,rfl,_⟩;rfl
theorem oq(h:∀a b,d≠.tup [a,b]):aW ps d=b7:=by unfold aW;split;exact r9 rfl<|h _ _;rfl
theorem cG(h:∀x,a≠.str x):aW ps (.tup [a,b])=b7:=by rw[Bool.eq_false_iff];intro z;obtain⟨x,k,e⟩:=mH z;simp at e;exact h x e.1
theorem sI{α:Type}(p:α->Bool)(l:List α):(l.filter p).isEmpty = !l.any p:=by
 induction l with
 |nil=>rfl
 |cons a l i =>
  rw[OU,Nh];cases e:p a with
  |true=>simp
  |false=>simpa using i
noncomputable def JK(x:c9)(k:Int):D->Bool
 |.tup [.str y,.int m]=>(y==x)&&decide (k<m)
 |_=>b7
def gZ:u7:=aK<|u4 MZ (F7 2 [1] (bF<|u4 w9 (ac 0)<|dC<|.int 0) (jW 2<|bE (av 0)<|bE (av 1) jX) (Fl (al<|u4 A6 (ac 0)<|u4 w9 (ac 2)<|dC<|.int 0)<|al<|u4 Nc (u4 w9 (ac 2)<|dC<|.int 1)<|ac 1)<|ac 0)<|fM ad
def hV:u7:=aB (z9 (dz<|al<|u5 br<|aa (u4 w9 (ac 1)<|dC<|.int 1)<|aa (dC<|.int 0) ad) (aK<|dC<|.bl b7) ay)<|gZ
def kP:u7:=aB (z9 (G4 (dz<|al<|u5 fg<|aa (ac 1)<|aa (dC<|.ty "tuple") ad)<|G4 (al<|u4 MZ (u5 eJ<|aa (ac 1) ad)<|dC<|.int 2)<|dz<|al<|u5 fg<|aa (u4 w9 (ac 1)<|dC<|.int 0)<|aa (dC<|.ty "str") ad) (aK<|dC<|.bl b7) ay)<|hV
theorem qf:C6 cj 2 kP:=by
 rintro ds M R ⟨n,ps,r,d,rfl,B,g,h⟩;simp only[kP];rcases eL M g with⟨xs,rfl⟩|⟨j,l⟩
 obtain⟨C,m,rfl,v⟩:=g.tup;walk_at"dl";refine⟨by decide,?_⟩;rw[show fK "tuple" "tuple" = a9 from rfl];walk_at"ifs";refine⟨⟨af,af⟩,?_⟩;rw[aY];rcases jh (.tup xs)with⟨a,b,e⟩|⟨j,l⟩
 injection e with e;subst e;rw[show ((([a,b]:List D).length:Int)==2)=a9 from rfl];walk_at"ifs";have u:=v a (by simp);have A:=v b (by simp);cases a with
 |str x =>
  walk_at"dl";refine⟨by decide,?_⟩;rw[show fK "str" "str" = a9 from rfl];walk_at"ifs";simp only[hV];walk_at"dl";refine⟨0,b,rfl,A.thing.1,?_⟩;cases b with
  |int k =>
   simp only[aW]at h;by_cases f:0<=k;rw[dT_ f,E5]at h;rw[show aH 0 (.int k)=a9 from dT_ f];walk_at"ifs";simp only[gZ];walk_at"dl";intro q;refine bM (JK x k) bw (λS=>∃a b,S=[a,b,a7<|.tup [.str x,.int k]]) trivial _ _ _ ?_ ⟨_,_,rfl⟩ (by simpa using q) ?_;rintro y Q S ⟨a,b,rfl⟩;obtain⟨p,E,rfl⟩:=A8.mp Q;refine⟨[a7<|.str p.1,a7<|.int p.2,a7<|.tup [.str x,.int k]],⟨_,_,rfl⟩,λY Z o=>?_⟩;have c:if ((p.1==x)&&decide (k<p.2))=a9 then Y (.str p.1) [a7<|.str p.1,a7<|.int p.2,a7<|.tup [.str x,.int k]] M else Z [a7<|.str p.1,a7<|.int p.2,a7<|.tup [.str x,.int k]] M:=o
   simp only[aw];walk_at"dl";refine⟨trivial,⟨aF,aF⟩,?_⟩;rw[bJ];cases e:(p.1==x) with
   |false=>rw[e]at c;exact c
   |true=>rw[e]at c;exact c
   rw[G5];obtain⟨s,X⟩:=pc (M:=M++[MO.lst<|((ps.map aw).filter<|JK x k).map bw]) (n:=M.length) ae λy Q=>by obtain⟨z,q,rfl⟩:=A8.mp Q;obtain⟨p,_,rfl⟩:=A8.mp (Nj.mp q).1;exact aF
   refine⟨D4 _,s,?_⟩;rw[X,List.isEmpty_map,sI,Bool.not_not,List.any_map];refine ar.bl ?_ (by rw[Nk];exact NO _ _);rw[<-ED B x k f]at h;exact h;rw[dF_ f]at h;rw[show aH 0 (.int k)=b7 from dF_ f];walk_at"ifs";exact ar.now h
  |non=>rw[show aH 0 .non=b7 from rfl];walk_at"ifs";exact ar.now h
  |bl z=>rw[show aH 0 (.bl z)=b7 from rfl];walk_at"ifs";exact ar.now h
  |str z=>rw[show aH 0 (.str z)=b7 from rfl];walk_at"ifs";exact ar.now h
  |ty z=>rw[show aH 0 (.ty z)=b7 from rfl];walk_at"ifs";exact ar.now h
  |tup z=>rw[show aH 0 (.tup z)=b7 from rfl];walk_at"ifs";exact ar.now h
  |ref z=>rw[show aH 0 (.ref z)=b7 from rfl];walk_at"ifs";exact ar.now h
 |ref i=>have e:=bv u.thing.1;simp only[A1]at e;rw[cG λ_ z=>by cases z]at h;walk_at"dl";simp only[e];exact⟨by decide,aM<|ar.now h⟩
 |ty t=>exact r9 u.thing.1<|by simp only[A1];decide
 |non=>walk_at"dl";exact⟨by decide,aM<|ar.now<|by rw[cG λ_ z=>by cases z]at h;exact h⟩
 |bl t=>walk_at"dl";exact⟨by decide,aM<|ar.now<|by rw[cG λ_ z=>by cases z]at h;exact h⟩
 |int t=>walk_at"dl";exact⟨by decide,aM<|ar.now<|by rw[cG λ_ z=>by cases z]at h;exact h⟩
 |tup t=>walk_at"dl";exact⟨by decide,aM<|ar.now<|by rw[cG λ_ z=>by cases z]at h;exact h⟩
 have w:((xs.length:Int)==2)=b7:=j;rw[w];walk_at"ifs";rw[oq l]at h;exact ar.now h;rw[oq λa b=>l _]at h;walk_at"dl";refine⟨⟨g.thing.1,by decide⟩,?_⟩;simp only[A1]at j;rw[j];walk_at"ifs";exact ar.now h
theorem jF(T:Tops P w K mg base):x5 P w K mg base 2 "_law_is_hand" gn cj:=x5.byD (N:=["_law_house_here","_law_thing_here"]) T.b T.f_l_is_hand (by walk_at"sc") pq (by have:=cz T;walk_at"dv") qf
def aR:A4:=λds M R=>∃(n:Nat) (ps:List (c9×Int)) (r:List D) (d:D),ds=[.tup<|.tup (ps.map aw)::r,d]/\(ps.map (·.1)).Nodup/\w6 M n d/\R (.bl<|bm ps d) M
theorem np:bZ aR fj:=by rintro ds M R ⟨n,ps,r,d,rfl,_⟩;rfl
def fY:u7:=aK<|bt (u5 br<|aa (u4 w9 (ac 1)<|dC<|.int 0)<|aa (dC<|.int 1) ad)<|u5 cj<|aa (ac 0)<|aa (u4 w9 (ac 1)<|dC<|.int 1) ad
def jm:u7:=aB (z9 (G4 (dz<|al<|u5 fg<|aa (ac 1)<|aa (dC<|.ty "tuple") ad)<|al<|u4 MZ (u5 eJ<|aa (ac 1) ad)<|dC<|.int 2) (aK<|dC<|.bl b7) ay)<|fY
theorem oB:C6 aR 2 jm:=by
 rintro ds M R ⟨n,ps,r,d,rfl,X,g,h⟩;simp only[jm];rcases eL M g with⟨xs,rfl⟩|⟨t,l⟩
 obtain⟨k,m,rfl,x⟩:=g.tup;walk_at"dl";refine⟨by decide,?_⟩;rw[show fK "tuple" "tuple" = a9 from rfl];walk_at"ifs";refine⟨⟨af,af⟩,?_⟩;rw[aY];rcases jh (.tup xs)with⟨a,b,e⟩|⟨t,l⟩
 injection e with e;subst e;rw[show ((([a,b]:List D).length:Int)==2)=a9 from rfl];walk_at"ifs";have i:=x a (by simp);have j:=x b (by simp);simp only[fY];walk_at"dl";refine⟨1,a,rfl,i.thing.1,?_⟩;simp only[bm]at h;cases c:aH 1 a with
 |false=>rw[c]at h;walk_at"ifs";exact ar.now h
 |true=>rw[c]at h;walk_at"ifs";exact⟨m,ps,r,b,rfl,X,j,ar.now h⟩
 have f:((xs.length:Int)==2)=b7:=t;rw[f];walk_at"ifs";rw[lL l]at h;exact ar.now h;rw[lL λa b=>l _]at h;walk_at"dl";refine⟨⟨g.thing.1,by decide⟩,?_⟩;simp only[A1]at t;rw[t];walk_at"ifs";exact ar.now h
theorem dJ(T:Tops P w K mg base):x5 P w K mg base 3 "_law_is_stamp" fj aR:=x5.byD (N:=["_law_house_here","_law_thing_here"]) T.b T.f_l_is_stamp (by walk_at"sc") np (by have:=cz T;have:=jF T;walk_at"dv") oB
theorem Cv(h1:bh a b=a9)(h2:bh b c=a9):bh a c=a9:=by unfold bh at *;rw[s9]at *;exact List.lt_trans h1 h2
theorem zo(a b:c9):bh a b=a9\/a=b\/bh b a=a9:=by unfold bh;rw[s9,s9];by_cases h1:a.cps.toList<b.cps.toList;exact .inl h1;by_cases h2:b.cps.toList<a.cps.toList;exact .inr<|.inr h2;exact .inr<|.inl<|tU<|List.le_antisymm (List.not_lt.mp h2)<|List.not_lt.mp h1
theorem ke:z7 M v6 (.tup [.str x,.int k]) (.tup [.str y,.int l])=if x=y then decide (k<l)else bh x y:=by show (if v7 M 29 (.str x) (.str y)=a9 then(if v7 M 29 (.int k) (.int l)=a9 then b7 else decide (k<l))else bh x y)=_;rw[bJ,aY];by_cases e:x=y;subst e;rw[p9 (by simp),p9 rfl];by_cases a:k=l;subst a;rw[p9<|by simp];exact(dF_<|by lia).symm;rw[q9<|by simpa using a];rw[q9 (by simpa using e),q9 e]
theorem Lm(f:Hd a)(d:Hd b):z7 M v6 a b=a9\/a=b\/z7 M v6 b a=a9:=by
 obtain⟨x,k,rfl⟩:=f;obtain⟨y,l,rfl⟩:=d;rw[ke,ke];by_cases e:x=y;subst e;rw[p9 rfl,p9 rfl,s9,s9];have:k<l\/k=l\/l<k:=by lia
 rcases this with h|h|h;exact .inl h;subst h;exact .inr<|.inl rfl;exact .inr<|.inr h;rw[q9 e,q9<|D3 e];rcases zo x y with h|h|h;exact .inl h;exact r9 h e;exact .inr<|.inr h
theorem Ln(f:Hd a)(g:Hd b)(i:Hd c)(h1:z7 M v6 a b=a9)(h2:z7 M v6 b c=a9):z7 M v6 a c=a9:=by obtain⟨x,k,rfl⟩:=f;obtain⟨y,l,rfl⟩:=g;obtain⟨z,m,rfl⟩:=i;rw[ke]at *;by_cases e:x=y;subst e;rw[p9 rfl,s9]at h1;by_cases d:x=z;subst d;rw[p9 rfl,s9]at h2 ⊢;lia;rw[q9 d]at h2 ⊢;exact h2;rw[q9 e]at h1;by_cases d:y=z;subst d;rw[q9 e];exact h1;rw[q9 d]at h2;have h:=Cv h1 h2;by_cases R:x=z;subst R;rw[rB]at h;cases h;rw[q9 R];exact h
theorem Lr(f:Hd a):z7 M v6 a a=b7:=by obtain⟨x,k,rfl⟩:=f;rw[ke,p9 rfl];exact dF_<|by lia
theorem wd:∀{xs:List D},(∀x∈xs,Hd x)->aN M xs=a9->xs.Pairwise λa b=>z7 M v6 a b=a9
 | [],_,_=>.nil
 | [_],_,_=>Qx _ _
 |a::b::r,hd,h=>by have h':(z7 M v6 a b&&aN M (b::r))=a9:=h;rw[B8]at h';have ih:=wd (λx hx=>hd x<|C0 _ hx) h'.2;rw[Nz];refine⟨λx hx=>?_,ih⟩;rcases A5.mp hx with rfl|hx;exact h'.1;exact Ln (hd a<|by simp) (hd b<|by simp) (hd x<|by simp[hx]) h'.1<|(Nz.mp ih).1 x hx
theorem wg:∀{xs:List D},(xs.Pairwise λa b=>z7 M v6 a b=a9)->aN M xs=a9
 | [],_=>rfl
 | [_],_=>rfl
 |a::b::r,h=>by rw[Nz]at h;show (z7 M v6 a b&&aN M (b::r))=a9;rw[h.1 b (by simp),wg h.2];rfl
theorem rM{α:Type}{lt:α->α->Prop}:∀{xs ys:List α},(∀a∈xs,∀b∈xs,lt a b->¬lt b a)->xs.Pairwise lt->ys.Pairwise lt->(∀x,x∈ys↔x∈xs)->xs=ys
 | [],[],_,_,_,_=>rfl
 | [],y::ys,_,_,_,h=>r9 ((h y).mp C7)<|by simp
 |x::xs,[],_,_,_,h=>r9 ((h x).mpr C7)<|by simp
 |x::xs,y::ys,as,hx,hy,h=>by
  rw[Nz]at hx hy;have e:x=y:=by rcases A5.mp ((h x).mpr C7)with e|m1;exact e;rcases A5.mp ((h y).mp C7)with e|m2;exact e.symm;exact r9 (hx.1 y m2)<|as _ (C0 _ m2) _ C7<|hy.1 x m1
  subst e;rw[rM (λa ha b hb=>as a (C0 _ ha) b<|C0 _ hb) hx.2 hy.2 λz=>⟨λm=>by rcases A5.mp ((h z).mp<|C0 _ m)with e|m';subst e;exact r9 (hy.1 z m)<|λq=>as z C7 z C7 q q;exact m',λm=>by rcases A5.mp ((h z).mpr<|C0 _ m)with e|m';subst e;exact r9 (hx.1 z m)<|λq=>as z C7 z C7 q q;exact m'⟩]
theorem Fd:∀{xs ys:List D},(∀x∈xs,Hd x)->(∀y∈ys,Hd y)->(D8 (v7 M<|n+1) xs ys=a9↔xs=ys)
 | [],[],_,_=>⟨λ_=>rfl,λ_=>rfl⟩
 | [],_::_,_,_=>⟨(λz=>nomatch z),(λz=>nomatch z)⟩
 |_::_,[],_,_=>⟨(λz=>nomatch z),(λz=>nomatch z)⟩
 |x::xs,y::ys,hx,hy=>by show (v7 M (n+1) x y&&D8 (v7 M<|n+1) xs ys)=a9↔_;rw[B8,Ls (hx x<|by simp) (hy y<|by simp),Fd (λz m=>hx z<|C0 _ m)<|λz m=>hy z<|C0 _ m,Q1]
theorem sH(d:∀x∈hs,Hd x)(X:ys.Nodup)(c:∀x,x∈ys↔x∈hs)(p:yi M1 ys):D8 (v7 B<|n+1) hs ys=aN M hs:=by
 have Q:∀y∈ys,Hd y:=λy m=>d y<|(c y).mp m;have w:ys.Pairwise λa b=>z7 M v6 a b=a9:=by have h2:=O1.mp<|RF X p;refine h2.imp λ{a b} ⟨ma,mb,ne,lt⟩=>?_;rw[Lq (M':=M) (Q b mb)<|Q a ma]at lt;rcases Lm (M:=M) (Q a ma) (Q b mb)with h|h|h;exact h;exact r9 h ne;rw[h]at lt;cases lt
 rw[Ni,Fd d Q];constructor;rintro rfl;exact wg w;intro h;refine rM (λa f b e h1 h2=>?_) (wd d h) w c;have:=Ln (d a f) (d b e) (d a f) h1 h2;rw[Lr<|d a f]at this;cases this
def cf:A4:=λds M R=>∃(n:Nat) (ps:List (c9×Int)) (r:List D) (d:D),ds=[.tup<|.tup (ps.map aw)::r,d]/\(ps.map (·.1)).Nodup/\w6 M n d/\FewT d/\R (.bl<|ca M ps d) M
theorem mD:bZ cf dG:=by rintro ds M R ⟨n,ps,r,d,rfl,_⟩;rfl
theorem tI(m:x∈xs)(h:bN ps x=b7):ca M ps (.tup xs)=b7:=by
 have:xs.all (bN ps)=b7:=by rw[List.all_eq_false];exact⟨x,m,by rw[h];decide⟩
 simp only[ca,this,J7]
def eM:u7:=aK<|u4 A6 (ac 2)<|fB<|ac 2
def eN:u7:=nq<|NF dc (ac 2)<|aa (u4 w9 (ac 3)<|dC<|.int 0) ad
def eO:u7:=aB (z9 (dz<|al<|u5 br<|aa (u4 w9 (ac 3)<|dC<|.int 1)<|aa (dC<|.int 1) ad) (aK<|dC<|.bl b7) ay)<|eN
def eP:u7:=aB (sN (bF<|ac 1) (av 3)<|aB (z9 (G4 (dz<|al<|u5 fg<|aa (ac 3)<|aa (dC<|.ty "tuple") ad)<|G4 (al<|u4 MZ (u5 eJ<|aa (ac 3) ad)<|dC<|.int 2)<|dz<|al<|u5 cj<|aa (ac 0)<|aa (u4 w9 (ac 3)<|dC<|.int 0) ad) (aK<|dC<|.bl b7) ay)<|eO)<|eM
def eQ:u7:=aB (bL (fM ad) 2)<|eP
def gW:u7:=aB (z9 (dz<|al<|u5 fg<|aa (ac 1)<|aa (dC<|.ty "tuple") ad) (aK<|dC<|.bl b7) ay)<|eQ
theorem mX:C6 cf 4 gW:=by
 rintro ds M R ⟨n,ps,r,d,rfl,X,g,w,h⟩;simp only[gW];rcases eL M g with⟨xs,rfl⟩|⟨t,l⟩
 obtain⟨P,m,rfl,J⟩:=g.tup;have O:=w xs rfl;walk_at"dl";refine⟨by decide,?_⟩;rw[show fK "tuple" "tuple" = a9 from rfl];walk_at"ifs";simp only[eQ,eP];walk_at"dl";refine⟨D4 _,λ_=>?_⟩;refine cA (λi S q=>(∀x∈xs.take i,bN ps x=a9)/\q=M++[.lst<|(xs.take i).map bw]/\∃a,S=[a7<|.tup<|.tup (ps.map aw)::r,a7<|.tup xs,a7<|.ref M.length,a]) ?_ ?_ ⟨(λ_ z=>nomatch z),rfl,_,rfl⟩;rintro S q ⟨j,rfl,a,rfl⟩;rw[Oh]at j ⊢;refine⟨trivial,?_⟩;simp only[eM];walk_at"dl";have f:∀x∈xs.map bw,Hd x:=λx c=>by obtain⟨y,Q,rfl⟩:=A8.mp c;obtain⟨a,b,rfl,v,_⟩:=wE<|j y Q;exact mH v
 have B:(xs.map bw).length<64:=by rw[x6];lia
 refine⟨1,_,by decide,.inl ⟨_,rfl,ae⟩,B,λx c=>?_,⟨B,λx c=>?_,λx c y Q=>(Fe (f x c)<|f y Q).2.2,.inr<|.inr<|.inl λx c=>?_⟩,λys C o N=>⟨⟨cv (n:=29) (ae.more _) λx c=>?_,cv (n:=29) ae λx c=>?_⟩,?_⟩⟩;obtain⟨z,k,rfl⟩:=f x c;exact⟨rfl,rfl⟩;obtain⟨z,k,rfl⟩:=f x c;rfl;obtain⟨z,k,rfl⟩:=f x c;exact⟨_,_,rfl⟩;obtain⟨z,k,rfl⟩:=f x c;rfl;obtain⟨z,k,rfl⟩:=f x<|(o x).mp c;rfl;have e:v7 (M++[MO.lst<|xs.map bw]++[MO.lst ys]) v6 (.ref M.length) (.ref (M++[MO.lst<|xs.map bw]).length)=aN M (xs.map bw):=(fL (n:=29) (ae.more _) ae).trans<|sH (n:=28) f C o N;rw[e];have:ca M ps (.tup xs)=aN M (xs.map bw):=by simp only[ca];rw[D7.mpr j,E5]
 rw[this]at h;exact ar.bl h<|dg.trans dg;rintro i y S q Q ⟨j,rfl,a,rfl⟩ G K;refine⟨trivial,?_⟩;have F:=NA Q;have u:=(J y F).grow<|dg (mo:=MO.lst<|(xs.take i).map bw);have p:bN ps y=b7->ar M R (.bl b7) (M++[MO.lst<|(xs.take i).map bw]):=λe=>by rw[tI F e]at h;exact ar.bl h dg
 have L:(xs.take i).length<=59:=by rw[H9];lia
 rcases eL _ u with⟨H,rfl⟩|⟨t,l⟩
 walk_at"dl";refine⟨by decide,?_⟩;rw[show fK "tuple" "tuple" = a9 from rfl];walk_at"ifs";refine⟨⟨af,af⟩,?_⟩;rw[aY];rcases jh (.tup H)with⟨a,b,e⟩|⟨t,l⟩
 injection e with e;subst e;rw[show ((([a,b]:List D).length:Int)==2)=a9 from rfl];obtain⟨_,W,rfl,E⟩:=u.tup;walk_at"ifs";walk_at"dl";refine⟨W,ps,r,a,rfl,X,E a (by simp),?_⟩;cases s:aW ps a with
 |false=>walk_at"ifs";exact p<|by simp only[bN,s,J7]
 |true =>
  walk_at"ifs";simp only[eO];walk_at"dl";refine⟨1,b,rfl,(E b<|by simp).thing.1,?_⟩;cases A:aH 1 b with
  |false=>walk_at"ifs";exact p<|by simp only[bN,s,A,Pn]
  |true=>walk_at"ifs";simp only[eN];walk_at"dl";refine⟨⟨_,ae⟩,_,aE,by rw[x6];exact small1000 (by lia),F5.now<|K _ _ ⟨λx c=>?_,?_,_,rfl⟩⟩;rw[NM,Q]at c;rcases F6.mp c with c|c;exact j x c;rw[Option.toList_some,G1]at c;subst c;simp only[bN,s,A,M9];rw[iP,NM,Q,MI];rfl
 have I:((H.length:Int)==2)=b7:=t;rw[I];walk_at"ifs";exact p<|iH l;walk_at"dl";refine⟨⟨u.thing.1,by decide⟩,?_⟩;simp only[A1]at t;rw[t];walk_at"ifs";exact p<|iH λa b=>l _;rw[nu l]at h;walk_at"dl";refine⟨⟨g.thing.1,by decide⟩,?_⟩;simp only[A1]at t;rw[t];walk_at"ifs";exact ar.now h
theorem na(T:Tops P w K mg base):x5 P w K mg base 3 "_law_is_vector" dG cf:=x5.byD (N:=["_law_house_here","_law_thing_here","_law_hands_here","_law_pair"]) T.b T.f_l_is_vector (by walk_at"sc") mD (by have:=cz T;have:=jF T;walk_at"dv") mX
theorem yg:(AA1 "abcdefghijklmnopqrstuvwxyz").cps.toList=(C3 26).map (· + 97):=by decide +kernel
theorem BX(c:Nat):decide (c∈(AA1 "abcdefghijklmnopqrstuvwxyz").cps.toList)=bI c:=by rw[yg,Ni];unfold bI;simp only[A8,I9,s9,B8];constructor;rintro⟨a,ha,rfl⟩;lia;rintro⟨h1,h2⟩;exact⟨c-97,by lia,by lia⟩
def cW:A4:=λds M R=>∃d,ds=[d]/\mS M d/\R (.bl<|iB d) M
theorem pk:bZ cW gk:=by rintro ds M R ⟨x,rfl,_⟩;rfl
theorem gL{α:Type}(p:α->Bool)(l:List α):(l.filter p).isEmpty=l.all λx=>!p x:=by
 induction l with
 |nil=>rfl
 |cons a l i =>
  rw[OU,MG];cases e:p a with
  |true=>simp
  |false=>simpa using i
theorem Fh(L:ao M n xs)(ok:∀x∈xs,x3 (M++[MO.lst []]) 29 x=a9)(q:Q (.bl xs.isEmpty) (M++[.lst []])):A6 (.ref n) (.ref M.length) (M++[.lst []]) Q:=by
 have h1:ao (M++[MO.lst []]) n xs:=by
  obtain⟨a⟩:=(⟨L⟩:Nonempty _)
  rcases L with h|h|h;exact .inl (by rw[J0 (A3.mp h).1];exact h);exact .inr (.inl<|by rw[J0 (A3.mp h).1];exact h);exact .inr<|.inr<|by rw[J0 (A3.mp h).1];exact h
 have h2:ao (M++[MO.lst []]) M.length []:=ae;refine⟨⟨cv h1 ok,cv h2 λ_ z=>nomatch z⟩,?_⟩;rw[show v6=29+1 from rfl,fL h1 h2,By];exact q
def gY:u7:=aK<|u4 A6 (F7 1 [] (bF<|ac 0) (av 0) (al<|u4 zK (ac 0)<|dC<|.str "abcdefghijklmnopqrstuvwxyz")<|ac 0)<|fM ad
def kO:u7:=aB (z9 (G4 (dz<|al<|u5 fg<|aa (ac 0)<|aa (dC<|.ty "str") ad)<|dz<|al<|cT MD MD (dC<|.int 1) (u5 eJ<|aa (ac 0) ad)<|dC<|.int 8) (aK<|dC<|.bl b7) ay)<|gY
theorem qd:C6 cW 1 kO:=by
 rintro ds M R ⟨d,rfl,⟨f,l⟩,h⟩;simp only[kO,gY];cases d with
 |str x =>
  have k:=l x rfl;walk_at"dl";refine⟨by decide,?_⟩;rw[show fK "str" "str" = a9 from rfl];walk_at"ifs";refine⟨k,?_⟩;simp only[iB]at h;by_cases h1:1<=x.length;rw[dT_ h1]at h;rw[dT_<|show (1:Int)<=(x.length:Int) by lia];walk_at"ifs";by_cases j:x.length<=8;rw[dT_ j]at h;rw[dT_<|show (x.length:Int)<=8 by lia];walk_at"ifs";refine bM (λd=>!bI (Pc d)) id (λS=>∃a,S=[a]) trivial _ _ _ ?_ ⟨_,rfl⟩ ?_ ?_;rintro y g S ⟨a,rfl⟩;obtain⟨c,m,rfl⟩:=ii g;refine⟨[a7<|.str ⟨#[c]⟩],⟨_,rfl⟩,λY Z o=>?_⟩;have i:=StrLaws.found_one "abcdefghijklmnopqrstuvwxyz" c;rw[BX]at i;rw[BM]at o;show if ((!(Qy "abcdefghijklmnopqrstuvwxyz" ⟨#[c]⟩ 0 (AA1 "abcdefghijklmnopqrstuvwxyz").length 1).isEmpty) != a9)=a9 then Y (.str ⟨#[c]⟩) [a7<|.str ⟨#[c]⟩] M else Z [a7<|.str ⟨#[c]⟩] M
  rw[i];cases e:bI c with
  |true=>rw[e]at o;exact o
  |false=>rw[e]at o;exact o
  simp only[rK,Fn];exact aq (by lia);rw[G5,P0];refine⟨D4 _,Fh (Q:=ar M R) ae (λy g=>?_) ?_⟩;obtain⟨c,_,rfl⟩:=ii (Nj.mp g).1;exact aF;rw[gL];have e:(signs x).all (λd=>!!bI (Pc d))=x.cps.toList.all bI:=by unfold signs;rw[Ou];congr 1;funext c;show (!!bI c)=bI c;rw[Bool.not_not]
  rw[e];refine ar.bl ?_ (by rw[Nk];exact NO _ _);simpa using h;rw[dF_ j]at h;rw[dF_<|show ¬(x.length:Int)<=8 by lia];walk_at"ifs";exact ar.now (by simpa using h);rw[dF_ h1]at h;rw[dF_<|show ¬(1:Int)<=(x.length:Int) by lia];walk_at"ifs";exact ar.now<|by simpa using h
 |non=>walk_at"dl";exact⟨by decide,aM<|ar.now h⟩
 |bl b=>walk_at"dl";exact⟨by decide,aM<|ar.now h⟩
 |int b=>walk_at"dl";exact⟨by decide,aM<|ar.now h⟩
 |tup b=>walk_at"dl";exact⟨by decide,aM<|ar.now h⟩
 |ty b=>exact r9 f<|by simp only[A1];decide
 |ref n=>have e:=bv f;simp only[A1]at e;walk_at"dl";rw[e];exact⟨by decide,aM<|ar.now h⟩
theorem rW(T:Tops P w K mg base):x5 P w K mg base 1 "_law_is_name" gk cW:=x5.byD (N:=["_law_thing_here"]) T.b T.f_l_is_name (by walk_at"sc") pk (by walk_at"dv") qd
def bG:A4:=λds M R=>∃d,ds=[d]/\mS M d/\R (.bl<|cP d) M
theorem mE:bZ bG dH:=by rintro ds M R ⟨x,rfl,_⟩;rfl
theorem zB(c:Nat):ij c=(decide ((31:Int)<(c:Int))&&decide ((c:Int)<127)):=by unfold ij;rw[Ni];simp only[B8,s9];lia
def eR:u7:=aK<|u4 A6 (F7 1 [] (bF<|ac 0) (av 0) (dz<|al<|cT Nc Nc (dC<|.int 31) (u5 II<|aa (ac 0) ad)<|dC<|.int 127)<|ac 0)<|fM ad
def gX:u7:=aB (z9 (G4 (dz<|al<|u5 fg<|aa (ac 0)<|aa (dC<|.ty "str") ad)<|dz<|al<|cT MD MD (dC<|.int 1) (u5 eJ<|aa (ac 0) ad)<|dC<|.int 60) (aK<|dC<|.bl b7) ay)<|eR
theorem mY:C6 bG 1 gX:=by
 rintro ds M R ⟨d,rfl,⟨f,l⟩,h⟩;simp only[gX,eR];cases d with
 |str x =>
  have k:=l x rfl;walk_at"dl";refine⟨by decide,?_⟩;rw[show fK "str" "str" = a9 from rfl];walk_at"ifs";refine⟨k,?_⟩;simp only[cP]at h;by_cases h1:1<=x.length;rw[dT_ h1]at h;rw[dT_<|show (1:Int)<=(x.length:Int) by lia];walk_at"ifs";by_cases i:x.length<=60;rw[dT_ i]at h;rw[dT_<|show (x.length:Int)<=60 by lia];walk_at"ifs";refine bM (λd=>!ij (Pc d)) id (λS=>∃a,S=[a]) trivial _ _ _ ?_ ⟨_,rfl⟩ ?_ ?_;rintro y g S ⟨a,rfl⟩;obtain⟨c,m,rfl⟩:=ii g;refine⟨[a7<|.str ⟨#[c]⟩],⟨_,rfl⟩,λY Z o=>?_⟩;rw[BM,zB]at o;walk_at"dl";refine⟨rfl,?_⟩;rw[show (#[c]:Array Nat).getD 0 0=c from rfl];cases q:decide ((31:Int)<(c:Int)) with
  |false=>rw[q]at o;exact o
  |true =>
   rw[q]at o;cases j:decide ((c:Int)<127) with
   |false=>rw[j]at o;exact o
   |true=>rw[j]at o;exact o
  simp only[rK,Fn];exact aq (by lia);rw[G5,P0];refine⟨D4 _,Fh (Q:=ar M R) ae (λy g=>?_) ?_⟩;obtain⟨c,_,rfl⟩:=ii (Nj.mp g).1;exact aF;rw[gL];have e:(signs x).all (λd=>!!ij (Pc d))=x.cps.toList.all ij:=by unfold signs;rw[Ou];congr 1;funext c;show (!!ij c)=ij c;rw[Bool.not_not]
  rw[e];refine ar.bl ?_ (by rw[Nk];exact NO _ _);simpa using h;rw[dF_ i]at h;rw[dF_<|show ¬(x.length:Int)<=60 by lia];walk_at"ifs";exact ar.now (by simpa using h);rw[dF_ h1]at h;rw[dF_<|show ¬(1:Int)<=(x.length:Int) by lia];walk_at"ifs";exact ar.now<|by simpa using h
 |non=>walk_at"dl";exact⟨by decide,aM<|ar.now h⟩
 |bl b=>walk_at"dl";exact⟨by decide,aM<|ar.now h⟩
 |int b=>walk_at"dl";exact⟨by decide,aM<|ar.now h⟩
 |tup b=>walk_at"dl";exact⟨by decide,aM<|ar.now h⟩
 |ty b=>exact r9 f<|by simp only[A1];decide
 |ref n=>have e:=bv f;simp only[A1]at e;walk_at"dl";rw[e];exact⟨by decide,aM<|ar.now h⟩
theorem nb(T:Tops P w K mg base):x5 P w K mg base 1 "_law_is_saying" dH bG:=x5.byD (N:=["_law_thing_here"]) T.b T.f_l_is_saying (by walk_at"sc") mE (by walk_at"dv") mY
def bO:A4:=λds M R=>∃(n:Nat) (p:D) (a:List (c9×List c9)) (r:List D) (d:D),ds=[.tup<|p::.tup (a.map aV)::r,d]/\w6 M n d/\R (.bl (nh (a.map (·.1)) d)) M
theorem pj:bZ bO gj:=by rintro ds M R ⟨n,p,a,r,d,rfl,_⟩;rfl
theorem EU(g:w6 M n d)(k:ok' M)(f:xs.map bw=ss.map D.str)(o:∀x∈xs,∃a b,x=.tup [a,b])(l:xs.length<=sizeLine)(h:R (.bl<|nh ss d) M):mP ok' (jW 2<|bE (av 0)<|bE (av 1) jX) je (ac 0) (λy M2=>N4 d y M2<|ar M R) xs [] [a8,a8] M:=by refine bb bw (λS=>∃a b,S=[a,b]) k _ _ _ (λy Q S c=>?_) ⟨_,_,rfl⟩ (by simpa using l) ?_;obtain⟨a,b,rfl⟩:=c;obtain⟨u,v,rfl⟩:=o y Q;refine⟨[a7 u,a7 v],⟨_,_,rfl⟩,λY e=>?_⟩;walk_at"dl";exact⟨trivial,e⟩;rw[G5,f];exact uR g (Qe M) h
def kN:u7:=aK<|bt (u5 fg<|aa (ac 1)<|aa (dC<|.ty "str") ad)<|u4 N4 (ac 1)<|F7 2 [] (bF<|u4 w9 (ac 0)<|dC<|.int 1) (jW 2<|bE (av 0)<|bE (av 1) jX) je<|ac 0
theorem qc:C6 bO 2 kN:=by
 rintro ds M R ⟨n,p,s,r,d,rfl,g,h⟩;simp only[kN];rcases vZ M g with⟨z,rfl⟩|⟨t,l⟩
 walk_at"dl";refine⟨by decide,?_⟩;rw[show fK "str" "str" = a9 from rfl];walk_at"ifs";intro b;exact EU g trivial (mK s) (λx a=>by obtain⟨q,_,rfl⟩:=A8.mp a;exact⟨_,_,rfl⟩) b h;rw[Az l]at h;walk_at"dl";refine⟨⟨g.thing.1,by decide⟩,?_⟩;simp only[A1]at t;rw[t];walk_at"ifs";exact ar.now h
theorem jE(T:Tops P w K mg base):x5 P w K mg base 1 "_law_is_room" gj bO:=x5.byD (N:=["_law_house_here","_law_thing_here"]) T.b T.f_l_is_room (by walk_at"sc") pj (by walk_at"dv") qc
def cU:A4:=λds M R=>∃(n:Nat) (ps:List (c9×Int)) (a:List (c9×List c9)) (r:List D) (d:D),ds=[.tup<|.tup (ps.map aw)::.tup (a.map aV)::r,d]/\(ps.map (·.1)).Nodup/\w6 M n d/\R (.bl<|ky ps a d) M
theorem pi:bZ cU gh:=by rintro ds M R ⟨n,ps,a,r,d,rfl,_⟩;rfl
def dB:u7:=aK<|bt (u4 A6 (u4 w9 (ac 1)<|dC<|.int 0)<|dC<|.str "under")<|u5 aR<|aa (ac 0)<|aa (u4 w9 (ac 1)<|dC<|.int 1) ad
def gR:u7:=aB (z9 (al<|u4 A6 (u4 w9 (ac 1)<|dC<|.int 0)<|dC<|.str "person") (aK<|bt (u5 fg<|aa (u4 w9 (ac 1)<|dC<|.int 1)<|aa (dC<|.ty "str") ad)<|u4 N4 (u4 w9 (ac 1)<|dC<|.int 1)<|F7 2 [] (bF<|u4 w9 (ac 0)<|dC<|.int 0) (jW 2<|bE (av 0)<|bE (av 1) jX) je<|ac 0) ay)<|dB
def gU:u7:=aB (z9 (al<|u4 A6 (u4 w9 (ac 1)<|dC<|.int 0)<|dC<|.str "room") (aK<|u5 bO<|aa (ac 0)<|aa (u4 w9 (ac 1)<|dC<|.int 1) ad) ay)<|gR
def kM:u7:=aB (z9 (G4 (dz<|al<|u5 fg<|aa (ac 1)<|aa (dC<|.ty "tuple") ad)<|al<|u4 MZ (u5 eJ<|aa (ac 1) ad)<|dC<|.int 2) (aK<|dC<|.bl b7) ay)<|gU
theorem pZ:C6 cU 2 kM:=by
 rintro ds M R ⟨n,ps,s,r,d,rfl,X,g,h⟩;simp only[kM];rcases eL M g with⟨xs,rfl⟩|⟨t,l⟩
 obtain⟨u,m,rfl,k⟩:=g.tup;walk_at"dl";refine⟨by decide,?_⟩;rw[show fK "tuple" "tuple" = a9 from rfl];walk_at"ifs";refine⟨⟨af,af⟩,?_⟩;rw[aY];rcases jh (.tup xs)with⟨a,b,e⟩|⟨t,l⟩
 injection e with e;subst e;rw[show ((([a,b]:List D).length:Int)==2)=a9 from rfl];walk_at"ifs";have i:=k a (by simp);have f:=k b (by simp);simp only[gU];walk_at"dl";refine⟨⟨i.ok,aF⟩,?_⟩;rw[fy];simp only[ky]at h;cases t:K1 (AA1 "room") a with
 |true=>rw[t,p9 rfl]at h;exact aM ⟨m,_,s,r,b,rfl,f,ar.now h⟩
 |false =>
  rw[t,q9 K0]at h;refine bc ?_;simp only[gR];rcases vZ M f with⟨z,rfl⟩|⟨j,N⟩
  walk_at"dl";refine⟨⟨i.ok,aF⟩,?_⟩;rw[fy];cases l:K1 (AA1 "person") a with
  |true=>rw[l,p9 rfl]at h;refine aM ⟨by decide,?_⟩;rw[show fK "str" "str" = a9 from rfl];walk_at"ifs";intro p;exact EU f trivial (mL ps) (λx o=>by obtain⟨q,_,rfl⟩:=A8.mp o;exact⟨_,_,rfl⟩) p h
  |false =>
   rw[l,q9 K0]at h;refine bc ?_;simp only[dB];walk_at"dl";refine⟨⟨i.ok,aF⟩,?_⟩;rw[fy];cases c:K1 (AA1 "under") a with
   |true=>rw[c,E5]at h;walk_at"ifs";exact⟨m,ps,_,_,rfl,X,f,ar.now h⟩
   |false=>rw[c,J7]at h;walk_at"ifs";exact ar.now h
  rw[Az N]at h;walk_at"dl";refine⟨⟨i.ok,aF⟩,?_⟩;rw[fy];cases l:K1 (AA1 "person") a with
  |true=>rw[l,p9 rfl]at h;refine aM ⟨⟨f.thing.1,by decide⟩,?_⟩;simp only[A1]at j;rw[j];walk_at"ifs";exact ar.now h
  |false =>
   rw[l,q9 K0]at h;refine bc ?_;simp only[dB];walk_at"dl";refine⟨⟨i.ok,aF⟩,?_⟩;rw[fy];cases c:K1 (AA1 "under") a with
   |true=>rw[c,E5]at h;walk_at"ifs";exact⟨m,ps,_,_,rfl,X,f,ar.now h⟩
   |false=>rw[c,J7]at h;walk_at"ifs";exact ar.now h
 have c:((xs.length:Int)==2)=b7:=t;rw[c];walk_at"ifs";rw[oE l]at h;exact ar.now h;rw[oE λa b=>l _]at h;walk_at"dl";refine⟨⟨g.thing.1,by decide⟩,?_⟩;simp only[A1]at t;rw[t];walk_at"ifs";exact ar.now h
theorem rV(T:Tops P w K mg base):x5 P w K mg base 4 "_law_is_what" gh cU:=x5.byD (N:=["_law_house_here","_law_thing_here"]) T.b T.f_l_is_what (by walk_at"sc") pi (by have:=dJ T;have:=jE T;walk_at"dv") pZ
def eA:A4:=λds M R=>∃(n:Nat) (ps:List (c9×Int)) (a:List (c9×List c9)) (r:List D) (d:D),ds=[.tup<|.tup (ps.map aw)::.tup (a.map aV)::r,d]/\(ps.map (·.1)).Nodup/\w6 M n d/\R (.bl<|pT M ps a d) M
theorem sw:bZ eA iU:=by rintro ds M R ⟨n,ps,a,r,d,rfl,_⟩;rfl
theorem bz:v7 M v6 (.tup [.str z,.int i]) (.tup [.str k,.int j])=((z==k)&&(i==j)):=by show (v7 M 29 (.str z) (.str k)&&(v7 M 29 (.int i) (.int j)&&a9))=_;rw[bJ,aY,M9]
theorem list1(h:xs.length=1):∃a,xs=[a]:=match xs,h with
 | [a],_=>⟨a,rfl⟩
theorem GD(h:xs.length=2):∃a b,xs=[a,b]:=match xs,h with
 | [a,b],_=>⟨a,b,rfl⟩
theorem Kw(h:xs.length=3):∃a b c,xs=[a,b,c]:=match xs,h with
 | [a,b,c],_=>⟨a,b,c,rfl⟩
section
variable{M:u8}{ps:List (c9×Int)}{rs:List (c9×List c9)}{d a b c:D}
theorem rS:aP M ps rs (AA1 "room") d=nh (rs.map (·.1)) d:=by unfold aP;rw[p9<|by decide +kernel]
theorem xv:aP M ps rs (AA1 "under") d=(uQ d||bm ps d):=by unfold aP;rw[q9 (by decide +kernel),p9<|by decide +kernel]
theorem fh:aP M ps rs (AA1 "message") d=bm ps d:=by unfold aP;rw[q9 (by decide +kernel),q9 (by decide +kernel),p9<|by decide +kernel]
theorem lW:aP M ps rs (AA1 "saying") d=cP d:=by unfold aP;rw[q9 (by decide +kernel),q9 (by decide +kernel),q9 (by decide +kernel),p9<|by decide +kernel]
theorem Ab:aP M ps rs (AA1 "sort") d=iB d:=by unfold aP;rw[q9 (by decide +kernel),q9 (by decide +kernel),q9 (by decide +kernel),q9 (by decide +kernel),p9<|by decide +kernel]
theorem ub:aP M ps rs (AA1 "vector") d=ca M ps d:=by unfold aP;rw[q9 (by decide +kernel),q9 (by decide +kernel),q9 (by decide +kernel),q9 (by decide +kernel),q9 (by decide +kernel),p9<|by decide +kernel]
theorem Aa:aP M ps rs (AA1 "what") d=ky ps rs d:=by unfold aP;rw[q9 (by decide +kernel),q9 (by decide +kernel),q9 (by decide +kernel),q9 (by decide +kernel),q9 (by decide +kernel),q9 (by decide +kernel),p9<|by decide +kernel]
theorem Ac:aP M ps rs (AA1 "on") d=isBl d:=by unfold aP;rw[q9 (by decide +kernel),q9 (by decide +kernel),q9 (by decide +kernel),q9 (by decide +kernel),q9 (by decide +kernel),q9 (by decide +kernel),q9 (by decide +kernel),show (AA1 "on" == AA1 "on")=a9 from by decide +kernel,E5]
theorem act_1(h:aG.find? (λp=>p.1==z)=a7 (z,[k])):pT M ps rs (.tup [.str z,a])=aP M ps rs k a:=by rw[fP h];show (a9&&(aP M ps rs k a&&a9))=_;rw[E5,M9]
theorem ID(h:aG.find? (λp=>p.1==z)=a7 (z,[k,l])):pT M ps rs (.tup [.str z,a,b])=(aP M ps rs k a&&aP M ps rs l b):=by rw[fP h];show (a9&&(aP M ps rs k a&&(aP M ps rs l b&&a9)))=_;rw[E5,M9]
theorem Mx(h:aG.find? (λp=>p.1==z)=a7 (z,[k,l,m])):pT M ps rs (.tup [.str z,a,b,c])=(aP M ps rs k a&&(aP M ps rs l b&&aP M ps rs m c)):=by rw[fP h];show (a9&&(aP M ps rs k a&&(aP M ps rs l b&&(aP M ps rs m c&&a9))))=_;rw[E5,M9]
theorem Mw(h:∀p∈aG,¬(p.1=z/\(xs.length:Int)=p.2.length)):pT M ps rs (.tup<|.str z::xs)=b7:=by
 cases f:aG.find? (λp=>p.1==z) with
 |none=>exact wJ f
 |some p =>
  rw[fP f];have h1:=h p<|Rp f;have h2:p.1=z:=by have:=P9 f;exact eq_of_beq this
  rw[beq_eq_false_iff_ne.mpr λe=>h1 ⟨h2,by rw[e]⟩,J7]
end
def eS:u7:=aK<|bt (u4 N4 (ac 3)<|fM<|aa (cR<|aa (dC<|.str "back")<|aa (dC<|.int 1) ad)<|aa (cR<|aa (dC<|.str "seen")<|aa (dC<|.int 1) ad)<|aa (cR<|aa (dC<|.str "rung")<|aa (dC<|.int 1) ad) ad)<|u5 aR<|aa (ac 0)<|aa (u4 w9 (ac 2)<|dC<|.int 0) ad
def jt:u7:=aB (z9 (al<|u4 A6 (ac 3)<|cR<|aa (dC<|.str "hush")<|aa (dC<|.int 2) ad) (aK<|bt (u5 cU<|aa (ac 0)<|aa (u4 w9 (ac 2)<|dC<|.int 0) ad)<|u5 fg<|aa (u4 w9 (ac 2)<|dC<|.int 1)<|aa (dC<|.ty "bool") ad) ay)<|eS
def ju:u7:=aB (z9 (al<|u4 A6 (ac 3)<|cR<|aa (dC<|.str "read")<|aa (dC<|.int 2) ad) (aK<|bt (u5 bO<|aa (ac 0)<|aa (u4 w9 (ac 2)<|dC<|.int 0) ad)<|u5 cf<|aa (ac 0)<|aa (u4 w9 (ac 2)<|dC<|.int 1) ad) ay)<|jt
def jv:u7:=aB (z9 (al<|u4 A6 (ac 3)<|cR<|aa (dC<|.str "like")<|aa (dC<|.int 3) ad) (aK<|bt (u5 aR<|aa (ac 0)<|aa (u4 w9 (ac 2)<|dC<|.int 0) ad)<|bt (u5 cW<|aa (u4 w9 (ac 2)<|dC<|.int 1) ad)<|u5 fg<|aa (u4 w9 (ac 2)<|dC<|.int 2)<|aa (dC<|.ty "bool") ad) ay)<|ju
def eT:u7:=aB (z9 (al<|u4 A6 (ac 3)<|cR<|aa (dC<|.str "change")<|aa (dC<|.int 2) ad) (aK<|bt (u5 aR<|aa (ac 0)<|aa (u4 w9 (ac 2)<|dC<|.int 0) ad)<|u5 bG<|aa (u4 w9 (ac 2)<|dC<|.int 1) ad) ay)<|jv
def eU:u7:=aK<|bt (u5 bO<|aa (ac 0)<|aa (u4 w9 (ac 2)<|dC<|.int 0) ad)<|bt (ac 4)<|u5 bG<|aa (u4 w9 (ac 2)<|dC<|.int 2) ad
def jw:u7:=aB (z9 (al<|u4 A6 (ac 3)<|cR<|aa (dC<|.str "say")<|aa (dC<|.int 3) ad) (aB (bL (Mh (u4 O9 (u4 w9 (ac 2)<|dC<|.int 1)<|dC .non)<|u5 aR<|aa (ac 0)<|aa (u4 w9 (ac 2)<|dC<|.int 1) ad) 4)<|eU) ay)<|eT
def jx:u7:=aB (bL (cR<|aa (u4 w9 (ac 1)<|dC<|.int 0)<|aa (u5 eJ<|aa (ac 2) ad) ad) 3)<|jw
def jy:u7:=aB (bL (E7 (ac 1) (bu<|dC<|.int 1) aL) 2)<|jx
def nG:u7:=aB (z9 (G4 (dz<|al<|u5 fg<|aa (ac 1)<|aa (dC<|.ty "tuple") ad)<|G4 (al<|u4 A6 (ac 1)<|cR ad)<|dz<|al<|u5 fg<|aa (u4 w9 (ac 1)<|dC<|.int 0)<|aa (dC<|.ty "str") ad) (aK<|dC<|.bl b7) ay)<|jy
section
variable{M:u8}{R:DK}{ps:List (c9×Int)}{rs:List (c9×List c9)}{r:List D}{m:Nat}{z:c9}{L:Int}{xs:List D}{y4:Option D}
theorem Kx(X:(ps.map (·.1)).Nodup)(g:∀x∈xs,w6 M m x)(i:(xs.length:Int)=L)(o:∀p∈aG,p.1=z->L=p.2.length->(z==AA1 "back" || z==AA1 "seen" || z==AA1 "rung")=a9/\L=1)(h:R (.bl<|pT M ps rs<|.tup<|.str z::xs) M):eS (EE M R) [a7<|.tup<|.tup (ps.map aw)::.tup (rs.map aV)::r,a7<|.tup<|.str z::xs,a7<|.tup xs,a7<|.tup [.str z,.int L],y4] M:=by
 simp only[eS];have n:∀B:u8,NE B (.tup [.str z,.int L]) [.tup [.str<|AA1 "back",.int 1],.tup [.str<|AA1 "seen",.int 1],.tup [.str<|AA1 "rung",.int 1]]=((z==AA1 "back" || z==AA1 "seen" || z==AA1 "rung")&&(L==1)):=λB=>by unfold NE;rw[Nh,Nh,Nh,List.any_nil,bz,bz,bz,Bool.or_false,Bool.beq_comm (a:=AA1 "back"),Bool.beq_comm (a:=AA1 "seen"),Bool.beq_comm (a:=AA1 "rung"),Bool.beq_comm (a:=(1:Int))];cases (z==AA1 "back")<;>cases (z==AA1 "seen")<;>cases (z==AA1 "rung")<;>cases (L==1)<;>rfl
 cases b:((z==AA1 "back" || z==AA1 "seen" || z==AA1 "rung")&&(L==1)) with
 |true =>
  rw[B8,t4]at b;obtain⟨x,rfl⟩:=list1 (xs:=xs) (by lia);walk_at"dl";refine⟨aq (by lia),aq (by lia),aq (by lia),aq (by lia),?_⟩;refine⟨_,ae,⟨rfl,rfl⟩,?_⟩;rw[n,b.1,b.2];walk_at"ifs";have f:∃k,k=AA1 "message"/\aG.find? (λp=>p.1==z)=a7 (z,[k]):=by have h1:=b.1;rw[Qc,Qc,t4,t4,t4]at h1;rcases h1 with(rfl|rfl)|rfl<;>exact⟨_,rfl,by decide +kernel⟩
  obtain⟨k,rfl,f⟩:=f;rw[act_1 f,fh]at h;exact⟨m,ps,_,x,rfl,X,(g x<|by simp).grow dg,ar.bl h dg⟩
 |false =>
  have e:pT M ps rs (.tup<|.str z::xs)=b7:=Mw λp c ⟨h1,h2⟩=>by obtain⟨l,d⟩:=o p c h1 (by lia);rw[l,d]at b;cases b
  rw[e]at h;walk_at"dl";refine⟨aq (by lia),aq (by lia),aq (by lia),aq (by lia),?_⟩;refine⟨_,ae,⟨rfl,rfl⟩,?_⟩;rw[n,b];walk_at"ifs";exact ar.bl h dg
end
section
variable{M:u8}{R:DK}{ps:List (c9×Int)}{rs:List (c9×List c9)}{r:List D}{m:Nat}{z:c9}{L:Int}{xs:List D}{y4:Option D}
theorem ww(g:w6 M m x0)(i:w6 M m x2)(h:R (.bl<|pT M ps rs<|.tup [.str<|AA1 "say",x0,x1,x2]) M)(a:E.rt=ar M R)(b:Bool)(c:(uQ x1||bm ps x1)=b):eU E [a7<|.tup<|.tup (ps.map aw)::.tup (rs.map aV)::r,a7<|.tup [.str<|AA1 "say",x0,x1,x2],a7<|.tup [x0,x1,x2],a7<|.tup [.str<|AA1 "say",.int L],a7<|.bl b] M:=by
 rw[Mx (k:=AA1 "room") (l:=AA1 "under") (m:=AA1 "saying") (by decide +kernel),rS,xv,lW,c]at h;simp only[eU];walk_at"dl";rw[a];refine⟨m,_,rs,r,x0,rfl,g,?_⟩;cases d:nh (rs.map (·.1)) x0 with
 |false=>rw[d,J7]at h;walk_at"ifs";exact ar.now h
 |true =>
  rw[d,E5]at h;walk_at"ifs";cases b with
  |false=>rw[J7]at h;exact bc<|ar.now h
  |true=>rw[E5]at h;exact aM ⟨x2,rfl,i.thing,ar.now h⟩
theorem Ky(X:(ps.map (·.1)).Nodup)(g:∀x∈xs,w6 M m x)(f:(xs.length:Int)=L)(n:¬(z=AA1 "say"/\L=3))(h:R (.bl<|pT M ps rs<|.tup<|.str z::xs) M):eT (EE M R) [a7<|.tup<|.tup (ps.map aw)::.tup (rs.map aV)::r,a7<|.tup<|.str z::xs,a7<|.tup xs,a7<|.tup [.str z,.int L],y4] M:=by
 have D:∀(k:c9) (i:Int),¬(z=k/\L=i)->((z==k)&&(L==i))=b7:=λk i h=>by
  cases e:((z==k)&&(L==i)) with
  |false=>rfl
  |true=>rw[B8,t4,t4]at e;exact r9 e h
 have t:∀(k:c9) (i:Int),(z=k/\L=i)->((z==k)&&(L==i))=a9:=λk i h=>by rw[B8,t4,t4];exact h
 simp only[eT];by_cases j:z=AA1 "change"/\L=2;obtain⟨o,W,rfl⟩:=GD (xs:=xs) (by lia);walk_at"dl";refine⟨aq (by lia),⟨rfl,rfl⟩,?_⟩;rw[bz,t _ _ j];obtain⟨rfl,rfl⟩:=j;rw[ID (k:=AA1 "message") (l:=AA1 "saying") (by decide +kernel),fh,lW]at h;refine aM ⟨m,ps,_,o,rfl,X,g o (by simp),?_⟩;cases d:bm ps o with
 |false=>rw[d,J7]at h;walk_at"ifs";exact ar.now h
 |true=>rw[d,E5]at h;walk_at"ifs";exact⟨W,rfl,(g W<|by simp).thing,ar.now h⟩
 walk_at"dl";refine⟨aq (by lia),⟨rfl,rfl⟩,?_⟩;rw[bz,D _ _ j];refine bc ?_;simp only[jv];by_cases G:z=AA1 "like"/\L=3;obtain⟨o,W,c,rfl⟩:=Kw (xs:=xs) (by lia);walk_at"dl";refine⟨aq (by lia),⟨rfl,rfl⟩,?_⟩;rw[bz,t _ _ G];obtain⟨rfl,rfl⟩:=G;rw[Mx (k:=AA1 "message") (l:=AA1 "sort") (m:=AA1 "on") (by decide +kernel),fh,Ab,Ac]at h;refine aM ⟨m,ps,_,o,rfl,X,g o (by simp),?_⟩;cases d:bm ps o with
 |false=>rw[d,J7]at h;walk_at"ifs";exact ar.now h
 |true =>
  rw[d,E5]at h;walk_at"ifs";refine⟨W,rfl,(g W<|by simp).thing,?_⟩;cases a:iB W with
  |false=>rw[a,J7]at h;walk_at"ifs";exact ar.now h
  |true=>rw[a,E5]at h;walk_at"ifs";refine⟨⟨(g c<|by simp).thing.1,by decide⟩,?_⟩;have e:=Bh (g c<|by simp);simp only[A1]at e;rw[e];exact ar.now h
 walk_at"dl";refine⟨aq (by lia),⟨rfl,rfl⟩,?_⟩;rw[bz,D _ _ G];refine bc ?_;simp only[ju];by_cases H:z=AA1 "read"/\L=2;obtain⟨o,W,rfl⟩:=GD (xs:=xs) (by lia);walk_at"dl";refine⟨aq (by lia),⟨rfl,rfl⟩,?_⟩;rw[bz,t _ _ H];obtain⟨rfl,rfl⟩:=H;rw[ID (k:=AA1 "room") (l:=AA1 "vector") (by decide +kernel),rS,ub]at h;refine aM ⟨m,_,rs,r,o,rfl,g o (by simp),?_⟩;cases d:nh (rs.map (·.1)) o with
 |false=>rw[d,J7]at h;walk_at"ifs";exact ar.now h
 |true=>rw[d,E5]at h;walk_at"ifs";exact⟨m,ps,_,W,rfl,X,g W (by simp),(g W<|by simp).few,ar.now h⟩
 walk_at"dl";refine⟨aq (by lia),⟨rfl,rfl⟩,?_⟩;rw[bz,D _ _ H];refine bc ?_;simp only[jt];by_cases P:z=AA1 "hush"/\L=2;obtain⟨o,W,rfl⟩:=GD (xs:=xs) (by lia);walk_at"dl";refine⟨aq (by lia),⟨rfl,rfl⟩,?_⟩;rw[bz,t _ _ P];obtain⟨rfl,rfl⟩:=P;rw[ID (k:=AA1 "what") (l:=AA1 "on") (by decide +kernel),Aa,Ac]at h;refine aM ⟨m,ps,rs,r,o,rfl,X,g o (by simp),?_⟩;cases d:ky ps rs o with
 |false=>rw[d,J7]at h;walk_at"ifs";exact ar.now h
 |true=>rw[d,E5]at h;walk_at"ifs";refine⟨⟨(g W<|by simp).thing.1,by decide⟩,?_⟩;have e:=Bh (g W<|by simp);simp only[A1]at e;rw[e];exact ar.now h
 walk_at"dl";refine⟨aq (by lia),⟨rfl,rfl⟩,?_⟩;rw[bz,D _ _ P];refine bc ?_;refine Kx X g f (λp b h1 h2=>?_) h;simp only[aG,A5,MV,or_false]at b;rcases b with rfl|rfl|rfl|rfl|rfl|rfl|rfl|rfl;exact r9 ⟨h1.symm,by simpa using h2⟩ n;exact r9 ⟨h1.symm,by simpa using h2⟩ j;exact⟨by rw[<-h1];decide +kernel,by simpa using h2⟩;exact r9 ⟨h1.symm,by simpa using h2⟩ G;exact r9 ⟨h1.symm,by simpa using h2⟩ H;exact⟨by rw[<-h1];decide +kernel,by simpa using h2⟩;exact r9 ⟨h1.symm,by simpa using h2⟩ P;exact⟨by rw[<-h1];decide +kernel,by simpa using h2⟩
theorem tE:C6 eA 5 nG:=by
 rintro ds M R ⟨n,ps,v,r,d,rfl,X,g,h⟩;simp only[nG];rcases eL M g with⟨xs,rfl⟩|⟨t,o⟩
 obtain⟨u,m,rfl,b⟩:=g.tup;cases xs with
 |nil=>walk_at"dl";refine⟨by decide,?_⟩;rw[show fK "tuple" "tuple" = a9 from rfl];walk_at"ifs";refine⟨D4 _,⟨rfl,rfl⟩,?_⟩;rw[show v7 M v6 (.tup []) (.tup [])=a9 from rfl];walk_at"ifs";exact ar.now h
 |cons a xs =>
  have k:=b a (by simp);rcases vZ M k with⟨z,rfl⟩|⟨f,N⟩
  walk_at"dl";refine⟨by decide,?_⟩;rw[show fK "tuple" "tuple" = a9 from rfl];walk_at"ifs";refine⟨D4 _,⟨g.ok,rfl⟩,?_⟩;rw[show v7 M v6 (.tup<|.str z::xs) (.tup [])=b7 from rfl];walk_at"ifs";refine⟨by decide,?_⟩;rw[show fK "str" "str" = a9 from rfl];walk_at"ifs";simp only[jy];walk_at"dl";rw[wC];simp only[jx];walk_at"dl";refine⟨aq (by lia),?_⟩;obtain⟨L,l⟩:∃L:Int,(xs.length:Int)=L:=⟨_,rfl⟩
  rw[l];simp only[jw];by_cases j:z=AA1 "say"/\L=3;obtain⟨q,W,s,rfl⟩:=Kw (xs:=xs) (by lia);walk_at"dl";refine⟨aq (by lia),⟨rfl,rfl⟩,?_⟩;rw[bz,show ((z==AA1 "say")&&(L==3))=a9 from by rw[B8,t4,t4];exact j];obtain⟨rfl,rfl⟩:=j;refine aM ?_;have c:=b q (by simp);have g1:=b W (by simp);have i:=b s (by simp);cases W<;>first
   |exact ww c i h rfl a9 rfl
   |exact⟨m,ps,_,_,rfl,X,g1,ww c i h rfl _ rfl⟩
   |exact aM (ww c i h rfl a9 rfl)
   |exact bc ⟨m,ps,_,_,rfl,X,g1,ww c i h rfl _ rfl⟩
  walk_at"dl";refine⟨aq (by lia),⟨rfl,rfl⟩,?_⟩;rw[bz,show ((z==AA1 "say")&&(L==3))=b7 from by
   cases e:((z==AA1 "say")&&(L==3)) with
   |false=>rfl
   |true=>rw[B8,t4,t4]at e;exact r9 e j]
  exact bc<|Ky X (λx p=>b x<|C0 _ p) l j h;rw[wK N]at h;walk_at"dl";refine⟨by decide,?_⟩;rw[show fK "tuple" "tuple" = a9 from rfl];walk_at"ifs";refine⟨D4 _,⟨g.ok,rfl⟩,?_⟩;rw[show v7 M v6 (.tup<|a::xs) (.tup [])=b7 from rfl];walk_at"ifs";refine⟨⟨k.thing.1,by decide⟩,?_⟩;simp only[A1]at f;rw[f];walk_at"ifs";exact ar.now h
 rw[wL o]at h;walk_at"dl";refine⟨⟨g.thing.1,by decide⟩,?_⟩;simp only[A1]at t;rw[t];walk_at"ifs";exact ar.now h
end
theorem uo(T:Tops P w K mg base):x5 P w K mg base 5 "_law_is_act" iU eA:=x5.byD (N:=["_law_house_here","_law_thing_here","_law_parts","_law_kind","_law_under"]) T.b T.f_l_is_act (by walk_at"sc") sw (by have:=dJ T;have:=na T;have:=rW T;have:=nb T;have:=jE T;have:=rV T;walk_at"dv") tE
def ck:A4:=λds M R=>∃(n:Nat) (ps:List (c9×Int)) (a:List (c9×List c9)) (r:List D) (d:D),ds=[.tup<|.tup (ps.map aw)::.tup (a.map aV)::r,d]/\(ps.map (·.1)).Nodup/\w6 M n d/\R (.bl<|bV M ps a d) M
theorem pz:bZ ck gq:=by rintro ds M R ⟨n,ps,a,r,d,rfl,_⟩;rfl
def hZ:u7:=aK<|bt (u5 br<|aa (u4 w9 (ac 1)<|dC<|.int 2)<|aa (dC<|.int 0) ad)<|u5 eA<|aa (ac 0)<|aa (u4 w9 (ac 1)<|dC<|.int 3) ad
def kQ:u7:=aB (z9 (G4 (dz<|al<|u5 fg<|aa (ac 1)<|aa (dC<|.ty "tuple") ad)<|G4 (al<|u4 MZ (u5 eJ<|aa (ac 1) ad)<|dC<|.int 4)<|dz<|al<|u5 aR<|aa (ac 0)<|aa (E7 (ac 1) aL<|bu<|dC<|.int 2) ad) (aK<|dC<|.bl b7) ay)<|hZ
theorem qg:C6 ck 2 kQ:=by
 rintro ds M R ⟨n,ps,s,r,d,rfl,X,g,h⟩;simp only[kQ];rcases eL M g with⟨xs,rfl⟩|⟨t,l⟩
 obtain⟨q,m,rfl,x⟩:=g.tup;walk_at"dl";refine⟨by decide,?_⟩;rw[show fK "tuple" "tuple" = a9 from rfl];walk_at"ifs";refine⟨⟨af,af⟩,?_⟩;rw[aY];rcases uW (.tup xs)with⟨a,b,c,e,z⟩|⟨t,l⟩
 injection z with z;subst z;rw[show ((([a,b,c,e]:List D).length:Int)==4)=a9 from rfl];walk_at"ifs";have j:=x a (by simp);have k:=x b (by simp);have o:=x c (by simp);have p:=x e (by simp);refine⟨m+1,ps,_,_,rfl,X,Ff g j k,?_⟩;simp only[bV]at h;simp only[show cutD [a,b,c,e] a8 (a7 2)=[a,b]from rfl];cases es:bm ps (.tup [a,b]) with
 |false=>rw[es]at h;walk_at"ifs";exact ar.now h
 |true =>
  rw[es]at h;walk_at"ifs";simp only[hZ];walk_at"dl";refine⟨0,c,rfl,o.thing.1,?_⟩;cases f:aH 0 c with
  |false=>rw[f]at h;walk_at"ifs";exact ar.now h
  |true=>rw[f]at h;walk_at"ifs";exact⟨m,ps,s,r,e,rfl,X,p,ar.now h⟩
 have i:((xs.length:Int)==4)=b7:=t;rw[i];walk_at"ifs";rw[ki l]at h;exact ar.now h;rw[ki λa b c e=>l _]at h;walk_at"dl";refine⟨⟨g.thing.1,by decide⟩,?_⟩;simp only[A1]at t;rw[t];walk_at"ifs";exact ar.now h
theorem jG(T:Tops P w K mg base):x5 P w K mg base 6 "_law_is_deed" gq ck:=x5.byD (N:=["_law_house_here","_law_thing_here"]) T.b T.f_l_is_deed (by walk_at"sc") pz (by have:=cz T;have:=dJ T;have:=uo T;walk_at"dv") qg
def dZ:A4:=λds M R=>∃a b:Bool,ds=[.bl a,.bl b]/\R (.bl<|a==b) M
theorem AI:bZ dZ ue:=by rintro ds M R ⟨a,b,rfl,_⟩;rfl
def yK:u7:=aK<|bt (u5 fg<|aa (ac 0)<|aa (dC<|.ty "bool") ad)<|u4 A6 (ac 0)<|ac 1
theorem Cl:C6 dZ 2 yK:=by rintro ds M R ⟨a,b,rfl,h⟩;unfold yK;walk_at"dl";refine⟨by decide,aM ⟨⟨wn,wn⟩,?_⟩⟩;rw[LG];exact ar.now h
theorem Da(T:Tops P w K mg base):x5 P w K mg base 1 "_law_truth" ue dZ:=x5.byD (N:=["_law_found","_law_due"]) T.b T.f_truth (by walk_at"sc") AI (by walk_at"dv") Cl
def yj(xs:List D):Prop:=∀h,(xs.filter λd=>decide<|bg d=h).map wo=(C3<|many xs h).map N9
theorem Au(h:yj xs)(e:wo x=(many xs (bg x):Int)):yj (xs++[x]):=λk=>by rw[Qk,MI,h k,kb,OU];by_cases c:bg x=k;rw[dT_ c,p9 rfl,p9 c,QZ,MI,<-c];show _++[wo x]=_;rw[e];rfl;rw[dF_ c,q9 c];exact NZ _
theorem jJ:∀{xs done:List D},yj done->fX done xs=a9->yj (done++xs)
 | [],done,h,_=>by rw[NZ];exact h
 |x::xs,done,h,q=>by
  have q:(decide (wo x=(many done (bg x):Int))&&fX (done++[x]) xs)=a9:=q;rw[B8,s9]at q;have:=jJ (Au h q.1) q.2
  rwa [Nk]at this
theorem fu:∀{xs done:List D},yj (done++xs)->fX done xs=a9
 | [],_,_=>rfl
 |x::xs,done,h=>by show (decide (wo x=(many done (bg x):Int))&&fX (done++[x]) xs)=a9;rw[dT_<|Dh h rfl,E5];exact fu<|by rw[Nk];exact h
theorem Bj:∀{xs ys:List Int},D8 (v7 M n) (xs.map D.int) (ys.map D.int)=decide (xs=ys)
 | [],[]=>by simp[D8]
 | [],_::_=>by simp[D8]
 |_::_,[]=>by simp[D8]
 |x::xs,y::ys=>by show (v7 M n (.int x) (.int y)&&D8 (v7 M n) (xs.map D.int) (ys.map D.int))=_;rw[aY,Bj];by_cases c:x=y;subst c;rw[t8,E5,decide_eq_decide];simp;rw[beq_eq_false_iff_ne.mpr c,J7,dF_ λz=>c<|by injection z]
theorem CH:lN 0 n=((C3 n).map N9).map D.int:=by unfold lN;rw[F9];exact Qr λi _=>by show D.int (0+_)=D.int _;rw[Int.zero_add];rfl
theorem Jk(f:Ix a)(d:Ix b):v7 M (n+2) a b=decide (a=b):=by obtain⟨z,i,j,rfl⟩:=cD f;obtain⟨G,i',x,rfl⟩:=cD d;show (v7 M (n+1) (.int j) (.int x)&&((v7 M n (.str z) (.str G)&&(v7 M n (.int i) (.int i')&&a9))&&a9))=_;rw[aY,bJ,aY,M9,M9];refine Ni.mpr ?_;rw[B8,B8,t4,t4,t4,s9];constructor;rintro⟨rfl,rfl,rfl⟩;rfl;intro e;cases e;exact⟨rfl,rfl,rfl⟩
theorem zn:∀{xs ys:List D},(∀x∈xs,Ix x)->(∀y∈ys,Ix y)->D8 (v7 M<|n+2) xs ys=decide (xs=ys)
 | [],[],_,_=>by simp[D8]
 | [],_::_,_,_=>by simp[D8]
 |_::_,[],_,_=>by simp[D8]
 |x::xs,y::ys,hx,hy=>by show (v7 M (n+2) x y&&D8 (v7 M<|n+2) xs ys)=_;rw[Jk (hx x<|by simp) (hy y<|by simp),zn (λz hz=>hx z<|C0 _ hz)<|λz hz=>hy z<|C0 _ hz];by_cases c:x=y;subst c;rw[dT_ rfl,E5,decide_eq_decide];simp;rw[dF_ c,J7,dF_ λz=>c<|by injection z]
theorem wb(f:Ix a)(d:Ix b)(h:Ix c)(h1:z7 M v6 a b=a9)(h2:z7 M v6 b c=a9):z7 M v6 a c=a9:=by rw[mC (cC f) (cC d)<|jz f d]at h1;rw[mC (cC d) (cC h)<|jz d h]at h2;rw[mC (cC f) (cC h)<|jz f h];exact dT_<|List.lt_trans (oT_ h1)<|oT_ h2
theorem Jj:∀{xs:List D},(∀x∈xs,Ix x)->aN M xs=a9->xs.Pairwise λa b=>z7 M v6 a b=a9
 | [],_,_=>.nil
 | [_],_,_=>Qx _ _
 |a::b::r,h,q=>by have q:(z7 M v6 a b&&aN M (b::r))=a9:=q;rw[B8]at q;have ih:=Jj (λx hx=>h x<|C0 _ hx) q.2;refine Nz.mpr ⟨λc hc=>?_,ih⟩;rcases A5.mp hc with rfl|hc;exact q.1;exact wb (h a<|by simp) (h b<|by simp) (h c<|by simp[hc]) q.1<|(Nz.mp ih).1 c hc
theorem FQ:∀{xs:List D},xs.Pairwise (λa b=>z7 M v6 a b=a9)->aN M xs=a9
 | [],_=>rfl
 | [_],_=>rfl
 |a::b::r,p=>by show (z7 M v6 a b&&aN M (b::r))=a9;rw[(Nz.mp p).1 b (by simp),E5];exact FQ (Nz.mp p).2
theorem zw(c:∀x∈xs,Ix x)(X:ys.Nodup)(m:∀x,x∈ys↔x∈xs)(r:yi M ys):decide (xs=ys)=aN M xs:=by
 have Q:∀y∈ys,Ix y:=λy q=>c y<|(m y).mp q;have p:ys.Pairwise λa b=>z7 M v6 a b=a9:=(O1.mp<|RF r X).imp λ{a b} ⟨f,d,q,ne⟩=>by
  rcases FB M v6 a b (cC<|Q a f) (cC<|Q b d) (jz (Q a f)<|Q b d)with⟨z,_⟩|⟨_,z,_,_⟩|⟨_,_,z,_⟩
  exact r9 z ne;exact z;rw[z]at q;cases q
 refine Ni.mpr ⟨λq=>?_,λq=>?_⟩;rw[oT_ q];exact FQ p;refine dT_<|Jw (lt:=λa b=>z7 M v6 a b=a9) (λa f b d h h'=>?_) (Jj c q) p m;have:=wb (c a f) (c b d) (c a f) h h';rw[mC (cC<|c a f) (cC<|c a f)<|jz (c a f)<|c a f]at this;exact OT _<|oT_ this
def cL:A4:=λds M R=>∃(ps:List (c9×Int)) (a:List (c9×List c9)) (r:List D) (d:D),ds=[.tup<|.tup (ps.map aw)::.tup (a.map aV)::r,d]/\(ps.map (·.1)).Nodup/\MT ps/\QN M d/\R (.bl<|logB M ps a d) M
theorem sv:bZ cL iT:=by rintro ds M R ⟨ps,a,r,d,rfl,_⟩;rfl
theorem uv(p:M <+: B)(l:ao M q xs):ao B q xs:=by obtain⟨L,rfl⟩:=p;exact l.more L
theorem HF(h:aW ps d=a9):d∈ak ps:=by
 obtain⟨z,i,rfl⟩:=mH h;have a:(decide (0<=i)&&decide (i<((ps.find? λq=>decide<|q.1=z).map (·.2)).getD 0))=a9:=h;rw[B8,s9,s9]at a;cases e:ps.find? λq=>decide (q.1=z) with
 |none=>rw[e]at a;have:i<0:=a.2;lia
 |some p=>rw[e]at a;have l:i<p.2:=a.2;have q:p.1=z:=oT_<|P9 (p:=λq:c9×Int=>decide<|q.1=z) e;refine List.mem_flatMap.mpr ⟨p,Rp e,A8.mpr ⟨.int i,A8.mpr ⟨i.toNat,I9.mpr (by lia),?_⟩,by rw[q]⟩⟩;rw[Px a.1,Int.zero_add]
theorem BG(h:bV M ps rs d=a9):bg d∈ak ps:=by obtain⟨t,c,b,a,rfl,_⟩:=pN h;simp only[bV,bm,B8]at h;exact HF h.1.2
noncomputable def fq(xs:List D)(h:D):List Int:=(xs.filter λd=>decide<|bg d=h).map wo
theorem De(a:∀x∈xs,bg x∈ak ps)(h:∀k∈ak ps,fq xs k=(C3 (fq xs k).length).map N9):yj xs:=λk=>by
 have e:(fq xs k).length=many xs k:=by unfold fq many;rw[x6]
 by_cases c:k∈ak ps;have:=h k c;rw[e]at this;exact this;have z:xs.filter (λd=>decide<|bg d=k)=[]:=List.filter_eq_nil_iff.mpr λx b q=>c (by rw[<-oT_ q];exact a x b);unfold many;rw[z];rfl
def jo:u7:=aK<|u4 A6 (ac 4)<|fB<|ac 4
def jp:u7:=aB (iG 1 [] (bF<|ac 1) (av 0) je (E7 (ac 0) aL<|bu<|dC<|.int 2) 4)<|jo
def jq:u7:=z9 (al<|u4 MZ (ac 3)<|pP<|aa (u5 eJ<|aa (ac 3) ad) ad) (aK<|dC<|.bl b7) ay
def jr:u7:=aB (sN (bF<|u5 eB<|aa (ac 0) ad) (av 2)<|aB (iG 1 [2] (bF<|ac 1) (av 0) (al<|u4 A6 (u4 w9 (ac 0)<|dC<|.int 1)<|ac 1) (u4 w9 (ac 0)<|dC<|.int 2) 3)<|jq)<|jp
def iN:u7:=aB (z9 (G4 (dz<|al<|u5 fg<|aa (ac 1)<|aa (dC<|.ty "tuple") ad)<|al<|u4 MZ (F7 1 [0] (bF<|ac 1) (av 0) (dz<|al<|u5 ck<|aa (ac 1)<|aa (ac 0) ad)<|ac 0)<|fM ad) (aK<|dC<|.bl b7) ay)<|jr
theorem tD:C6 cL 5 iN:=by
 rintro ds M R ⟨ps,s,r,d,rfl,nd,w,P,h⟩;rcases P with⟨xs,rfl,xl,V⟩|P;have ab:=cb w.2;have f4:=w.1;simp only[iN];walk_at"dl";refine⟨by decide,?_⟩;rw[show fK "tuple" "tuple" = a9 from rfl];walk_at"ifs";intro C;refine bM (λx=>!bV M ps s x) id (λS=>∃a,S=[a,a7<|.tup<|.tup (ps.map aw)::.tup (s.map aV)::r]) trivial _ _ _ ?_ ⟨_,rfl⟩ (by simpa using C) ?_;rintro y Q S ⟨a,rfl⟩;exact⟨[a7 y,a7<|.tup<|.tup (ps.map aw)::.tup (s.map aV)::r],⟨_,rfl⟩,λY Z p=>⟨15,ps,s,r,y,rfl,nd,V y Q,p⟩⟩;rw[G5,P0];have h:R (.bl<|xs.all (bV M ps s)&&(aN M (xs.map D5)&&fX [] xs)) M:=h;refine⟨D4 _,⟨cv (n:=29) (ae.more _) λx f=>LA 15 29 x (by decide) ((V x (Nj.mp f).1).grow<|dg.trans dg).2,cv (n:=29) ae λ_ z=>nomatch z⟩,?_⟩;have q:v7 (M++[MO.lst<|xs.filter λx=>!bV M ps s x]++[MO.lst []]) v6 (.ref M.length) (.ref (M++[MO.lst<|xs.filter λx=>!bV M ps s x]).length)=xs.all (bV M ps s):=by
  refine(fL (n:=29) (ae.more _) ae).trans ?_;cases e:xs.all (bV M ps s) with
  |true=>rw[List.filter_eq_nil_iff.mpr λx f=>by rw[D7.mp e x f];decide];rfl
  |false=>refine wA λz=>?_;have z:=List.filter_eq_nil_iff.mp<|List.eq_nil_of_length_eq_zero z;rw[D7.mpr λx f=>by simpa using z x f]at e;cases e
 rw[q];have pM:M <+: M++[MO.lst<|xs.filter λx=>!bV M ps s x]++[MO.lst []]:=dg.trans dg;generalize M++[MO.lst<|xs.filter λx=>!bV M ps s x]++[MO.lst []]=F at pM;cases J:xs.all (bV M ps s) with
 |false=>rw[J]at h;exact aM<|ar.bl h pM
 |true =>
  rw[J,E5]at h;have T:=D7.mp J;refine bc ?_;simp only[jr];walk_at"dl";refine⟨ps,_,rfl,w,_,ae,λ_=>?_⟩;have L:∀x∈xs,∃(t:Int) (o:D) (m:Int) (g:D),x=.tup [.int t,o,.int m,g]/\Hd o:=λx f=>pN<|T x f;have N:ao (F++[MO.lst<|ak ps]) F.length (ak ps):=ae;have A:M <+: F++[MO.lst<|ak ps]:=pM.trans dg;generalize F++[MO.lst<|ak ps]=M2 at N A;refine cA (λi S l=>M2 <+: l/\(∀k∈(ak ps).take i,fq xs k=(C3 (fq xs k).length).map N9)/\∃a b,S=[a7<|.tup<|.tup (ps.map aw)::.tup (s.map aV)::r,a7<|.tup xs,a,b,a8]) ?_ ?_ ⟨Qe _,(λ_ z=>nomatch z),_,_,rfl⟩;rintro S l ⟨U,I,a,b,rfl⟩;refine⟨uv U N,?_⟩;replace A:=A.trans U;rw[Oh]at I;rw[fu (done:=[])<|De (λx f=>BG<|T x f) I,M9]at h;simp only[jp];walk_at"dl";intro C;have hs:∀x∈xs.map D5,Ix x:=λx f=>by obtain⟨d,o,rfl⟩:=A8.mp f;obtain⟨t,h',m,g,rfl,H⟩:=L d o;exact⟨t,h',rfl,H⟩
  refine bb D5 (λS=>∃a,S=[a]) trivial _ _ _ ?_ ⟨_,rfl⟩ (by simpa using C) ?_;rintro y Q S ⟨a,rfl⟩;obtain⟨t,o,m,g,rfl,_⟩:=L y Q;exact⟨[a7 _],⟨_,rfl⟩,λY hY=>hY⟩;rw[G5];simp only[jo];walk_at"dl";have E:(xs.map D5).length<64:=by rw[x6];lia
  have p3:M <+: l++[MO.lst<|xs.map D5]:=A.trans dg;refine⟨2,_,by decide,.inl ⟨_,rfl,ae⟩,E,λx f=>?_,EQ hs E,λys O v up=>⟨⟨cv (n:=29) (ae.more _) λx f=>?_,cv (n:=29) ae λx f=>?_⟩,?_⟩⟩;obtain⟨z,k,j,rfl⟩:=cD<|hs x f;exact⟨rfl,rfl⟩;obtain⟨z,k,j,rfl⟩:=cD<|hs x f;rfl;obtain⟨z,k,j,rfl⟩:=cD<|hs x<|(v x).mp f;rfl;have e:v7 (l++[MO.lst<|xs.map D5]++[MO.lst ys]) v6 (.ref l.length) (.ref (l++[MO.lst<|xs.map D5]).length)=aN M (xs.map D5):=(fL (n:=29) (ae.more _) ae).trans<|(zn (n:=27) hs λy Q=>hs y<|(v y).mp Q).trans<|(zw hs O v up).trans<|oQ hs;rw[e];exact ar.bl h<|p3.trans dg;rintro i k S l hi ⟨U,I,a,b,rfl⟩ G hG;refine⟨uv U N,?_⟩;replace A:=A.trans U;obtain⟨X,_,W,rfl,_⟩:=iD<|NA hi;walk_at"dl";intro C;have u:Hd (.tup [.str X.1,.int (W:Int)]):=⟨_,_,rfl⟩
  generalize D.tup [.str X.1,.int (W:Int)]=K at hi u ⊢;refine bM (λx=>decide<|bg x=K) (λx=>.int<|wo x) (λS=>∃a,S=[a,a7 K]) trivial _ _ _ ?_ ⟨_,rfl⟩ (by simpa using C) ?_;rintro y Q S ⟨a,rfl⟩;obtain⟨t,o,m,g,rfl,H⟩:=L y Q;refine⟨[a7<|.tup [.int t,o,.int m,g],a7 K],⟨_,rfl⟩,λY Z p=>⟨⟨Lp H,Lp u⟩,?_⟩⟩;have e:v7 l v6 o K=decide (bg (.tup [.int t,o,.int m,g])=K):=Ni.mpr<|(Ls (n:=29) H u).trans decide_eq_true_iff.symm;show if v7 l v6 o K=a9 then _ else _
  rw[e];exact p;rw[G5];have e1:(xs.filter λx=>decide<|bg x=K).map (λx=>D.int<|wo x)=(fq xs K).map D.int:=by unfold fq;rw[F9];rfl
  rw[e1];have nl:(fq xs K).length<=xs.length:=by unfold fq;rw[x6];exact List.length_filter_le _ _
  simp only[jq];walk_at"dl";refine⟨_,ae,by lia,by rw[x6];lia,⟨cv (n:=29) (ae.more _) λx f=>?_,cv (n:=29) ae λx f=>?_⟩,?_⟩;obtain⟨y,_,rfl⟩:=A8.mp f;exact af;obtain⟨y,_,rfl⟩:=A8.mp f;exact af;rw[x6,N1,CH,show v7 (l++[MO.lst<|(fq xs K).map D.int]++[MO.lst<|((C3 (fq xs K).length).map N9).map D.int]) v6 (.ref l.length) (.ref (l++[MO.lst<|(fq xs K).map D.int]).length)=_ from(fL (n:=29) (ae.more _) ae).trans Bj];by_cases c:fq xs K=(C3 (fq xs K).length).map N9;rw[dT_ c];refine bc<|F5.now<|hG _ _ ⟨U.trans<|dg.trans dg,λk B=>?_,_,_,rfl⟩;rw[NM,hi]at B;rcases F6.mp B with q|q;exact I k q;rw[Option.toList_some,G1]at q;rw[q];exact c;rw[dF_ c];have no:fX [] xs=b7:=by
   cases e:fX [] xs with
   |false=>rfl
   |true =>
    have:=jJ (done:=[]) (λ_=>rfl) e K;refine r9 ?_ c;have el:(fq xs K).length=many xs K:=by unfold fq many;rw[x6]
    rw[el];exact this
  rw[no,Pn]at h;exact aM<|ar.bl h<|A.trans<|dg.trans dg
 simp only[iN];rcases P with rfl|⟨b,rfl⟩|⟨i,rfl⟩|⟨x,rfl⟩|⟨k,xs,rfl,hL⟩
 walk_at"dl";exact⟨⟨by decide,by decide⟩,aM<|ar.now h⟩;walk_at"dl";exact⟨⟨by decide,by decide⟩,aM<|ar.now h⟩;walk_at"dl";exact⟨⟨by decide,by decide⟩,aM<|ar.now h⟩;walk_at"dl";exact⟨⟨by decide,by decide⟩,aM<|ar.now h⟩;have e:=hL.ty;simp only[A1]at e;walk_at"dl";rw[e];exact⟨⟨by decide,by decide⟩,aM<|ar.now h⟩
theorem um(T:Tops P w K mg base):x5 P w K mg base 7 "_law_is_log" iT cL:=x5.byD (N:=["_law_house_here","_law_thing_here","_law_hand","_law_numbers","_law_stamps"]) T.b T.f_l_is_log (by walk_at"sc") sv (by have:=ka T;have:=jG T;walk_at"dv") tD
def ko:A4:=λds M R=>∃(n m:Nat) (c:Int) (ps:List (c9×Int)) (a:List (c9×List c9)) (r:List D) (d:D),ds=[.tup<|.tup (ps.map aw)::.tup (a.map aV)::r,d,.ref n]/\M[n]?=a7 (ah c)/\(ps.map (·.1)).Nodup/\6<=m/\m<=14/\w6 M m d/\∀(d:D) (B:u8),WM M n B->w6 B (m+1) d->R d B
theorem AL:bZ ko uh:=by rintro ds M R ⟨n,m,c,ps,a,r,d,rfl,_⟩;rfl
def qJ:u7:=aK<|u5 (eD 5)<|aa (ac 1)<|aa (ac 2)<|aa (dC<|.int 3) ad
def qK:u7:=aB (z9 (al<|u4 A6 (ac 3)<|dC<|.int 1) (aK<|u4 aI (cR<|aa (u5 xt<|aa (dC<|.int 1)<|aa (u4 aI (u4 zI (u4 w9 (ac 1)<|dC<|.int 0)<|dC<|.int 2)<|u5 am<|aa (ac 2)<|aa (dC<|.int 5) ad) ad) ad)<|E7 (ac 1) (bu<|dC<|.int 1) aL) ay)<|qJ
def qL:u7:=aB (z9 (al<|u4 A6 (ac 3)<|dC<|.int 0) (aK<|u4 aI (E7 (ac 1) aL<|bu<|dC<|.int 2)<|cR<|aa (u5 xt<|aa (dC<|.int 0)<|aa (u4 aI (u4 zI (u4 w9 (ac 1)<|dC<|.int 2)<|dC<|.int 1)<|u5 am<|aa (ac 2)<|aa (dC<|.int 3) ad) ad)<|aa (u4 w9 (ac 1)<|dC<|.int 3) ad) ay)<|qK
def qN:u7:=aB (z9 (dz<|al<|u5 ck<|aa (ac 0)<|aa (ac 1) ad) (aK<|u5 (eD 5)<|aa (ac 1)<|aa (ac 2)<|aa (dC<|.int 3) ad) ay)<|qL
def yM:u7:=aB (bL (u5 am<|aa (ac 2)<|aa (dC<|.int 4) ad) 3)<|qN
theorem Co:C6 ko 4 yM:=by
 rintro ds M R ⟨n,m,c,ps,s,r,d,rfl,k,X,N,I,g,h⟩;have f:∀C:u8,WM M n C->eD 5 [d,.ref n,.int 3] C (ar M R):=λC p=>by obtain⟨o,T⟩:=p.get k;exact⟨n,m,o,3,d,rfl,T,by decide,by decide,by lia,by lia,g.wm k p,λd B w v=>.inl<|h _ _ (p.trans k w) v⟩
 simp only[yM];walk_at"dl";refine⟨n,c,4,rfl,k,by decide,by decide,λi o K L=>?_⟩;have z:WM M n (M.set n<|ah o):=WM.drawn;generalize M.set n (ah o)=U at z;obtain⟨q,e⟩:=z.get k;have g1:=g.wm k z;simp only[qN];walk_at"dl";refine⟨m,ps,s,r,d,rfl,X,g1,?_⟩;cases F:bV U ps s d with
 |false=>walk_at"ifs";exact f _ z
 |true =>
  obtain⟨t,l,b,a,rfl,J⟩:=pN F;obtain⟨_,V,rfl,A⟩:=g1.tup;have u:∀x∈[.int t,l,.int b,a],w6 U (V+1) x:=λx D=>(A x D).mono (by lia) (by lia);walk_at"ifs";simp only[qL];walk_at"dl";refine⟨⟨af,af⟩,?_⟩;cases v7 U v6 (.int i) (.int 0) with
  |true=>walk_at"ifs";refine⟨n,q,3,rfl,e,by decide,by decide,λj G E H=>⟨aq (by lia),aq (by have:=wD (xs:=[.int t,l,.int b,a]) (show (0:Int)<=2 by decide);lia),.inl<|h _ _ (z.set k _)<|w6.mk ?_ (by lia) ?_⟩⟩;have:=wD (xs:=[.int t,l,.int b,a]) (show (0:Int)<=2 by decide);rw[A7];simp only[C5,Fn];lia;have y:=jb u e<|WM.drawn (c:=G);exact cQ (ci y)<|cJ (fx<|by lia)<|cJ (y a<|by simp) jc
  |false =>
   walk_at"ifs";simp only[qK];walk_at"dl";refine⟨⟨af,af⟩,?_⟩;cases v7 U v6 (.int i) (.int 1) with
   |true=>walk_at"ifs";refine⟨n,q,5,rfl,e,by decide,by decide,λj G E H=>⟨aq (by lia),aq (by have:=jN (xs:=[.int t,l,.int b,a]) (show (0:Int)<=1 by decide);simp only[C5,Fn]at this;lia),.inl<|h _ _ (z.set k _)<|w6.mk ?_ (by lia) ?_⟩⟩;have:=jN (xs:=[.int t,l,.int b,a]) (show (0:Int)<=1 by decide);simp only[C5,Fn]at this ⊢;lia;exact cJ (fx<|by lia)<|ci<|jb u e<|WM.drawn (c:=G)
   |false=>walk_at"ifs";simp only[qJ];walk_at"dl";exact f _ z
theorem Db(T:Tops P w K mg base):x5 P w K mg base 12 "_law_other" uh ko:=x5.byD (N:=["_law_house_here","_law_deed","_law_well_here","_law_way"]) T.b T.f_other (by walk_at"sc") AL (by have:=bR T;have:=Ar T 5;have:=jG T;walk_at"dv") Co
def dq:A4:=λds M R=>∃(n m:Nat) (c:Int) (ps:List (c9×Int)) (a:List (c9×List c9)) (r xs:List D),ds=[.tup<|.tup (ps.map aw)::.tup (a.map aV)::r,.tup xs,.ref n]/\M[n]?=a7 (ah c)/\(ps.map (·.1)).Nodup/\7<=m/\m<=14/\w6 M m (.tup xs)/\∀(d:D) (B:u8),WM M n B->w6 B (m+1) d->R d B
theorem uA:bZ dq lX:=by rintro ds M R ⟨n,m,c,ps,a,r,xs,rfl,_⟩;rfl
theorem EH(w:WM M n B)(h:q≠n)(l:ao M q xs):ao B q xs:=by obtain⟨c,L,rfl⟩:=w;exact(bo h l).more L
def ji:u7:=aK<|u4 aI (u4 aI (E7 (ac 1) aL<|bu<|ac 4)<|cR<|aa (u5 ko<|aa (ac 0)<|aa (u4 w9 (ac 1)<|ac 4)<|aa (ac 2) ad) ad)<|E7 (ac 1) (bu<|u4 aI (ac 4)<|dC<|.int 1) aL
def kC:u7:=aK<|u5 eZ<|aa (ac 6) ad
def kD:u7:=aB (IM (u4 w9 (ac 1)<|ac 4)<|xW (ac 6)<|ac 5)<|kC
def kE:u7:=aB (IM (u4 w9 (ac 1)<|ac 5)<|xW (ac 6)<|ac 4)<|kD
def kF:u7:=aB (z9 (al<|u4 A6 (ac 3)<|dC<|.int 3) (aB (bL (u5 rO<|aa (ac 1) ad) 6)<|kE) ay)<|ji
def kG:u7:=aB (z9 (al<|u4 A6 (ac 3)<|dC<|.int 2) (aK<|u4 aI (u4 aI (E7 (ac 1) aL<|bu<|ac 4)<|cR<|aa (u4 w9 (ac 1)<|ac 5) ad)<|E7 (ac 1) (bu<|ac 4) aL) ay)<|kF
def kH:u7:=aB (z9 (al<|u4 A6 (ac 3)<|dC<|.int 1) (aK<|u4 aI (E7 (ac 1) aL<|bu<|ac 4)<|E7 (ac 1) (bu<|u4 aI (ac 4)<|dC<|.int 1) aL) ay)<|kG
def kI:u7:=aB (bL (u5 am<|aa (ac 2)<|aa (u5 eJ<|aa (ac 1) ad) ad) 5)<|kH
def kJ:u7:=aB (bL (u5 am<|aa (ac 2)<|aa (u5 eJ<|aa (ac 1) ad) ad) 4)<|kI
def kK:u7:=aB (z9 (G4 (al<|u4 A6 (ac 1)<|cR ad)<|al<|u4 A6 (ac 3)<|dC<|.int 0) (aK<|u4 w9 (fM<|aa (u5 (bq 5)<|aa (ac 2)<|aa (dC<|.int 2) ad)<|aa (u5 rO<|aa (ac 1) ad)<|aa (u4 aI (ac 1)<|cR<|aa (u5 (bq 5)<|aa (ac 2)<|aa (dC<|.int 2) ad) ad)<|aa (cR<|aa (ac 1)<|aa (ac 1) ad) ad)<|u5 am<|aa (ac 2)<|aa (dC<|.int 4) ad) ay)<|kJ
def qI:u7:=aB (bL (u5 am<|aa (ac 2)<|aa (dC<|.int 8) ad) 3)<|kK
section
variable{M B:u8}{R:DK}{n m:Nat}{c:Int}{xs:List D}
theorem tV(f:M[n]?=a7 (ah c))(o:WM M n B)(P:7<=m+1)(I:m+1<=14)(E:∀x∈xs,w6 B m x)(N:xs.length<=30+m)(h:∀(d:D) (B:u8),WM M n B->w6 B (m+2) d->R d B):(aK<|u4 w9 (fM<|aa (u5 (bq 5)<|aa (ac 2)<|aa (dC<|.int 2) ad)<|aa (u5 rO<|aa (ac 1) ad)<|aa (u4 aI (ac 1)<|cR<|aa (u5 (bq 5)<|aa (ac 2)<|aa (dC<|.int 2) ad) ad)<|aa (cR<|aa (ac 1)<|aa (ac 1) ad) ad)<|u5 am<|aa (ac 2)<|aa (dC<|.int 4) ad) (EE M R) [y0,a7<|.tup xs,a7<|.ref n,y3,y4,y5,y6] B:=by obtain⟨r,T⟩:=o.get f;walk_at"dl";refine⟨n,r,2,rfl,T,by decide,by decide,by decide,λb U w g1=>?_⟩;obtain⟨s,a⟩:=w.get T;have Q:=cg a;refine⟨n,s,2,rfl,au a,by decide,by decide,by decide,λe V i A=>⟨aq (by lia),aq (by lia),aq (by lia),aq (by lia),?_⟩⟩;have Y:WM U n V:=((WM.now a).app _).trans a i;obtain⟨y,t⟩:=Y.get a;have F:ao V U.length xs:=EH i (by lia) ae;have q:=i.len;rw[A7,J4]at q;refine⟨n,y,4,rfl,au t,by decide,by decide,λv H J K=>⟨_,bo (by lia) ae,?_⟩⟩;have G:=(Y.app [MO.lst [b,.ref U.length,.tup<|xs++[e],.tup [.tup xs,.tup xs]]]).set a H;have p:ao ((V++[MO.lst [b,.ref U.length,.tup<|xs++[e],.tup [.tup xs,.tup xs]]]).set n<|ah H) U.length xs:=bo (by lia)<|F.more _;have j:=(A.grow<|dg (mo:=MO.lst [b,.ref U.length,.tup<|xs++[e],.tup [.tup xs,.tup xs]])).wm (au t)<|WM.drawn (c:=H);have g3:=g1.wm a G;have u:=jb E T<|w.trans T G;generalize List.set (V++[MO.lst [b,.ref U.length,.tup<|xs++[e],.tup [.tup xs,.tup xs]]]) n (ah H)=C at G p j g3 u;have k:w6 C (m+1) (.tup xs):=w6.mkw N (by lia) u;have l:∀x∈[b,.ref U.length,.tup<|xs++[e],.tup [.tup xs,.tup xs]],w6 C (m+2) x:=cJ (g3.mono (by show 2<=_;lia)<|by lia)<|cJ (w6.mkr p (by lia) λx g=>(u x g).mono (by lia)<|by lia)<|cJ (w6.mkw (by rw[A7,J4];lia) (by lia)<|cQ (λx g=>(u x g).mono (by lia)<|by lia)<|cJ (j.mono (by show 2<=_;lia)<|by lia) jc)<|cJ (Bs (by lia) k k) jc;obtain⟨O,L,z,_⟩:=cy (xs:=[b,.ref U.length,.tup<|xs++[e],.tup [.tup xs,.tup xs]]) J K;rw[z];exact .inl<|h _ _ ((o.trans f w).trans f G)<|l _<|G6 L
end
theorem wQ:C6 dq 7 qI:=by
 rintro ds M R ⟨n,m,c,ps,rs,r,xs,rfl,f,nd,m7,I,g,h⟩;obtain⟨ab,V,rfl,J⟩:=g.tup;have xl:=g.wid;have up:∀{C:u8}{y:D},w6 C V y->w6 C (V+1) y:=λg=>g.mono (by lia) (by lia);have b:∀(ys:List D) (C:u8),WM M n C->(∀y∈ys,w6 C (V+1) y)->ys.length<=xs.length+1->R (.tup ys) C:=λys C w g l=>h _ _ w<|w6.mkw (by lia) (by lia) g;simp only[qI];walk_at"dl";refine⟨n,c,8,rfl,f,by decide,by decide,λi A i0 i8=>?_⟩;have z:WM M n (M.set n<|ah A):=WM.drawn;have E:=(g.wm f z).ok;generalize M.set n (ah A)=U at z E;obtain⟨c2,v⟩:=z.get f;have g1:=jb J f z;simp only[kK];have a:=tV (y0:=a7<|.tup<|.tup (ps.map aw)::.tup (rs.map aV)::r) (y3:=a7<|.int i) (y4:=a8) (y5:=a8) (y6:=a8) f z m7 I g1 xl h;revert a;walk_at"dl";intro a;refine⟨D4 _,⟨E,rfl⟩,?_⟩;cases xs with
 |nil=>exact aM a
 |cons x xs =>
  refine bc ⟨⟨af,af⟩,?_⟩;generalize hX:x::xs=X at *;have x1:1<=X.length:=by rw[<-hX];simp
  cases v7 U v6 (.int i) (.int 0) with
  |true=>exact aM a
  |false =>
   refine bc ?_;clear a;simp only[kJ];walk_at"dl";refine⟨n,c2,_,rfl,v,by lia,by lia,λj G p O=>?_⟩;have e:WM M n (U.set n<|ah G):=z.set f _;generalize U.set n (ah G)=B at e;obtain⟨c4,Z⟩:=e.get f;simp only[kI];walk_at"dl";refine⟨n,c4,_,rfl,Z,by lia,by lia,λk P T k1=>?_⟩;have t:WM M n (B.set n<|ah P):=e.set f _;generalize B.set n (ah P)=W at t;obtain⟨c6,o⟩:=t.get f;have H:=jb J f t;have u:∀x∈X,w6 W (V+1) x:=λx hx=>up<|H x hx;have l1:=wD (xs:=X) p;have l2:=jN (xs:=X) (show 0<=j+1 by lia);obtain⟨S,L,F,q⟩:=cy (xs:=X) p O;obtain⟨kn,N,Y,s⟩:=cy (xs:=X) T k1;simp only[kH];walk_at"dl";refine⟨⟨af,af⟩,?_⟩;cases v7 W v6 (.int i) (.int 1) with
   |true=>exact aM ⟨aq (by lia),.inl<|b _ _ t (cQ (ci u)<|ci u)<|by rw[A7];lia⟩
   |false =>
    refine bc ?_;simp only[kG];walk_at"dl";refine⟨⟨af,af⟩,?_⟩;cases v7 W v6 (.int i) (.int 2) with
    |true=>have l3:=jN (xs:=X) p;rw[Y];exact aM ⟨aq (by lia),aq (by lia),aq (by rw[A7,J4];lia),.inl<|b _ _ t (cQ (cQ (ci u)<|cJ (u _<|G6 N) jc)<|ci u)<|by rw[A7,A7,J4];lia⟩
    |false =>
     refine bc ?_;simp only[kF];walk_at"dl";refine⟨⟨af,af⟩,?_⟩;cases v7 W v6 (.int i) (.int 3) with
     |true=>refine aM ?_;simp only[kE];walk_at"dl";rw[Y];refine⟨X,S,aE,?_,?_⟩;unfold Nm;rw[p9 p,p9 O,<-q];rfl;rw[iP];simp only[kD];walk_at"dl";rw[F];refine⟨X.set S X[kn],kn,aE,?_,?_⟩;unfold Nm;rw[p9 T,MU,p9 k1,<-s];rfl;rw[iP];simp only[kC];walk_at"dl";refine⟨_,ae,.inl<|b _ _ (t.app _) (λy Q=>?_)<|by rw[MU,MU];lia⟩;rcases List.mem_or_eq_of_mem_set Q with Q|rfl;rcases List.mem_or_eq_of_mem_set Q with Q|rfl;exact(u y Q).grow dg;exact(u _<|G6 N).grow dg;exact(u _<|G6 L).grow dg
     |false=>refine bc ?_;simp only[ji];walk_at"dl";rw[F];refine⟨n,V,c6,ps,rs,r,_,rfl,o,nd,by lia,by lia,H _<|G6 L,λd B7 w7 g7=>?_⟩;have K:=jb u o w7;exact⟨aq (by lia),aq (by lia),aq (by rw[A7,J4];lia),.inl<|b _ _ (t.trans f w7) (cQ (cQ (ci K)<|cJ g7 jc)<|ci K)<|by rw[A7,A7,J4];lia⟩
theorem xx(T:Tops P w K mg base):x5 P w K mg base 13 "_law_spoiled" lX dq:=x5.byD (N:=["_law_house_here","_law_log_here","_law_well_here","_law_way","_law_at","_law_there","_law_turned"]) T.b T.f_spoiled (by walk_at"sc") uA (by have:=bR T;have:=oZ T 5;have:=Db T;walk_at"dv") wQ
theorem GH:bZ GL Gp:=by rintro ds M R ⟨ns,m,_,_,rfl,_⟩;rfl
theorem uz(ok:LogV ps rs log):logB M ps rs (.tup log)=a9:=by show (log.all (bV M ps rs)&&(aN M (log.map D5)&&fX [] log))=a9;rw[D7.mpr λd h=>(ok.v d h).ok M,fu (done:=[]) ok.n.nums,M9,E5];refine FQ<|NN.mpr<|List.Pairwise.imp_of_mem (λ{a b} ha hb q=>?_) ok.n.up;rw[zt (M':=[]) (mO<|ok.n.deed a ha)<|mO<|ok.n.deed b hb];exact q
theorem FD(g:w6 M 16 d):QN M d:=by
 cases d with
 |tup xs =>
  obtain⟨c,m,e,f⟩:=g.tup;obtain rfl:m=15:=by lia
  exact .inl ⟨xs,rfl,c,f⟩
 |non=>exact .inr<|.inl rfl
 |bl b=>exact .inr<|.inr<|.inl ⟨b,rfl⟩
 |int i=>exact .inr<|.inr<|.inr<|.inl ⟨i,rfl⟩
 |str x=>exact .inr<|.inr<|.inr<|.inr<|.inl ⟨x,rfl⟩
 |ref k =>
  obtain⟨_,h⟩:=g;simp only[F4]at h;cases e:M[k]? with
  |none=>rw[e]at h;cases h
  |some a=>rw[e]at h;simp only[B8]at h;exact .inr<|.inr<|.inr<|.inr<|.inr ⟨k,_,rfl,ir e h.1⟩
 |ty t=>cases g.2
def yW:u7:=aK<|bt (u5 dZ<|aa (u5 cN<|aa (ac 1)<|aa (ac 2) ad)<|aa (dC<|.bl a9) ad)<|u5 dZ<|aa (u5 cN<|aa (ac 1)<|aa (cR ad) ad)<|aa (dC<|.bl a9) ad
def tN:u7:=z9 (dz<|al<|u5 dZ<|aa (u5 cN<|aa (ac 1)<|aa (ac 5) ad)<|aa (u5 cL<|aa (ac 1)<|aa (ac 5) ad) ad) (aK<|dC<|.bl b7) ay
def yX:u7:=aB (z9 (Fl (al<|u5 fg<|aa (ac 5)<|aa (dC<|.ty "tuple") ad)<|al<|u4 A6 (u5 am<|aa (ac 3)<|aa (dC<|.int 3) ad)<|dC<|.int 0) (bL (u5 dq<|aa (ac 1)<|aa (ac 5)<|aa (ac 3) ad) 5) ay)<|tN
def yY:u7:=aB (sN (cw<|aa (dC<|.int 12) ad) (av 4)<|aB (bL (u5 dq<|aa (ac 1)<|aa (ac 2)<|aa (ac 3) ad) 5)<|yX)<|yW
def yZ:u7:=aB (bL (u5 mT<|aa (u5 cB<|aa (ac 0)<|aa (dC<|.int 1) ad)<|aa (dC<|.int 2) ad) 3)<|yY
def za:u7:=aB (z9 (G4 (dz<|al<|u5 cL<|aa (ac 1)<|aa (ac 2) ad)<|dz<|al<|u5 dZ<|aa (u5 cN<|aa (ac 1)<|aa (ac 2) ad)<|aa (dC<|.bl a9) ad) (aK<|dC<|.bl b7) ay)<|yZ
def zb:u7:=aB (bL (u5 wO<|aa (u5 kj<|aa (ac 0)<|aa (dC<|.int 2)<|aa (dC<|.int 40) ad)<|aa (ac 1) ad) 2)<|za
def Je:u7:=aB (bL (u5 ku<|aa (u5 mT<|aa (u5 cB<|aa (ac 0)<|aa (dC<|.int 0) ad)<|aa (dC<|.int 1) ad) ad) 1)<|zb
theorem GK(X:(ps.map (·.1)).Nodup)(f:MT ps)(g:w6 B 16 d)(h:E.nx [y0,a7<|sG ps rs,y2,y3,y4,a7 d] B):tN E [y0,a7<|sG ps rs,y2,y3,y4,a7 d] B:=by simp only[tN];walk_at"dl";refine⟨ps,rs,[],d,rfl,FD g,ps,rs,[],d,rfl,X,f,FD g,_,_,rfl,?_⟩;rw[t8];walk_at"ifs";exact h
theorem IU:C6 GL 6 Je:=by
 rintro ds M R ⟨ns,mo,X,⟨E,y⟩,rfl,rfl,h⟩;have k:∀L:u8,ao ([mo]++L) 0 (ns.map D.int):=λL=>by have:=ir (M:=[mo]++L) (n:=0) (mo:=mo) rfl y;rw[E]at this;exact this
 simp only[Je];walk_at"dl";refine⟨0,ns,0,rfl,k [],_,1,rfl,by decide,by decide,λi=>?_⟩;refine⟨1,i,rfl,rfl,λps s B e wm=>?_⟩;simp only[zb];walk_at"dl";have H:ao B 0 (ns.map D.int):=EH wm (by decide)<|k [ah i];refine⟨0,ns,2,40,rfl,H,by lia,by decide,by decide,λws C pC l A=>?_⟩;obtain⟨p,ps,rfl⟩:∃p qs,ps=p::qs:=by
  cases ps with
  |nil=>have:=e.len.1;simp at this
  |cons p qs=>exact⟨p,qs,rfl⟩
 have f:MT (p::ps):=⟨e.len.2,λq V=>⟨by have:=e.many q V;lia,(e.many q V).2⟩⟩
 have h1:1<=(ak<|p::ps).length:=by have:=(e.many p<|by simp).1;rw[ak,List.flatMap_cons,A7,gJ];lia
 have lC:ao (C++[.lst<|ws.map .ref]) 0 (ns.map D.int):=uv (pC.trans dg) H;have bl:=H.lt;have w0:0∉ws:=λz=>by have:=(A 0 z).1;lia
 refine⟨C.length,ws,p,ps,s,[],rfl,ae,λz=>?_,λw Y=>?_,l,f,h1,e,λg m ok kp=>?_⟩;obtain⟨_,c,j⟩:=A _ z;have:=cg j;lia;obtain⟨_,c,j⟩:=A w Y;exact⟨c,au j⟩;have l1:=kp.lst w0 lC;have on:=ok.n;have ol:=on.len;have Q:∀B:u8,w6 B 11 (.tup g):=λB=>w6.mkw (by lia) (by decide) λx Z=>((ok.v x Z).gd B).mono (by decide) (by decide);have I:∀B:u8,QN B (.tup g):=λB=>FD ((Q B).mono (by decide)<|by decide);simp only[za];walk_at"dl";refine⟨p::ps,s,[],.tup g,rfl,e.nd,f,I _,?_⟩;rw[uz ok];walk_at"ifs";refine⟨p::ps,s,[],.tup g,rfl,I _,_,a9,rfl,?_⟩;rw[uz ok,show (a9==a9)=a9 from rfl];walk_at"ifs";simp only[yZ];walk_at"dl";refine⟨0,ns,1,rfl,l1,_,2,rfl,by decide,by decide,λi=>?_⟩;have F:(m++[ah i])[m.length]?=a7 (ah i):=aE;generalize m++[ah i]=B0 at F;generalize m.length=w at F;simp only[yY];walk_at"dl";refine⟨by decide,?_⟩;refine fN (λ_ S o=>(∃c,o[w]?=a7 (ah c))/\∃a b,S=[a7<|.ref 0,a7<|sG (p::ps) s,a7<|.tup g,a7<|.ref w,a,b]) ?_ ?_ _ _ _ ⟨⟨_,F⟩,_,_,rfl⟩;rintro S o ⟨_,a,b,rfl⟩;refine⟨trivial,?_⟩;simp only[yW];walk_at"dl";refine⟨p::ps,s,[],.tup g,rfl,I _,_,a9,rfl,?_⟩;rw[uz ok,show (a9==a9)=a9 from rfl];walk_at"ifs";refine⟨D4 _,p::ps,s,[],.tup [],rfl,.inl ⟨[],rfl,by decide,λ_ z=>nomatch z⟩,_,a9,rfl,.inl ?_⟩;exact h _;rintro x xs S o ⟨⟨c,j⟩,a,b,rfl⟩ G u;refine⟨trivial,?_⟩;walk_at"dl";refine⟨w,11,c,p::ps,s,[],g,rfl,j,e.nd,by decide,by decide,Q _,λd U w1 g1=>?_⟩;obtain⟨K,T⟩:=w1.get j;simp only[yX];rcases eL U g1 with⟨ys,rfl⟩|⟨P,e2⟩
 walk_at"dl";refine⟨by decide,?_⟩;rw[show fK "tuple" "tuple" = a9 from rfl];walk_at"ifs";refine⟨w,K,3,rfl,T,by decide,by decide,λv N v0 v3=>⟨⟨af,af⟩,?_⟩⟩;have J:WM U w (U.set w<|ah N):=WM.drawn;have r:=g1.wm T J;generalize U.set w (ah N)=W at J r;obtain⟨O,t⟩:=J.get T;cases v7 W v6 (.int v) (.int 0) with
 |true=>refine aM ⟨w,12,O,p::ps,s,[],ys,rfl,t,e.nd,by decide,by decide,r,λd B3 w3 g3=>?_⟩;exact GK e.nd f (g3.mono (by decide)<|by decide)<|F5.now<|u _ _ ⟨w3.get t,_,_,rfl⟩
 |false=>exact bc<|GK e.nd f (r.mono (by decide)<|by decide)<|F5.now<|u _ _ ⟨⟨O,t⟩,_,_,rfl⟩
 walk_at"dl";refine⟨⟨g1.thing.1,by decide⟩,?_⟩;simp only[A1]at P;rw[P];walk_at"ifs";exact GK e.nd f (g1.mono (by decide)<|by decide)<|F5.now<|u _ _ ⟨⟨K,T⟩,_,_,rfl⟩
theorem ok_law(T:Tops P w K mg base)(F:Nq K "law" "law" (top 66) f fd):FnOk P w K mg base L5 14 f fd Gp (Nl K GL):=Eh (N:=["_law_script","_law_house_here","_law_log_here","_law_well_here","_law_turn","_law_thing_here"]) T.b F (by walk_at"sc") GH (by have:=Ap T;have:=nZ T;have:=bR T;have:=Gv T;have:=CZ T;have:=Dc T;have:=Kj T;have:=Da T;have:=um T;have:=xx T;walk_at"dv") IU
end
end LW
namespace PySem.W.Fast
def tw10003110144273497244:=Nat
def tw10017833107990619085:=Nat
def tw10026638013658784363:=Nat
def tw10131262700582816772:=Nat
def tw10156832416256010644:=Nat
def tw10300862946974580029:=Nat
def tw10405690457073903628:=Nat
def tw10444897457540507561:=Nat
def tw1048457547465439219:=Nat
def tw10568407795587703134:=Nat
def tw10612418836718229118:=Nat
def tw10806856680414882142:=Nat
def tw10813173618016365493:=Nat
def tw10834714726661868553:=Nat
def tw1088461137099372792:=Nat
def tw10956734027949955025:=Nat
def tw10974148636999407059:=Nat
def tw11014091982135491394:=Nat
def tw11146721385861961421:=Nat
def tw11402508418424412635:=Nat
def tw11477002360398632765:=Nat
def tw1159186817429935866:=Nat
def tw11650713649484618020:=Nat
def tw11744915566376937174:=Nat
def tw11791908226656875122:=Nat
def tw11799577837685739797:=Nat
def tw11877060296768463475:=Nat
def tw11925883373596228898:=Nat
def tw11994150910831846554:=Nat
def tw12000964661849941316:=Nat
def tw12161436340394638068:=Nat
def tw12184532302941510989:=Nat
def tw12266246611330311779:=Nat
def tw12306873838253242210:=Nat
def tw12317574024324365663:=Nat
def tw12463396482557269623:=Nat
def tw12491508430304430053:=Nat
def tw12509785781087545994:=Nat
def tw12679202867434627154:=Nat
def tw12726582272876542852:=Nat
def tw12740108098532455427:=Nat
def tw12757330592561923779:=Nat
def tw12792336359984538128:=Nat
def tw1300753431986250602:=Nat
def tw13011604270597627681:=Nat
def tw13115716714565452703:=Nat
def tw13157333596940970191:=Nat
def tw13164963373994022398:=Nat
def tw13182739834683188311:=Nat
def tw13232315038763244955:=Nat
def tw13246588630708602260:=Nat
def tw13429533063095810857:=Nat
def tw13435531796409074824:=Nat
def tw13463051471542295055:=Nat
def tw13474291499466295432:=Nat
def tw13535407359291371083:=Nat
def tw13597977013173898881:=Nat
def tw13936749638986153610:=Nat
def tw13980997182311204165:=Nat
def tw1398201665954478324:=Nat
def tw14080606902683451995:=Nat
def tw14155953344657899930:=Nat
def tw14193157237827354631:=Nat
def tw14267716038229402834:=Nat
def tw14365479291460521566:=Nat
def tw14447510866823578370:=Nat
def tw1451784398229330696:=Nat
def tw14584143467716507646:=Nat
def tw14621391905350716329:=Nat
def tw14627954221329457121:=Nat
def tw14628435254999683370:=Nat
def tw14644029478229251382:=Nat
def tw1465119484472129956:=Nat
def tw14709858107212580008:=Nat
def tw14798298575819222296:=Nat
def tw14810033244897443840:=Nat
def tw14825967954912082367:=Nat
def tw14832515259228036475:=Nat
def tw1489995714770763093:=Nat
def tw15038469109704023377:=Nat
def tw15144995867095063726:=Nat
def tw1517592259870370505:=Nat
def tw15178902528815599251:=Nat
def tw15180098755580180883:=Nat
def tw15241310668947221451:=Nat
def tw15262890376731841076:=Nat
def tw15295382898789265926:=Nat
def tw15342300186938392632:=Nat
def tw1566584184469258730:=Nat
def tw15725173758844228743:=Nat
def tw15835909075442353683:=Nat
def tw15945991559581184681:=Nat
def tw16056048268516718567:=Nat
def tw1612690059362732584:=Nat
def tw16200690381915585208:=Nat
def tw16298634777746174066:=Nat
def tw16339246112442775588:=Nat
def tw16506824195627834079:=Nat
def tw16554966326220083275:=Nat
def tw1655719551587100099:=Nat
def tw16560132520672637647:=Nat
def tw16861909517528908920:=Nat
def tw16975735129653140036:=Nat
def tw17145465281374044649:=Nat
def tw17240053496044986200:=Nat
def tw17340147900424843059:=Nat
def tw17369982787131022295:=Nat
def tw17376010276497718480:=Nat
def tw17429020556399809074:=Nat
def tw17505024927128038346:=Nat
def tw17513540363539230039:=Nat
def tw17649187630765973072:=Nat
def tw17669868296023933110:=Nat
def tw17676931851983580578:=Nat
def tw17716079199800154042:=Nat
def tw17767716956208029484:=Nat
def tw17991952276348898499:=Nat
def tw18195540343499790890:=Nat
def tw18220212495371418630:=Nat
def tw1828252209186352618:=Nat
def tw1841293311671127499:=Nat
def tw18415764316525737234:=Nat
def tw2022622266091998546:=Nat
def tw2050471506441968206:=Nat
def tw2083361404101395998:=Nat
def tw2173825906549944748:=Nat
def tw2205724549090110891:=Nat
def tw2259897174693899422:=Nat
def tw2356754982600611691:=Nat
def tw2598992152771158570:=Nat
def tw2609475394543556908:=Nat
def tw2613696335289039849:=Nat
def tw2786891182251419931:=Nat
def tw2845859416286249107:=Nat
def tw2917955168805221898:=Nat
def tw3047697808424146767:=Nat
def tw3058324693505443652:=Nat
def tw3071755632059185033:=Nat
def tw3123032610977022361:=Nat
def tw3195051980745890858:=Nat
def tw3353291821095187483:=Nat
def tw3410388321168381536:=Nat
def tw3494323668759443124:=Nat
def tw3569441138494316292:=Nat
def tw3591130792229970791:=Nat
def tw3611484592000693663:=Nat
def tw3660597567855826871:=Nat
def tw3669445587935027849:=Nat
def tw3748201398463934418:=Nat
def tw3791694369345460493:=Nat
def tw3945703593571309954:=Nat
def tw3955785817329237554:=Nat
def tw4054890021186173355:=Nat
def tw4058168791371059396:=Nat
def tw4091756551034825177:=Nat
def tw4097678385888516829:=Nat
def tw4190089165424701187:=Nat
def tw4359985428740025430:=Nat
def tw4366872318304262048:=Nat
def tw4403846975111661590:=Nat
def tw4442258029966576019:=Nat
def tw4509622891770658274:=Nat
def tw4511850635914037453:=Nat
def tw4540570650470522396:=Nat
def tw4543034007752376301:=Nat
def tw4649285235231617424:=Nat
def tw4684181364378509122:=Nat
def tw4701741099202678675:=Nat
def tw4757425544876739626:=Nat
def tw4837784604054635277:=Nat
def tw4968491025210189167:=Nat
def tw5124601028251891301:=Nat
def tw5126609809173162664:=Nat
def tw5143681929651214742:=Nat
def tw5144096531545372591:=Nat
def tw5244321368112979009:=Nat
def tw5338777888421170309:=Nat
def tw5375921662406375916:=Nat
def tw5376491555288429657:=Nat
def tw541507879285905484:=Nat
def tw5608955629140642240:=Nat
def tw5801583977524026985:=Nat
def tw5880812722645932473:=Nat
def tw6057112788498167451:=Nat
def tw6218133712284248724:=Nat
def tw6342276375403123642:=Nat
def tw6430091012438572574:=Nat
def tw6552482337822726966:=Nat
def tw6645998433027949951:=Nat
def tw666706309003214300:=Nat
def tw6671569886504641290:=Nat
def tw6706296737207810869:=Nat
def tw6783170218975775321:=Nat
def tw6907819402100163079:=Nat
def tw7004074526727097105:=Nat
def tw7011732495336856969:=Nat
def tw7060470878594233898:=Nat
def tw7333798471268311857:=Nat
def tw742028818090430323:=Nat
def tw7429025336937106692:=Nat
def tw746512982782272702:=Nat
def tw7530366842247989228:=Nat
def tw7534467215248217224:=Nat
def tw7671137577080096101:=Nat
def tw7672212731498201082:=Nat
def tw7676725816895880789:=Nat
def tw7722364689234284093:=Nat
def tw7793534317289966356:=Nat
def tw7945334997290950257:=Nat
def tw7955714880192099603:=Nat
def tw8063767086401266379:=Nat
def tw8067383175059100996:=Nat
def tw811670979722096971:=Nat
def tw833606471639925552:=Nat
def tw8355827500469031945:=Nat
def tw8358493620544845001:=Nat
def tw8392140054667225695:=Nat
def tw8508580901043379419:=Nat
def tw8626353541024511867:=Nat
def tw8717336510904512903:=Nat
def tw8721511042866110207:=Nat
def tw8743259221281739211:=Nat
def tw879882629265577665:=Nat
def tw8890309805349612919:=Nat
def tw8900159802782426277:=Nat
def tw8914953254073413761:=Nat
def tw8972324505357138491:=Nat
def tw9013542108469147949:=Nat
def tw9047761229827005361:=Nat
def tw9058985433239603500:=Nat
def tw912050917389657861:=Nat
def tw9138056934001248394:=Nat
def tw9304070882430553354:=Nat
def tw9330291841925799203:=Nat
def tw9333195794466474252:=Nat
def tw9375324910189844285:=Nat
def tw9531396166106879600:=Nat
def tw954004408876487211:=Nat
def tw9545293203126137414:=Nat
def tw9596893692460492932:=Nat
def tw9604095699990788866:=Nat
def tw9640249335187016312:=Nat
def tw9646184265369016135:=Nat
def tw9839919683821497780:=Nat
def tw9844789206156372451:=Nat
def tw9871263214945186670:=Nat
def tw9903604167254477644:=Nat
def tw9930355478791255736:=Nat
def tw9960502091874617487:=Nat
def tw9960845583793944073:=Nat
end PySem.W.Fast
theorem L2.us1{P:List AEH->Prop}(h:∀a0,P [a0]):∀us:List AEH,us.length=1->P us
 | [a0],_=>h a0
theorem L2.us2{P:List AEH->Prop}(h:∀a0 a1,P [a0,a1]):∀us:List AEH,us.length=2->P us
 | [a0,a1],_=>h a0 a1
theorem L2.us3{P:List AEH->Prop}(h:∀a0 a1 a2,P [a0,a1,a2]):∀us:List AEH,us.length=3->P us
 | [a0,a1,a2],_=>h a0 a1 a2
local macro_rules | `(tactic| walk_at"fk")=>`(tactic| ((case a=>k_is);(case l=>k_is);(case c=>k_is);(case k=>k_is)))
local macro_rules | `(tactic| walk_at"f1")=>`(tactic| (refine' L2.fnat_mk (by assumption) (by assumption) ?a ?l ?c ?k (λ_ _ _ _ _ _=>L2.us1 (λ_=>rfl));walk_at"fk"))
local macro_rules | `(tactic| walk_at"f2")=>`(tactic| (refine' L2.fnat_mk (by assumption) (by assumption) ?a ?l ?c ?k (λ_ _ _ _ _ _=>L2.us2 (λ_ _=>rfl));walk_at"fk"))
local macro_rules | `(tactic| walk_at"f3")=>`(tactic| (refine' L2.fnat_mk (by assumption) (by assumption) ?a ?l ?c ?k (λ_ _ _ _ _ _=>L2.us3 (λ_ _ _=>rfl));walk_at"fk"))
open PySem PySem.W PyProof.Rows
set_option maxRecDepth 100000 in
set_option maxHeartbeats 0 in
theorem PySem.Challenge.cw_talkmarks_k13_logs_holds : PySem.Challenge.rw_talkmarks_k13_logs.Holds := by
 w_on; o_law; k_head; (case hw=>w_witness2)
 k_fill
 refine L2.law_walk (l:=PySem.Challenge.rw_talkmarks_k13_logs) (k:=14) (st:=LW.top 66) (x:="_law_script") rfl rfl rfl ⟨rfl,by decide,by decide⟩ (fun w h Y=>PySem.W.kIn_of Y) ?F<|fun _ _ _ _ _ _ _=>rfl
 case F =>
  intro w mg h X G;have T:∀ P base,LW.Tops P w (L2.KOf X) mg base:=by
   intro P base;dsimp only[L2.KOf];constructor;walk_at"f1";walk_at"f2";walk_at"f2";walk_at"f1";walk_at"f1";walk_at"f1";walk_at"f1";walk_at"f1";walk_at"f1";walk_at"f2";walk_at"f2";walk_at"f2";walk_at"f2";walk_at"f2";walk_at"f2";walk_at"f2";walk_at"f2";walk_at"f3";walk_at"f2";walk_at"f2";walk_at"f1";walk_at"f1";walk_at"f2";walk_at"f2";walk_at"f2";walk_at"f2";walk_at"f2";walk_at"f2";walk_at"f3";walk_at"f1";walk_at"f2";walk_at"f1";walk_at"f1";walk_at"f2";walk_at"f3";walk_at"f2";walk_at"f3";walk_at"f3";walk_at"f2";walk_at"f2";walk_at"f3";walk_at"f2";walk_at"f2";walk_at"f2";walk_at"f2";walk_at"f1";walk_at"f1";walk_at"f2";walk_at"f2";walk_at"f2";walk_at"f2";walk_at"f2";walk_at"f2";walk_at"f3";walk_at"f3";walk_at"f1"
   ·refine' L2.gdict_mk X G ?a ?s ?l ?e; (case a=>k_is); (case l=>k_is); (case s=>rfl)
    refine' L2.ents_cons ?l ?s ?v ?_; (case l=>k_is); (case s=>exact Nat.le_of_lt<|L2.small1000<|by decide); (case v=>exact .cons ⟨_,rfl⟩<|.cons ⟨_,rfl⟩<|.cons ⟨_,rfl⟩<|.nil);refine' L2.ents_cons ?l ?s ?v ?_; (case l=>k_is); (case s=>exact Nat.le_of_lt<|L2.small1000<|by decide); (case v=>exact .cons ⟨_,rfl⟩<|.cons ⟨_,rfl⟩<|.nil);refine' L2.ents_cons ?l ?s ?v ?_; (case l=>k_is); (case s=>exact Nat.le_of_lt<|L2.small1000<|by decide); (case v=>exact .cons ⟨_,rfl⟩<|.nil);refine' L2.ents_cons ?l ?s ?v ?_; (case l=>k_is); (case s=>exact Nat.le_of_lt<|L2.small1000<|by decide); (case v=>exact .cons ⟨_,rfl⟩<|.cons ⟨_,rfl⟩<|.cons ⟨_,rfl⟩<|.nil);refine' L2.ents_cons ?l ?s ?v ?_; (case l=>k_is); (case s=>exact Nat.le_of_lt<|L2.small1000<|by decide); (case v=>exact .cons ⟨_,rfl⟩<|.cons ⟨_,rfl⟩<|.nil);refine' L2.ents_cons ?l ?s ?v ?_; (case l=>k_is); (case s=>exact Nat.le_of_lt<|L2.small1000<|by decide); (case v=>exact .cons ⟨_,rfl⟩<|.nil);refine' L2.ents_cons ?l ?s ?v ?_; (case l=>k_is); (case s=>exact Nat.le_of_lt<|L2.small1000<|by decide); (case v=>exact .cons ⟨_,rfl⟩<|.cons ⟨_,rfl⟩<|.nil);refine' L2.ents_cons ?l ?s ?v ?_; (case l=>k_is); (case s=>exact Nat.le_of_lt<|L2.small1000<|by decide); (case v=>exact .cons ⟨_,rfl⟩<|.nil);exact True.intro
   ·unfold LW.B_ LW.C_
    iterate 14 (refine' L2.TopB.b ?tq ?_; (case tq=>refine' PySem.W.mg_none_of X G ?tr; (case tr=>k_is)))
    iterate 4 (refine' L2.TopB.c ?tq ?_; (case tq=>refine' L2.glob_mk X G ?tr ?ts; (case tr=>k_is); (case ts=>exact ⟨_,rfl⟩)))
    exact .nil
  exact ⟨(T PySem.Challenge.pw_talkmarks_k13_logs {}).f_law,fun base f d F=>LW.ok_law (T _ base) F⟩
